import PyProof.Rows.All
import Wide.All
import OpenK.AllK
import Wide.FinOn
import HandS.ForMost
import HandS.Ends
import HandS.Style
import HandS.TupAny
import HandS.TupMul
import HandS.Zip
import HandS.Rev
import HandS.Walk
import KE.GoesMore
import HandS.IsInst
import PyProof.ReprBulk
import KE.KCallOwn
import HandS.OwnEq
import KE.KSuper
import KE.KExcInit
import HandS.ExcSuper
import HandS.ExcOwn
import HandS.ExcField
import HandS.TryMany
import HandS.WordsExc
import KE.KPar
import HandS.ClsMeth
import HandS.Lambda
import KE.KNest
import PyProof.ReprLen
import PyProof.NeKinds
import HandS.SetFor
import HandS.Strs
import HandS.Small
import HandS.ExcIs
import KE.KExcIs
import HandS.FStr
import HandS.MapJoin
import HandS.Gcd
import HandS.Wide
import KE.GoesEnum
import PyProof.StrLawsChain
import PyProof.Rows.StrJoin2
import PyProof.Rows.StrItems
import PyProof.StrLaws
import PySem.Challenge.RW_mirrorbook_k09_mirrors_sums_and_common_b
set_option Elab.async false
set_option linter.all false
section
set_option maxRecDepth 100000
set_option maxHeartbeats 4000000
namespace MB
open PySem PySem.Spec PyProof.Rows L2
mutual
theorem Dp.flat {K : PySem.W.Frag} {H : Hp} : ∀ (d : PyData) (v : V), Dp K H v d → d.hasDict = false
  | .none, _, _ => by simp only [PyData.hasDict]
  | .bool _, _, _ => by simp only [PyData.hasDict]
  | .int _, _, _ => by simp only [PyData.hasDict]
  | .str _, _, _ => by simp only [PyData.hasDict]
  | .list ds, _, h => by
    cases h with
    | lst _ ha =>
      simp only [PyData.hasDict]
      exact Dp.flats ds _ ha
  | .tuple ds, _, h => by
    cases h with
    | tup _ ha =>
      simp only [PyData.hasDict]
      exact Dp.flats ds _ ha
  | .dict _, _, h => by cases h
theorem Dp.flats {K : PySem.W.Frag} {H : Hp} : ∀ (ds : List PyData) (vs : List V), DpAll K H vs ds → PyData.hasDictAll ds = false
  | [], _, _ => by simp only [PyData.hasDictAll]
  | d :: ds, _, h => by
    cases h with
    | cons h1 h2 =>
      simp only [PyData.hasDictAll]
      rw [Dp.flat d _ h1, Dp.flats ds _ h2]
      rfl
end
def rRepr (K : PySem.W.Frag) : List V → Hp → VK → Prop := fun xs H Q => ∃ x d, xs = [x] ∧ Dp K H x d ∧
  d.showable = true ∧ d.depth ≤ 60 ∧ d.shown.length ≤ sizeLine ∧ Q (.str d.shown) H
theorem call_repr {X : Cx} (hgu : X.A.guards = some []) (hu : X.A.units + 64 < cLine) : CallR X (.builtin "repr") (rRepr X.K) := by
  intro pins s σ H xs us Q I r h
  obtain ⟨x, d, rfl, hd, hs, hz, hl, q⟩ := h
  obtain ⟨u, rfl, ru⟩ := vals1 r
  have hu1 : X.A.units + 1 < cLine := by omega
  cases hd with
  | non =>
    cases ru
    simp only [PyData.shown] at q
    exact PySem.P.repr_of_none ⟨.str _, H, I.tok _, ⟨_, rfl⟩, q⟩
  | bl b =>
    cases ru
    simp only [PyData.shown] at q
    exact PySem.P.repr_of_bool ⟨.str _, H, I.tok _, ⟨_, rfl⟩, q⟩
  | int i =>
    obtain ⟨t, rfl⟩ := ru
    simp only [PyData.shown] at q
    simp only [PyData.showable, decide_eq_true_eq] at hs
    exact PySem.P.repr_of_int hs ⟨.str _, H, I.tok _, ⟨_, rfl⟩, q⟩
  | str z =>
    obtain ⟨t, rfl⟩ := ru
    simp only [PyData.shown] at q hl
    exact PySem.P.repr_of_str ⟨.str _, H, I.tok _, ⟨_, rfl⟩, q⟩ hl
  | @lst a ys ds h1 h2 =>
    obtain ⟨as, rd⟩ := Dp.reads I _ _ _ (Dp.lst h1 h2) ru
    cases ru
    refine repr_of_reads' rd hs (PyData.noDict_hsm (Dp.flat _ _ (Dp.lst h1 h2))) hgu (by omega) (fun _ _ e => e) (fun h' u tk k => ?_) hl
    exact ⟨.str _, H, I.kept (t' := tk) k, ⟨_, rfl⟩, q⟩
  | @tup a ys ds h1 h2 =>
    obtain ⟨as, rd⟩ := Dp.reads I _ _ _ (Dp.tup h1 h2) ru
    cases ru
    refine repr_of_reads' rd hs (PyData.noDict_hsm (Dp.flat _ _ (Dp.tup h1 h2))) hgu (by omega) (fun _ _ e => e) (fun h' u tk k => ?_) hl
    exact ⟨.str _, H, I.kept (t' := tk) k, ⟨_, rfl⟩, q⟩
theorem adj_back (n : Nat) : Builtin.Slice.sliceAdjust none none (-1) (n : Int) = ((n : Int) - 1, -1) := rfl
theorem places_back (n : Nat) : Builtin.Slice.slicePlaces ((n : Int) - 1) (-1) (-1) = n := by
  unfold Builtin.Slice.slicePlaces
  rw [if_neg (by decide)]
  split
  · have e : (-(-1) : Int) = 1 := rfl
    rw [e, Int.ediv_one]
    omega
  · omega
theorem picked_back (xs : Array Value) :
    ((List.range xs.size).filterMap fun (k : Nat) => xs[(((xs.size : Nat) : Int) - 1 + (k : Int) * (-1)).toNat]?) = xs.toList.reverse := by
  have e : ∀ k ∈ List.range xs.size, xs[(((xs.size : Nat) : Int) - 1 + (k : Int) * (-1)).toNat]? = xs[xs.size - 1 - k]? := by
    intro k hk
    have := List.mem_range.mp hk
    have z : (((xs.size : Nat) : Int) - 1 + (k : Int) * (-1)).toNat = xs.size - 1 - k := by omega
    rw [z]
  have fc : ∀ (l : List Nat) (f g : Nat → Option Value), (∀ k ∈ l, f k = g k) → l.filterMap f = l.filterMap g := by
    intro l f g
    induction l with
    | nil => intro _; rfl
    | cons z r ih =>
      intro hh
      rw [List.filterMap_cons, List.filterMap_cons, hh z List.mem_cons_self, ih fun k hk => hh k (List.mem_cons_of_mem _ hk)]
  rw [fc _ _ _ e]
  have e2 : (List.range xs.size).filterMap (fun k => xs[xs.size - 1 - k]?) = ((List.range xs.size).map fun k => xs.size - 1 - k).filterMap (fun k => xs[k]?) := by
    rw [List.filterMap_map]
    rfl
  rw [e2, PySem.W.krv_range, List.filterMap_reverse]
  have := PySem.W.krv_all xs
  rw [this]
section
variable {prog : Program} {w : World} {A : Around} {E : Value → Shared → Prop} {s : Shared}
theorem getItem_tup_back {t sl : Addr} {items : Array Value} {vl vu vk : Value} {Q : Value → Shared → Prop} (ht : IsTup s.heap t items)
    (hs : s.heap.IsSliceOf sl vl vu vk) (pl : IsPart vl none) (pu : IsPart vu none) (pk : IsPart vk (some (-1))) (hz : items.size ≤ sizeLine)
    (h : Q (.ref s.heap.objs.size) { s with heap := s.heap.push { cls := .type "tuple", data := .seq items.toList.reverse.toArray } }) :
    wpAny (model prog w) A (getItem (.ref t) (.ref sl)) Q E s := by
  have okz : sizeOk (.seq items.toList.reverse.toArray) := by
    show items.toList.reverse.toArray.size ≤ sizeLine
    rw [List.size_toArray, List.length_reverse, Array.length_toList]
    exact hz
  obtain ⟨os, hos, hcs, hds⟩ := id hs
  have hT : s.TypeIs (.ref sl) "slice" := ⟨os, hos, hcs⟩
  unfold getItem
  try with_reducible refine wpAny_holding ?_
  first
    | refine wpAny_bind (wpAny_pure ?_)
    | skip
  refine wpAny_bind (wpAny_sequenceKey ht.typeIs (by decide) ?_)
  refine wpAny_bind (wpAny_callSpecial?_slot (name := Str.ofString "__getitem__") ht.typeIs slot_tuple_getitem
    (wpAny_call_entry slot_tuple_getitem ht.typeIs PyProof.Rows.entry_tuple_getitem ?_ (PyProof.Rows.args_tuple_getitem _ _)))
  show wpAny _ _ (Builtin.Tuple.tupleItemsOf (.ref t) >>= _) _ _ s
  refine wpAny_bind (PyProof.Rows.tupleItemsOf_ ht ?_)
  refine wpAny_bind (wpAny_typeOf hT ?_)
  rw [if_pos (by decide)]
  have sa : ∀ {Q' : Int × Int × Nat → Shared → Prop} {E' : Value → Shared → Prop} {A' : Around}, Q' (((items.size : Nat) : Int) - 1, -1, items.size) s →
      wpAny (model prog w) A' (Builtin.Slice.sliceApplied (.ref sl) (pure ((items.size : Nat) : Int))) Q' E' s := by
    intro Q' E' A' q
    unfold Builtin.Slice.sliceApplied Builtin.Slice.sliceFields
    refine wpAny_bind (wpAny_bind (wpAny_field hos hds (x := vl) rfl (wpAny_bind
      (wpAny_field hos hds (x := vu) rfl (wpAny_bind (wpAny_field hos hds (x := vk) rfl (wpAny_pure ?_)))))))
    refine wpAny_bind (HT.slicePart_ pk ?_)
    show wpAny _ _ (if ((-1 : Int) == 0) = true then _ else _) _ _ s
    rw [if_neg (by decide)]
    refine wpAny_bind (HT.slicePart_ pl (wpAny_bind (HT.slicePart_ pu (wpAny_bind (wpAny_pure ?_)))))
    show wpAny _ _ (match Builtin.Slice.sliceAdjust none none (-1) ((items.size : Nat) : Int) with
      | (lo, hi) => pure (lo, (-1 : Int), Builtin.Slice.slicePlaces lo hi (-1))) _ _ s
    rw [adj_back]
    show wpAny _ _ (pure (((items.size : Nat) : Int) - 1, (-1 : Int), Builtin.Slice.slicePlaces (((items.size : Nat) : Int) - 1) (-1) (-1))) _ _ s
    rw [places_back]
    exact wpAny_pure q
  refine wpAny_bind (sa ?_)
  have hno : ¬ (((((items.size : Nat) : Int) - 1 == 0) && ((-1 : Int) == 1) && (items.size == items.size)) = true) := by
    intro q
    rw [Bool.and_eq_true, Bool.and_eq_true] at q
    exact absurd (eq_of_beq q.1.2) (by decide)
  show wpAny _ _ (if ((((items.size : Nat) : Int) - 1 == 0) && ((-1 : Int) == 1) && (items.size == items.size)) = true then _ else _) _ _ s
  rw [if_neg hno, picked_back]
  first
    | exact wpAny_bind (m := Builtin.Tuple.tupleExact _) (wpAny_newObj_type (wpAny_pure ⟨_, rfl, wpAny_pure h⟩) okz)
    | exact wpAny_bind (m := Builtin.Tuple.tupleExact _) (wpAny_newObj_type (wpAny_bind (wpAny_pure (wpAny_pure ⟨_, rfl, wpAny_pure h⟩))) okz)
    | exact wpAny_bind (wpAny_bind (m := Builtin.Tuple.tupleExact _) (wpAny_newObj_type (wpAny_pure (wpAny_pure ⟨_, rfl, wpAny_pure h⟩)) okz))
    | exact wpAny_bind (wpAny_bind (m := Builtin.Tuple.tupleExact _) (wpAny_newObj_type (wpAny_pure ⟨_, rfl, wpAny_pure h⟩) okz))
end
def tRevT (K : PySem.W.Frag) (te : TE) : TE := fun σ H Q => te σ H fun x H1 => ∃ a xs, x = .ref a ∧ SqT K H1 a xs ∧
  ∀ p, H1 p = none → Q (.ref p) (upd H1 p (.tup xs.reverse))
theorem pe_revT {X : Cx} {e : Expr} {te : TE} {k : Nat} {p1 p2 p3 pos : Pos} (he : PE X e te) :
    PE X (.Subscript e (.Slice none none (some (.UnaryOp .USub (.Constant (.int 1) k p1) p2)) p3) pos) (tRevT X.K te) := by
  refine ⟨fun pins s σ H Q I h => ?_⟩
  refine Subscript_ (thn (he.run pins s σ H _ I h) fun v s1 ⟨x, H1, I1, r1, q1⟩ => ?_)
  obtain ⟨a, xs, rfl, hx, q⟩ := q1
  cases r1
  have back : PO X (some (.UnaryOp .USub (.Constant (.int 1) k p1) p2)) (tPart (tUn (rU fun i => .int (-i)) (tC (.int 1)))) :=
    po_some (pe_un un_neg pe_int)
  refine wpAny_Slice (thn (po_none.run pins s1 σ H1 (fun o H2 => o = none ∧ H2 = H1) I1 ⟨rfl, rfl⟩) fun vl s2 ⟨l, H2, I2, pl, el, e2⟩ => ?_)
  subst el e2
  refine thn (po_none.run pins s2 σ H2 (fun o H3 => o = none ∧ H3 = H2) I2 ⟨rfl, rfl⟩) fun vu s3 ⟨u, H3, I3, pu, eu, e3⟩ => ?_
  subst eu e3
  refine thn (back.run pins s3 σ H3 (fun o H4 => o = some (-1) ∧ H4 = H3) I3 ⟨1, rfl, -1, rfl, rfl, rfl⟩) fun vk s4 ⟨o, H4, I4, pk, eo, e4⟩ => ?_
  subst eo e4
  have I5 : Inv X pins σ H4 { s4 with heap := s4.heap.push { cls := .type "slice", data := .fields #[vl, vu, vk] } } :=
    I4.kept (t' := s4.toks) fun b ob z => Heap.get?_push_of_some _ z
  obtain ⟨its, r, ht, hz⟩ := I5.tuple hx
  have hlen := r.length
  show wpAny (model X.prog X.w) X.A (subscriptTail e (.Slice none none (some (.UnaryOp .USub (.Constant (.int 1) k p1) p2)) p3)
    (.ref a) (.ref s4.heap.objs.size)) (EP X pins σ Q) X.xe { s4 with heap := s4.heap.push { cls := .type "slice", data := .fields #[vl, vu, vk] } }
  refine tail_any (ops := [.ref a, .ref s4.heap.objs.size]) ht.typeIs slot_tuple_getitem.lookup ?_ (by with_unfolding_all rfl)
  refine getItem_tup_back ht (Heap.IsSliceOf.new _ vl vu vk) pl pu pk (by rw [List.size_toArray]; omega) ?_
  refine ⟨.ref _, _, I5.laid (t' := s4.toks) (o := .tup xs.reverse) (fun b ob z => Heap.get?_push_of_some _ z) (Nat.le_refl _) ?_, rfl,
    q _ (I5.hok.fresh (Nat.le_refl _))⟩
  exact ⟨by rw [List.length_reverse]; omega, _, r.reverse, IsTup.new _ _⟩
section
variable {K : PySem.W.Frag} {a b : Addr} {xs ys : List V}
theorem walk_zipT {n : Nat} (hn : n = min xs.length ys.length) :
    Walk (RZ.ItzT K a b) n (fun H => SqT K H a xs ∧ SqT K H b ys) (YPair (fun i => xs[i]?) (fun i => ys[i]?)) := by
  subst hn
  refine ⟨fun i _ hi q => ?_, fun _ q => ⟨xs, ys, q.1, q.2, by omega⟩, fun i H v H' _ q y => ?_⟩
  · have h1 : i < xs.length := by omega
    have h2 : i < ys.length := by omega
    exact ⟨xs, ys, xs[i], ys[i], q.1, q.2, by simp [h1], by simp [h2]⟩
  · obtain ⟨T, x, z, h1, h2, h3, h4, h5⟩ := y
    exact ⟨T, x, z, h1, h2, h3, h4 xs q.1, h5 ys q.2⟩
theorem walk_revT : Walk (RT.ItvT K a xs.length) xs.length (fun H => SqT K H a xs) (fun i H x H' => H' = H ∧ xs[xs.length - 1 - i]? = some x) := by
  refine ⟨fun i _ hi q => ⟨hi, xs, xs[xs.length - 1 - i]'(by omega), q, by simp [show xs.length - 1 - i < xs.length by omega]⟩, fun _ _ => Nat.le_refl _, ?_⟩
  intro i H x H' _ q y
  exact ⟨y.1, y.2 xs q⟩
end
end MB
end
section
set_option maxRecDepth 100000
set_option maxHeartbeats 4000000
namespace MB
open PySem PySem.Spec PyProof.Rows L2
theorem mul_once (l : Addr) (items : Array Value) (n : Nat) (dd : Option Addr) (sl : Array (Option Value)) (u : Tok) :
    Meets (Builtin.«tuple.__mul__» ⟨[.ref l, .int 1 u], []⟩) (fun _ R s =>
      s.heap.get? l = some { cls := .type "tuple", dict := dd, data := .seq items n, slots := sl } ∧ R (.ok (.ret (.ref l))) s) :=
  .of_wp fun prog w A R s h => by
    obtain ⟨hp, g, d, tk, os⟩ := s
    obtain ⟨hl, h⟩ := h
    have f1 := AutoSeq1.idx_int
    wp_walk using wpAny_loadPart' hl
    repeat (first
      | (refine wpAny_ite_false (by decide) ?_; wp_walk using wpAny_loadPart' hl)
      | (refine wpAny_ite_true (by simp) ?_; wp_walk using wpAny_loadPart' hl))
    all_goals exact ⟨_, rfl, h⟩
theorem mul_none (l : Addr) (items : Array Value) (n : Nat) (dd : Option Addr) (sl : Array (Option Value)) (x : Int) (u : Tok)
    (c0 : (decide (x < -(2 ^ 63)) || decide (x ≥ 2 ^ 63)) = false) (c1 : (items.isEmpty || x == 1) = false) (c2 : (decide (x ≤ 0) || items.isEmpty) = true) :
    Meets (Builtin.«tuple.__mul__» ⟨[.ref l, .int x u], []⟩) (fun _ R s =>
      s.heap.get? l = some { cls := .type "tuple", dict := dd, data := .seq items n, slots := sl } ∧
      R (.ok (.ret (Value.ref s.heap.objs.size))) { s with heap := s.heap.push { cls := Value.type "tuple", data := Data.seq #[] }, toks := s.toks }) :=
  .of_wp fun prog w A R s h => by
    obtain ⟨hp, g, d, tk, os⟩ := s
    obtain ⟨hl, h⟩ := h
    have f1 := AutoSeq1.idx_int
    wp_walk using wpAny_loadPart' hl
    repeat (first
      | (refine wpAny_ite_false (decide_eq_false (by rw [c0]; exact Bool.false_ne_true)) ?_; wp_walk using wpAny_loadPart' hl)
      | (refine wpAny_ite_false (decide_eq_false (by rw [c1]; exact Bool.false_ne_true)) ?_; wp_walk using wpAny_loadPart' hl)
      | (refine wpAny_ite_true (decide_eq_true c2) ?_; wp_walk using wpAny_loadPart' hl))
    exact ⟨_, rfl, h⟩
def rRepA (K : PySem.W.Frag) : R2 := fun x y H Q => ∃ l k xs, x = .ref l ∧ y = .int k ∧ SqT K H l xs ∧ xs ≠ [] ∧ -(2 ^ 63) ≤ k ∧ k ≤ 1000 ∧ xs.length ≤ 1000 ∧
  (k = 1 → Q (.ref l) H) ∧ (k ≠ 1 → ∀ p, H p = none → Q (.ref p) (upd H p (.tup (List.replicate k.toNat xs).flatten)))
theorem op_repA {X : Cx} : OpR X (binaryOp .Mult) (rRepA X.K) := by
  intro pins s σ H x y v u Q I rx ry h
  obtain ⟨l, k, xs, rfl, rfl, hT, hne, h0, h2, hz, q1, qn⟩ := h
  by_cases hbig : 2 ≤ k
  · exact op_repT pins s σ H _ _ v u Q I rx ry ⟨l, k, xs, rfl, rfl, hT, hne, hbig, h2, hz, qn (by omega)⟩
  · cases rx
    obtain ⟨t, rfl⟩ := ry
    obtain ⟨its, r, ⟨⟨cls, dd, data, sl⟩, ho, hc, n, hd⟩, hs⟩ := I.tuple hT
    simp only at hc hd
    subst hc hd
    have hle : its.length = xs.length := r.length.symm
    have hi : its.toArray.isEmpty = false := by
      cases its with
      | nil => exact absurd (List.eq_nil_of_length_eq_zero hle.symm) hne
      | cons _ _ => rfl
    refine wpAny_binaryOp_repeat_ref (T := "tuple") (U := "int") (by decide) ⟨_, ho, rfl⟩ (fun s' => typeIs_int s' k t) noFill_tuple_mul
      F.fills_int_mul F.slot_int_rmul repeat_tuple F.slot_int_index.lookup (call_meets F.slot_int_rmul (typeIs_int s k t) F.entry_int_rmul
        (F.args_int_rmul_2 _ _) (int_rmul_tuple k t l its.toArray n dd sl) ⟨ho, rfl, ⟨_, ho, rfl⟩, ?_⟩)
    by_cases h1 : k = 1
    · subst h1
      exact call_meets F.slot_tuple_mul ⟨_, ho, rfl⟩ F.entry_tuple_mul (F.args_tuple_mul_2 _ _) (mul_once l its.toArray n dd sl t)
        ⟨ho, .ref l, H, I, rfl, q1 rfl⟩
    · have c0 : (decide (k < -(2 ^ 63)) || decide (k ≥ 2 ^ 63)) = false := by
        rw [decide_eq_false (by omega), decide_eq_false (by omega)]
        rfl
      have c1 : (its.toArray.isEmpty || k == 1) = false := by
        rw [hi, Bool.false_or]
        exact beq_eq_false_iff_ne.mpr h1
      have c2 : (decide (k ≤ 0) || its.toArray.isEmpty) = true := by
        rw [decide_eq_true (by omega)]
        rfl
      refine call_meets F.slot_tuple_mul ⟨_, ho, rfl⟩ F.entry_tuple_mul (F.args_tuple_mul_2 _ _) (mul_none l its.toArray n dd sl k t c0 c1 c2) ⟨ho, ?_⟩
      have e0 : (List.replicate k.toNat xs).flatten = [] := by
        rw [show k.toNat = 0 by omega]
        rfl
      have q := qn h1
      rw [e0] at q
      refine ⟨.ref s.heap.objs.size, _, I.laid (t' := s.toks) (o := .tup []) (fun b ob z => Heap.get?_push_of_some _ z) (Nat.le_refl _) ?_, rfl,
        q _ (I.hok.fresh (Nat.le_refl _))⟩
      exact ⟨Nat.zero_le _, [], .nil, IsTup.new _ _⟩
end MB
end
section
set_option maxRecDepth 100000
set_option maxHeartbeats 4000000
namespace MB
open PySem PySem.Spec PyProof.Rows L2
open AutoSeq1 (wpAny_loadPart')
abbrev tupIt (t : Addr) : Obj := { cls := .type "tuple_iterator", data := .fields #[.ref t, .int 0 0] }
abbrev enumObj (it : Addr) : Obj := { cls := .type "enumerate", data := .fields #[.none, .bool false, .ref it, rawInt 0, .none, .none] }
theorem new_enum_tup (l : Addr) (items : Array Value) (n : Nat) (dct : Option Addr) (sl : Array (Option Value)) :
    Meets (Builtin.«enumerate.__new__» ⟨[.type "enumerate", .ref l], []⟩) (fun _ R s =>
      s.heap.get? l = some { cls := .type "tuple", dict := dct, data := .seq items n, slots := sl } ∧
      R (.ok (.ret (.ref (s.heap.push (tupIt l)).objs.size))) { s with heap := (s.heap.push (tupIt l)).push (enumObj s.heap.objs.size) }) :=
  .of_wp fun prog w A R s h => by
    obtain ⟨hp, g, d, tk, os⟩ := s
    obtain ⟨hl, h⟩ := h
    have hsub := sub_enumerate
    have hL : Heap.IsTuple (Shared.heap ⟨hp, g, d, tk, os⟩) l items := ⟨_, hl, rfl, n, rfl⟩
    wp_walk using wpAny_loadPart' hl
    refine wpAny_stack_any fun st => wpAny_pure ?_
    split
    · rename_i c _ _ _ _ _
      cases (c == Value.type "enumerate") <;>
      · wp_walk using wpAny_loadPart' hl, wpAny_pyIter_tuple hL
        exact ⟨_, rfl, h⟩
    · wp_walk using wpAny_loadPart' hl, wpAny_pyIter_tuple hL
      exact ⟨_, rfl, h⟩
section
variable {prog : Program} {w : World} {A : Around} {E : Value → Shared → Prop} {s : Shared}
theorem call_enum_tup {l : Addr} {items : Array Value} {Q : Value → Shared → Prop} (hL : s.heap.IsTuple l items)
    (h : ∀ h', IsEnum h' (s.heap.objs.size + 1) s.heap.objs.size 0 .none → h'.IsTupleIter s.heap.objs.size l 0 →
      (∀ b o, s.heap.get? b = some o → h'.get? b = some o) → Q (.ref (s.heap.objs.size + 1)) { s with heap := h' }) :
    wpAny (model prog w) A (call (.type "enumerate") [.ref l]) Q E s := by
  obtain ⟨⟨c, dct, dt, sl⟩, hl, hc, n, hd⟩ := hL
  replace hc : c = .type "tuple" := hc
  replace hd : dt = .seq items n := hd
  subst hc hd
  refine callType_new F.called_enumerate (by decide) (F.typeCall_enumerate_1 _) (F.newCall_enumerate_1 _)
    (fun obj => F.args_object_init_2 obj _) F.entry_enumerate_new (new_enum_tup l items n dct sl) ⟨hl, ?_⟩
  have hz : (s.heap.push (tupIt l)).objs.size = s.heap.objs.size + 1 := Heap.size_push ..
  show _ ∧ _
  rw [hz]
  have he : IsEnum ((s.heap.push (tupIt l)).push (enumObj s.heap.objs.size)) (s.heap.objs.size + 1) s.heap.objs.size 0 .none := by
    have q := Heap.get?_push_size (s.heap.push (tupIt l)) (o := enumObj s.heap.objs.size) rfl
    rw [hz] at q
    exact q
  exact ⟨⟨_, he, rfl⟩, h _ he ⟨_, Heap.get?_push_of_some _ (Heap.get?_push_size _ rfl), rfl, rfl⟩
    fun b o x => Heap.get?_push_of_some _ (Heap.get?_push_of_some _ x)⟩
end
def IteT (K : PySem.W.Frag) (a : Addr) : It :=
  ⟨fun i H => ∃ (xs : List V) (x : V), SqT K H a xs ∧ xs[i]? = some x,
   fun i H v H' => ∃ T x, v = .ref T ∧ H T = none ∧ H' = upd H T (.tup [.int (i : Nat), x]) ∧ ∀ xs, SqT K H a xs → xs[i]? = some x,
   fun i H => ∃ xs : List V, SqT K H a xs ∧ xs.length = i⟩
theorem turn_enumT {P : Program} {w : World} {K : PySem.W.Frag} {elts : List Expr} {kk : Nat} {tpos : Pos} (a e it : Addr) (hai : a ≠ it) (hae : a ≠ e) :
    Turn P w K (.Tuple elts kk tpos) (IteT K a) [e, it] e
      (fun i h => (∃ old, IsEnum h e it ((i : Nat) : Int) old) ∧ h.IsTupleIter it a i ∧ e ≠ it) where
  mem := by simp
  obj := fun i h st b hb => by
    obtain ⟨⟨old, he⟩, ⟨o, ho, hc, hd⟩, _⟩ := st
    have hb' : b = e ∨ b = it := by simpa using hb
    rcases hb' with z | z
    · subst z
      exact ⟨_, he, fun v q => nomatch q⟩
    · subst z
      exact ⟨o, ho, fun v q => by rw [hd] at q; cases q⟩
  keep := fun i h h' st k => by
    obtain ⟨⟨old, he⟩, hi, hne⟩ := st
    exact ⟨⟨old, k e (by simp) _ he⟩, hi.at fun o q => k it (by simp) o q, hne⟩
  item := by
    intro X hP hw hK hc i pins s σ H E I hf st hg
    subst hP hw hK
    obtain ⟨⟨old, he⟩, hit, hne⟩ := st
    obtain ⟨xs, x, hq, hx⟩ := hg
    obtain ⟨its, rv, p, hz⟩ := I.tuple hq
    obtain ⟨u, hu, ru⟩ := rv.get hx
    have hel : e < s.heap.objs.size := Heap.lt_size he
    have hil : it < s.heap.objs.size := by
      obtain ⟨_, q, _⟩ := hit
      exact Heap.lt_size q
    have hlt : i < its.toArray.size := by
      rw [List.size_toArray]
      exact (List.getElem?_eq_some_iff.mp hu).1
    have hh : X.A.in1.handled = none := I.ok.hd hc
    refine wpAny_pyNext_enum_itemD (Draws.tuple hh it a hai its.toArray) he ⟨hit, p⟩ hlt hne (by simp [hne, Ne.symm hae]) fun y h' tk hy ho hst hT hsz hk => ?_
    have eyu : y = u := by
      have z : its.toArray[i]? = some u := by simpa using hu
      rw [z] at hy
      exact (Option.some.inj hy).symm
    subst eyu
    refine ⟨_, rfl, wpAny_letOwnedTupleGo_enum (s := { s with heap := h', toks := tk + 1 }) ho fun h'' he' sb => ?_⟩
    have hT2 : h''.get? s.heap.objs.size = some { cls := .type "tuple", data := .seq #[.int i tk, y] } :=
      (sb.2 _ (Nat.ne_of_gt hel)).trans hT
    have new : ObjOk X.prog X.w (upd H s.heap.objs.size (.tup [.int (i : Nat), x])) h'' s.heap.objs.size (.tup [.int (i : Nat), x]) :=
      ⟨(by decide : 2 ≤ sizeLine), [.int i tk, y], .cons ⟨_, rfl⟩ (.cons ru .nil), ⟨_, hT2, rfl, _, rfl⟩⟩
    have I1 : Inv X pins σ (upd H s.heap.objs.size (.tup [.int (i : Nat), x])) { s with heap := h'', toks := tk + 1 } :=
      I.turnedNew (ch := [e, it]) (fun b ob hb q => (sb.2 b (fun z => hb (by simp [z]))).trans
        (hk b ob (fun z => hb (by simp [z])) (fun z => hb (by simp [z])) q)) hf (Nat.le_refl _) new
    refine ⟨.ref s.heap.objs.size, _, I1, rfl, ⟨_, x, rfl, I.hok.fresh (Nat.le_refl _), rfl, fun ys hy => by rw [I.tuple_inj hy hq]; exact hx⟩,
      ⟨⟨y, ?_⟩, hst.1.at fun o q => (sb.2 it (Ne.symm hne)).trans q, hne⟩, fun b hb => ?_⟩
    · have e1 : ((i + 1 : Nat) : Int) = (i : Int) + 1 := by omega
      rw [e1]
      exact he'
    · have hb' : b < s.heap.objs.size := by
        have z : b = e ∨ b = it := by simpa using hb
        rcases z with z | z <;> subst z <;> assumption
      rw [upd_ne (Nat.ne_of_lt hb')]
      exact (hf b hb).1
  done := by
    intro X hP hw hK hc i pins s σ H E I hf st hg
    subst hP hw hK
    obtain ⟨⟨old, he⟩, hit, hne⟩ := st
    obtain ⟨xs, hq, hx⟩ := hg
    obtain ⟨its, rv, p, hz⟩ := I.tuple hq
    obtain ⟨f0, f1, f2, f3, f4, f5⟩ := hf it (by simp)
    have hn : its.toArray.size = i := by
      rw [List.size_toArray, ← rv.length]
      exact hx
    rw [← hn] at hit
    have hh : X.A.in1.handled = none := I.ok.hd hc
    exact wpAny_pyNext_enum_endD (Draws.tuple hh it a hai its.toArray) he ⟨hit, p⟩
      fun h' eb => ⟨rfl, I.turned (t' := s.toks) (fun b o hb q => eb b o hb q) f0 f1 f3 f4 f5⟩
  self := fun A i s Q E st h => by
    obtain ⟨⟨_, he⟩, _⟩ := st
    exact wpAny_pyIter_enum he h
def iEnumT (K : PySem.W.Frag) (ta : TA) : TI := fun σ H R => ta σ H fun vs H1 => ∃ a xs, vs = [.ref a] ∧ SqT K H1 a xs ∧ R (IteT K a) H1
theorem pi_enumT {X : Cx} {e : Expr} {ta : TA} {p pos tpos : Pos} {elts : List Expr} {kk : Nat} (hg : Gl X "enumerate") (hm : X.mg "enumerate" = none)
    (ha : PA X [e] ta) (hs : starEach [e] X.env = [(false, eval e X.env)] := by rfl) :
    PI X (.Tuple elts kk tpos) (.Call (.Name "enumerate" p) [e] [] pos) (iEnumT X.K ta) := by
  refine ⟨fun pins s σ H R I h => ?_⟩
  refine Call_ (ld_blt I hg hm boot_enumerate (callWith_type1 (thn (ha.run pos pins s σ H _ I h) fun us s1 ⟨vs, H1, I1, r1, q1⟩ => ?_) hs rfl))
  obtain ⟨a, xs, ex, hq, q⟩ := q1
  subst ex
  obtain ⟨u, rfl, r⟩ := vals1 r1
  cases r
  obtain ⟨its, rv, p', hz⟩ := I1.tuple hq
  have hal : a < s1.heap.objs.size := p'.lt
  refine call_enum_tup p' fun h' he hit hk => wpAny_pyIter_enum he ?_
  have I2 : Inv X pins σ H1 { s1 with heap := h' } := I1.kept (t' := s1.toks) hk
  refine ⟨s1.heap.objs.size + 1, [s1.heap.objs.size + 1, s1.heap.objs.size], _, _, H1, rfl, I2,
    turn_enumT a (s1.heap.objs.size + 1) s1.heap.objs.size (Nat.ne_of_lt hal) (Nat.ne_of_lt (Nat.lt_succ_of_lt hal)),
    ⟨⟨.none, he⟩, hit, Nat.succ_ne_self _⟩, fun b hb => ?_, q⟩
  have hle : s1.heap.objs.size ≤ b := by
    have z : b = s1.heap.objs.size + 1 ∨ b = s1.heap.objs.size := by simpa using hb
    rcases z with z | z
    · rw [z]
      exact Nat.le_succ _
    · rw [z]
      exact Nat.le_refl _
  exact I1.fpOk hle (I1.hok.fresh hle)
theorem walk_enumT {K : PySem.W.Frag} {a : Addr} {xs : List V} :
    Walk (IteT K a) xs.length (fun H => SqT K H a xs) (YPair (fun i => some (.int (i : Nat))) (fun i => xs[i]?)) := by
  refine ⟨fun i _ hi q => ⟨xs, xs[i], q, by simp [hi]⟩, fun _ q => ⟨xs, q, rfl⟩, fun i H v H' _ q y => ?_⟩
  obtain ⟨T, x, h1, h2, h3, h4⟩ := y
  exact ⟨T, .int (i : Nat), x, h1, h2, h3, rfl, h4 xs q⟩
end MB
end
section
set_option maxRecDepth 100000
namespace MB
open PySem PySem.Spec PyProof.Rows L2
section
variable {K : PySem.W.Frag} {H H' : Hp}
theorem TyX.same {v : V} {t : Value} (h : TyX K H v t) (e : Same H H') : TyX K H' v t := by
  cases h with
  | base b =>
    cases b with
    | non => exact .base .non
    | bl x => exact .base (.bl x)
    | int i => exact .base (.int i)
    | str x => exact .base (.str x)
    | flt x => exact .base (.flt x)
    | lst q => exact .base (.lst (e _ _ q))
    | frz q => exact .base (.frz (e _ _ q))
    | tup q => exact .base (.tup (e _ _ q))
    | dK q => exact .base (.dK (e _ _ q))
    | dT q => exact .base (.dT (e _ _ q))
    | ins q c1 c2 c3 c4 c5 => exact .base (.ins (e _ _ q) c1 c2 c3 c4 c5)
  | byt b => exact .byt b
  | set q => exact .set (e _ _ q)
  | kList q c => exact .kList q c
  | kTuple q c => exact .kTuple q c
  | kDict q c => exact .kDict q c
  | fTuple q => exact .fTuple (e _ _ q)
  | fDict q => exact .fDict (e _ _ q)
def TupQ (K : PySem.W.Frag) (H : Hp) (v : V) : Option (List V) → Prop
  | some xs => ∃ a, v = .ref a ∧ SqT K H a xs
  | none => ∃ t, TyX K H v t ∧ PySem.W.kitOne K t (.type "tuple") = some false
def IntQ (K : PySem.W.Frag) (H : Hp) (v : V) : Option Int → Prop
  | some i => v = .int i
  | none => (∃ b, v = .bl b) ∨ ∃ t, TyX K H v t ∧ PySem.W.kitOne K t (.type "int") = some false
theorem sqT_same {a : Addr} {xs : List V} (e : Same H H') (h : SqT K H a xs) : SqT K H' a xs := by
  rcases h with (q | ⟨o, q⟩) | q
  · exact .inl (.inl (e _ _ q))
  · exact .inl (.inr ⟨o, e _ _ q⟩)
  · exact .inr q
theorem TupQ.same {v : V} {o : Option (List V)} (h : TupQ K H v o) (e : Same H H') : TupQ K H' v o := by
  cases o with
  | some xs =>
    obtain ⟨a, h1, h2⟩ := h
    exact ⟨a, h1, sqT_same e h2⟩
  | none =>
    obtain ⟨t, h1, h2⟩ := h
    exact ⟨t, TyX.same h1 e, h2⟩
theorem IntQ.same {v : V} {o : Option Int} (h : IntQ K H v o) (e : Same H H') : IntQ K H' v o := by
  cases o with
  | some i => exact h
  | none =>
    rcases h with h | ⟨t, h1, h2⟩
    · exact .inl h
    · exact .inr ⟨t, TyX.same h1 e, h2⟩
theorem IntQ.seen {v : V} {o : Option Int} (h : IntQ K H v o) : (∃ i, o = some i ∧ v = .int i) ∨ o = none := by
  cases o with
  | some i => exact .inl ⟨i, rfl, h⟩
  | none => exact .inr rfl
end
end MB
end
section
set_option maxRecDepth 100000
namespace MB
open PySem PySem.Spec PyProof.Rows L2
def keyD : Key → PyData
  | .inl i => .int i
  | .inr x => .str x
mutual
inductive Dq (K : PySem.W.Frag) (H : Hp) : V → PyData → Prop
  | non : Dq K H .non .none
  | bl (b : Bool) : Dq K H (.bl b) (.bool b)
  | int (i : Int) : Dq K H (.int i) (.int i)
  | str (x : Str) : Dq K H (.str x) (.str x)
  | lst {a : Addr} {xs : List V} {ds : List PyData} : SqL K H a xs → DqAll K H xs ds → Dq K H (.ref a) (.list ds)
  | tup {a : Addr} {xs : List V} {ds : List PyData} : SqT K H a xs → DqAll K H xs ds → Dq K H (.ref a) (.tuple ds)
  | dic {a : Addr} {kvs : List (Key × V)} {ds : List (PyData × PyData)} : H a = some (.dK kvs) → DqKv K H kvs ds → Dq K H (.ref a) (.dict ds)
inductive DqAll (K : PySem.W.Frag) (H : Hp) : List V → List PyData → Prop
  | nil : DqAll K H [] []
  | cons {v : V} {vs : List V} {d : PyData} {ds : List PyData} : Dq K H v d → DqAll K H vs ds → DqAll K H (v :: vs) (d :: ds)
inductive DqKv (K : PySem.W.Frag) (H : Hp) : List (Key × V) → List (PyData × PyData) → Prop
  | nil : DqKv K H [] []
  | cons {k : Key} {v : V} {d : PyData} {kvs : List (Key × V)} {ds : List (PyData × PyData)} : Dq K H v d → DqKv K H kvs ds → DqKv K H ((k, v) :: kvs) ((keyD k, d) :: ds)
end
def SM (base : Heap) : Prop := ∃ mm, base.Ns sysModules mm
section
variable {K : PySem.W.Frag} {H H' : Hp}
theorem sqL_same {a : Addr} {xs : List V} (e : Same H H') (h : SqL K H a xs) : SqL K H' a xs := e.seq h
mutual
theorem Dq.same (e : Same H H') : ∀ (d : PyData) (v : V), Dq K H v d → Dq K H' v d
  | .none, _, h => by cases h; exact .non
  | .bool b, _, h => by cases h; exact .bl b
  | .int i, _, h => by cases h; exact .int i
  | .str x, _, h => by cases h; exact .str x
  | .list ds, _, h => by
    cases h with
    | lst h1 h2 => exact .lst (sqL_same e h1) (DqAll.same e ds _ h2)
  | .tuple ds, _, h => by
    cases h with
    | tup h1 h2 => exact .tup (sqT_same e h1) (DqAll.same e ds _ h2)
  | .dict ds, _, h => by
    cases h with
    | dic h1 h2 => exact .dic (e _ _ h1) (DqKv.same e ds _ h2)
theorem DqAll.same (e : Same H H') : ∀ (ds : List PyData) (vs : List V), DqAll K H vs ds → DqAll K H' vs ds
  | [], _, h => by cases h; exact .nil
  | d :: ds, _, h => by
    cases h with
    | cons h1 h2 => exact .cons (Dq.same e d _ h1) (DqAll.same e ds _ h2)
theorem DqKv.same (e : Same H H') : ∀ (ds : List (PyData × PyData)) (kvs : List (Key × V)), DqKv K H kvs ds → DqKv K H' kvs ds
  | [], _, h => by cases h; exact .nil
  | (_, d) :: ds, _, h => by
    cases h with
    | cons h1 h2 => exact .cons (Dq.same e d _ h1) (DqKv.same e ds _ h2)
end
end
section
variable {X : Cx} {pins : List (Addr × Obj)} {σ : L2.St} {H : Hp} {s : Shared}
theorem not_mods (I : L2.Inv X pins σ H s) (sm : SM X.base) {a : Addr} {o : Obj} {vs : Array Value} {n : Nat} (e : s.heap.get? a = some o) (c : o.data = .seq vs n) : sysModules ≠ a := fun z => by
  obtain ⟨mm, o', es, ep, h1, h2, _⟩ := sm
  have h3 := I.bk _ _ h1
  rw [z, e] at h3
  have h4 := Option.some.inj h3
  subst h4
  rw [c] at h2
  cases h2
mutual
theorem Dq.reads (I : L2.Inv X pins σ H s) (sm : SM X.base) : ∀ (d : PyData) (v : V) (u : Value), Dq X.K H v d → RelV v u → ∃ as, Reads s.heap u d as ∧ sysModules ∉ as
  | .none, _, _, h, r => by
    cases h
    cases r
    exact ⟨_, .none, by simp⟩
  | .bool b, _, _, h, r => by
    cases h
    cases r
    exact ⟨_, .bool b, by simp⟩
  | .int i, _, _, h, r => by
    cases h
    obtain ⟨t, rfl⟩ := r
    exact ⟨_, .int i t, by simp⟩
  | .str x, _, _, h, r => by
    cases h
    obtain ⟨t, rfl⟩ := r
    exact ⟨_, .str x t, by simp⟩
  | .list ds, _, _, h, r => by
    cases h with
    | lst hs ha =>
      cases r
      obtain ⟨its, rv, ⟨o, n, ho, hc, _, hd⟩, _⟩ := I.list hs
      obtain ⟨as, hr, no⟩ := DqAll.reads I sm ds _ its ha rv
      refine ⟨_, .list ho hc hd hr, fun z => ?_⟩
      rcases List.mem_cons.mp z with z | z
      · exact not_mods I sm ho hd z
      · exact no z
  | .tuple ds, _, _, h, r => by
    cases h with
    | tup hs ha =>
      cases r
      obtain ⟨its, rv, ⟨o, ho, hc, n, hd⟩, _⟩ := I.tuple hs
      obtain ⟨as, hr, no⟩ := DqAll.reads I sm ds _ its ha rv
      exact ⟨_, .tuple ho hc hd hr, no⟩
  | .dict ds, _, _, h, r => by
    cases h with
    | @dic a kvs _ he hk =>
      cases r
      obtain ⟨_, na, vs, rel, o, es, ep, ho, ex, hd, _, pr, _⟩ := dk_of I.hok he
      obtain ⟨as, bs, h1, h2, no1, no2⟩ := DqKv.reads I sm ds kvs vs es.toList hk rel pr
      refine ⟨_, .dict ho ex.1 hd h1 h2, fun z => ?_⟩
      rcases List.mem_append.mp z with z | z
      · rcases List.mem_cons.mp z with z | z
        · rw [z, beq_self_eq_true] at na
          cases na
        · exact no1 z
      · exact no2 z
theorem DqAll.reads (I : L2.Inv X pins σ H s) (sm : SM X.base) : ∀ (ds : List PyData) (vs : List V) (us : List Value), DqAll X.K H vs ds → Vals vs us → ∃ as, ReadsAll s.heap us ds as ∧ sysModules ∉ as
  | [], _, _, h, r => by
    cases h
    cases r
    exact ⟨_, .nil, by simp⟩
  | d :: ds, _, _, h, r => by
    cases h with
    | cons h1 h2 =>
      cases r with
      | cons r1 r2 =>
        obtain ⟨as, q1, n1⟩ := Dq.reads I sm d _ _ h1 r1
        obtain ⟨bs, q2, n2⟩ := DqAll.reads I sm ds _ _ h2 r2
        refine ⟨_, .cons q1 q2, fun z => ?_⟩
        rcases List.mem_append.mp z with z | z
        · exact n1 z
        · exact n2 z
theorem DqKv.reads (I : L2.Inv X pins σ H s) (sm : SM X.base) : ∀ (ds : List (PyData × PyData)) (kvs : List (Key × V)) (vs : List (Key × Value)) (es : List DictEntry), DqKv X.K H kvs ds → KV kvs vs →
    Pairs (mixKind X.prog X.w) es vs → ∃ as bs, ReadsAll s.heap (es.map (·.key)) (ds.map (·.1)) as ∧ ReadsAll s.heap (es.map (·.val)) (ds.map (·.2)) bs ∧ sysModules ∉ as ∧ sysModules ∉ bs
  | [], _, _, _, h, r, p => by
    cases h
    cases r
    cases p
    exact ⟨_, _, .nil, .nil, by simp, by simp⟩
  | (_, d) :: ds, _, _, _, h, r, p => by
    cases h with
    | @cons k v _ kvs _ h1 h2 =>
      cases r with
      | @cons _ kv _ vs r1 r2 =>
        cases p with
        | @cons e _ es _ p1 p2 p3 =>
          obtain ⟨as, bs, q1, q2, n1, n2⟩ := DqKv.reads I sm ds _ _ _ h2 r2 p3
          obtain ⟨cs, q3, n3⟩ := Dq.reads I sm d _ _ h1 r1.2
          have key : Reads s.heap e.key (keyD k) [] := by
            have p1' : keyIs kv.1 e.key = true := p1
            rw [← r1.1] at p1'
            obtain ⟨i, t, e1, e2⟩ | ⟨x, t, e1, e2⟩ := keyIs_shape p1'
            · rw [show k = .inl i from e1, e2]
              exact .int i t
            · rw [show k = .inr x from e1, e2]
              exact .str x t
          have val : Reads s.heap e.val d cs := by
            rw [p2]
            exact q3
          refine ⟨_, _, .cons key q1, .cons val q2, ?_, ?_⟩
          · simpa using n1
          · intro z
            rcases List.mem_append.mp z with z | z
            · exact n3 z
            · exact n2 z
end
end
structure Told (d : PyData) : Prop where
  sh : d.showable = true
  lv : d.leavesShort 60 = true
  bu : d.bulk ≤ 200000
  de : d.depth ≤ 40
theorem Told.fits {d : PyData} (t : Told d) : d.shown.length ≤ sizeLine := by
  have h := PyData.shown_le_bulk 60 (by decide) d t.lv
  have hb := t.bu
  rw [sizeLine_eq]
  omega
def rTell (K : PySem.W.Frag) : List V → Hp → VK → Prop := fun xs H Q => ∃ x d, xs = [x] ∧ Dq K H x d ∧ Told d ∧ Q (.str d.shown) H
theorem call_tell {X : Cx} (sm : SM X.base) (hgu : X.A.guards = some []) (hu : X.A.units + 64 < cLine) : CallR X (.builtin "repr") (rTell X.K) := by
  intro pins s σ H xs us Q I r h
  obtain ⟨x, d, rfl, hd, t, q⟩ := h
  obtain ⟨u, rfl, ru⟩ := vals1 r
  have hu1 : X.A.units + 1 < cLine := by omega
  have fin : ∀ {a : Addr} {d : PyData}, Dq X.K H (.ref a) d → Told d → (∀ s' : Shared, L2.Inv X pins σ H s' → Q (.str d.shown) H) →
      wpAny (model X.prog X.w) X.A (call (.builtin "repr") [.ref a]) (EP X pins σ Q) X.xe s := fun {a d} hd t q => by
    obtain ⟨as, rd, no⟩ := Dq.reads I sm d _ _ hd (show RelV (.ref a) (.ref a) from rfl)
    have hz := t.de
    refine repr_of_reads' rd t.sh (fun _ => no) hgu (by omega) (fun _ _ e => e) (fun h' u tk k => ?_) t.fits
    have J := I.kept (t' := tk) k
    exact ⟨.str _, H, J, ⟨_, rfl⟩, q _ J⟩
  cases hd with
  | non =>
    cases ru
    simp only [PyData.shown] at q
    exact PySem.P.repr_of_none ⟨.str _, H, I.tok _, ⟨_, rfl⟩, q⟩
  | bl b =>
    cases ru
    simp only [PyData.shown] at q
    exact PySem.P.repr_of_bool ⟨.str _, H, I.tok _, ⟨_, rfl⟩, q⟩
  | int i =>
    obtain ⟨tk, rfl⟩ := ru
    have hs := t.sh
    simp only [PyData.shown] at q
    simp only [PyData.showable, decide_eq_true_eq] at hs
    exact PySem.P.repr_of_int hs ⟨.str _, H, I.tok _, ⟨_, rfl⟩, q⟩
  | str z =>
    obtain ⟨tk, rfl⟩ := ru
    have hl := t.fits
    simp only [PyData.shown] at q hl
    exact PySem.P.repr_of_str ⟨.str _, H, I.tok _, ⟨_, rfl⟩, q⟩ hl
  | lst h1 h2 =>
    cases ru
    exact fin (.lst h1 h2) t fun _ _ => q
  | tup h1 h2 =>
    cases ru
    exact fin (.tup h1 h2) t fun _ _ => q
  | dic h1 h2 =>
    cases ru
    exact fin (.dic h1 h2) t fun _ _ => q
section
variable {K : PySem.W.Frag} {H : Hp}
def asInt : PyData → Option Int
  | .int i => some i
  | _ => none
def asInts : PyData → Option (List (Option Int))
  | .tuple ds => some (ds.map asInt)
  | _ => none
theorem tyx_lst {a : Addr} {xs : List V} (h : SqL K H a xs) : TyX K H (.ref a) (.type "list") := by
  rcases h with (q | ⟨o, q⟩) | ⟨o, its, n, h1, h2, _⟩
  · exact .base (.lst q)
  · exact .base (.frz q)
  · exact .kList h1 h2
theorem tyx_tpl {a : Addr} {xs : List V} (h : SqT K H a xs) : TyX K H (.ref a) (.type "tuple") := by
  rcases h with (q | ⟨o, q⟩) | ⟨o, its, n, h1, h2, _⟩
  · exact .base (.tup q)
  · exact .fTuple q
  · exact .kTuple h1 h2
theorem Dq.int? {v : V} {d : PyData} (h : Dq K H v d) : IntQ K H v (asInt d) := by
  cases h with
  | non => exact .inr ⟨_, .base .non, kit_ty (r := false) (by decide +kernel)⟩
  | bl b => exact .inl ⟨b, rfl⟩
  | int i => rfl
  | str x => exact .inr ⟨_, .base (.str x), kit_ty (r := false) (by decide +kernel)⟩
  | lst h1 h2 => exact .inr ⟨_, tyx_lst h1, kit_ty (r := false) (by decide +kernel)⟩
  | tup h1 h2 => exact .inr ⟨_, tyx_tpl h1, kit_ty (r := false) (by decide +kernel)⟩
  | dic h1 h2 => exact .inr ⟨_, .base (.dK h1), kit_ty (r := false) (by decide +kernel)⟩
theorem DqAll.ints : ∀ {xs : List V} {ds : List PyData}, DqAll K H xs ds → Paired (IntQ K H) xs (ds.map asInt)
  | _, _, .nil => .nil
  | _, _, .cons h1 h2 => .cons h1.int? h2.ints
def asTuple : PyData → Option (List PyData)
  | .tuple ds => some ds
  | _ => none
theorem Dq.noTuple {v : V} {d : PyData} (h : Dq K H v d) (e : asTuple d = none) : TupQ K H v none := by
  cases h with
  | non => exact ⟨_, .base .non, kit_ty (r := false) (by decide +kernel)⟩
  | bl b => exact ⟨_, .base (.bl b), kit_ty (r := false) (by decide +kernel)⟩
  | int i => exact ⟨_, .base (.int i), kit_ty (r := false) (by decide +kernel)⟩
  | str x => exact ⟨_, .base (.str x), kit_ty (r := false) (by decide +kernel)⟩
  | lst h1 h2 => exact ⟨_, tyx_lst h1, kit_ty (r := false) (by decide +kernel)⟩
  | tup h1 h2 => cases e
  | dic h1 h2 => exact ⟨_, .base (.dK h1), kit_ty (r := false) (by decide +kernel)⟩
theorem DqAll.length : ∀ {xs : List V} {ds : List PyData}, DqAll K H xs ds → xs.length = ds.length
  | _, _, .nil => rfl
  | _, _, .cons _ h2 => by rw [List.length_cons, List.length_cons, h2.length]
end
end MB
end
section
set_option maxRecDepth 100000
namespace MB
open PySem PySem.Spec PyProof.Rows L2
variable {K : PySem.W.Frag} {H : Hp}
mutual
theorem Dq.dp : ∀ {v : V} (d : PyData), Dq K H v d → d.canLay0 = true → Dp K H v d
  | _, .none, .non, _ => .non
  | _, .bool b, .bl _, _ => .bl b
  | _, .int i, .int _, _ => .int i
  | _, .str x, .str _, _ => .str x
  | _, .list ds, .lst h1 h2, h => .lst h1 (DqAll.dp ds h2 (by simpa only [PyData.canLay0] using h))
  | _, .tuple ds, .tup h1 h2, h => .tup h1 (DqAll.dp ds h2 (by simpa only [PyData.canLay0] using h))
theorem DqAll.dp : ∀ {vs : List V} (ds : List PyData), DqAll K H vs ds → PyData.canLayAll0 ds = true → DpAll K H vs ds
  | _, [], .nil, _ => .nil
  | _, d :: ds, .cons h1 h2, h => by
    simp only [PyData.canLayAll0, Bool.and_eq_true] at h
    exact .cons (Dq.dp d h1 h.1) (DqAll.dp ds h2 h.2)
end
theorem eqv_str (d : PyData) (x : Str) : PyData.eqv d (.str x) = true ↔ d = .str x := by
  cases d with
  | str y =>
    simp only [PyData.eqv, beq_iff_eq, PyData.str.injEq]
  | _ => simp [PyData.eqv]
theorem eqvAll_ints : ∀ ns ms : List Int, PyData.eqvAll (ns.map PyData.int) (ms.map PyData.int) = decide (ns = ms)
  | [], [] => by simp [PyData.eqvAll]
  | [], _ :: _ => by simp [PyData.eqvAll]
  | _ :: _, [] => by simp [PyData.eqvAll]
  | a :: ns, b :: ms => by
    simp only [List.map_cons, PyData.eqvAll, PyData.eqv, eqvAll_ints ns ms]
    rw [Bool.eq_iff_iff]
    simp
theorem eqv_ints (ns ms : List Int) : PyData.eqv (.tuple (ns.map PyData.int)) (.tuple (ms.map PyData.int)) = decide (ns = ms) := by
  simp only [PyData.eqv, eqvAll_ints]
end MB
end
section
set_option maxRecDepth 100000
set_option maxHeartbeats 2000000
namespace MB
open PySem PySem.Spec PyProof.Rows L2
section
variable {X : Cx} {CX : CXT} {C f : Addr} {fd : FuncData} {ps : List Str} {sp : Sp} {E : XK} {n : Nat}
def rStrOwn (C : Addr) (sp : Sp) (E : XK) : List V → Hp → VK → Prop := fun xs H Q => ∃ a dx fs, xs = [V.ref a] ∧ H a = some (.ins C dx fs) ∧ sp [.ref a] H (fun z H' => ∃ y, z = .str y ∧ Q z H') E
theorem call_strOwn (F : FnOk X.prog X.w X.K X.mg X.base CX n f fd ps sp) (hs : PySem.W.findIn X.K (.ref C) "__str__" = some (some (.ref f))) (hf : PySem.W.isFn X.K (.ref f) = true)
    (hb : Binds X.K fd ps []) (hr : Room (n + 2) X.A) (hx : Passes CX X E) : CallR X (.type "str") (rStrOwn C sp E) := by
  intro pins s σ H xs us Q I r h
  obtain ⟨a, dx, fs, rfl, ha, q⟩ := h
  obtain ⟨u, rfl, ru⟩ := r.one
  cases (show u = Value.ref a from ru)
  obtain ⟨mA, J, _⟩ := ins_get I.hok ha
  obtain ⟨od, J, _⟩ := J.look
  have hr2 : Room n X.A.in1.in1 := (show Room (n + 1) X.A.in1 from Room.in1 hr).in1
  have hl := F.len _ _ _ _ q
  refine PySem.W.kso_call (Q := EP X pins σ Q) hr2.units0 I.kIn J hs hf (wpAny_mono (wpAny_call (codeAny_mono (F.run X.A.in1.in1 X.stack s H ⟨[.ref a], []⟩ [.ref a] [.ref a] _ E hr2 I.env0.in1.in1 (by
    have := hb s [.ref a] I.kIn (by simpa using hl)
    simpa using this) (.cons rfl .nil) q) fun r s' hq => ?_) (Q := fun w s' => EP X pins σ (fun z H' => ∃ y, z = .str y ∧ Q z H') w s') (E := X.xe)) (fun w s' z => ?_) fun _ _ x => x)
  · cases r with
    | error e => exact hx pins σ H s e s' I hq
    | ok fl =>
      cases fl with
      | ret w => exact I.after hq
      | next => exact False.elim hq
      | brk => exact False.elim hq
      | cont => exact False.elim hq
  · obtain ⟨z', H', I', rz, y, ey, qz⟩ := z
    subst ey
    obtain ⟨t, e⟩ := (show ∃ t, w = Value.str y t from rz)
    cases e
    exact ⟨.str y, H', I', ⟨t, rfl⟩, qz⟩
end
section
variable {prog : Program} {w : World} {A : Around} {E : Value → Shared → Prop} {s : Shared} {K : PySem.W.Frag} {x C f : Addr} {ox : Obj} {od : Option Obj} {b : Value}
theorem neBound {Q : Option Value → Shared → Prop} (X : K.In s.heap) (I : PySem.W.InstAt s.heap x ox C od) (hn : PySem.W.findIn K (.ref C) "__ne__" = some (some (.builtin "object.__ne__")))
    (h : wpAny (model prog w) A (call (.builtin "object.__ne__") [.ref x, b]) (fun v => Q (some v)) E s) : wpAny (model prog w) A (callSpecialIfBound? (.ref x) "__ne__" [b]) Q E s := by
  simp only [callSpecialIfBound?, bindSpecialIfBound?]
  refine wpAny_holding (wpAny_bind (wpAny_bind (wpAny_bind (I.type.here ((PySem.W.looks_findIn X hn).here ?_)))))
  refine wpAny_bind (wpAny_askSetting (wpAny_ite ?_))
  have fin : wpAny (model prog w) A (call (.builtin "object.__ne__") ([.ref x] ++ [b]) >>= fun v => pure (some v)) Q E s := wpAny_bind (wpAny_mono h (fun v s' h' => wpAny_pure h') fun _ _ h' => h')
  have bd := PySem.F.slot_object_ne.bind (.ref x)
  split
  · exact wpAny_bind (wpAny_of_eq bd (wpAny_pure (by exact fin)))
  · exact wpAny_tryCatch (wpAny_bind (wpAny_of_eq bd (wpAny_pure (by exact fin))))
theorem neOwn {Q : Value → Shared → Prop} (hu : A.units < cLine) (hu1 : A.in1.units < cLine) (X : K.In s.heap) (I : PySem.W.InstAt s.heap x ox C od) (hb : PySem.W.Looks (model prog w) s.heap (typeOf b) (.ref C))
    (hn : PySem.W.findIn K (.ref C) "__ne__" = some (some (.builtin "object.__ne__"))) (hs : PySem.W.findIn K (.ref C) "__eq__" = some (some (.ref f))) (hf : PySem.W.isFn K (.ref f) = true) (ho : PySem.W.subIn K (.ref C) (.type "object") = some true)
    (h : wpAny (model prog w) A.in1 (call (.ref f) [.ref x, b]) (fun v s' => ∃ r, v = .bool r ∧ Q (.bool (!r)) s') E s) : wpAny (model prog w) A (compareOp .NotEq (.ref x) b) Q E s := by
  have one : wpAny (model prog w) A (tryCompare (.ref x) "__ne__" b) (fun r s' => ∃ v, r = some v ∧ Q v s') E s := by
    unfold tryCompare
    refine wpAny_bind (neBound X I hn (wpAny_call (codeAny_call_builtin PySem.F.slot_object_ne.plain PySem.F.cmpEntry_ne
      (PySem.W.check_slot PySem.F.cmpKind_ne PySem.F.cmpSplit_ne (I.type.andThen (PySem.W.looks_subIn X ho)) (PySem.F.cmpArgs_ne _ _) ?_))))
    unfold Builtin.«object.__ne__»
    refine wpAny_bind (wpAny_pure ?_)
    refine wpAny_bind (wpAny_cRoomFor hu1 ?_)
    refine wpAny_bind (PySem.W.ifBound_K X I hs hf (wpAny_mono h (fun v s' hv => ?_) fun _ _ e => e))
    obtain ⟨r, rfl, hq⟩ := hv
    first
      | exact wpAny_bind (wpAny_truthy_bool (wpAny_pure (wpAny_pure ⟨_, rfl, hq⟩)))
      | exact wpAny_bind (wpAny_truthy_bool (wpAny_pure ⟨_, rfl, hq⟩))
      | trace_state
  show wpAny _ _ (richCompare .NotEq (.ref x) b) _ _ _
  unfold richCompare
  simp only [oneThing_ref]
  refine wpAny_holding (wpAny_bind (wpAny_cRoomFor hu ?_))
  refine wpAny_bind (I.type.here (wpAny_bind (hb.here ?_)))
  rw [show (Value.ref C != Value.ref C) = false from by simp]
  simp only [Bool.false_eq_true, if_false]
  refine wpAny_bind (wpAny_pure ?_)
  simp only [Bool.false_eq_true, if_false]
  refine wpAny_bind (wpAny_mono one (fun r s' z => ?_) fun _ _ e => e)
  obtain ⟨v, rfl, hq⟩ := z
  exact wpAny_pure hq
end
section
variable {X : Cx} {CX : CXT} {C f : Addr} {fd : FuncData} {ps : List Str} {E : XK} {n : Nat} {R : Addr → Addr → Hp → Prop}
def rNeG (D : Eqv) : R2 := fun x y H Q => D x y H ∧ ∀ H', Ext H H' → Q (.bl false) H'
theorem op_neIns (F : FnOk X.prog X.w X.K X.mg X.base CX n f fd ps (spEq R)) (hn : PySem.W.findIn X.K (.ref C) "__ne__" = some (some (.builtin "object.__ne__")))
    (hs : PySem.W.findIn X.K (.ref C) "__eq__" = some (some (.ref f))) (hf : PySem.W.isFn X.K (.ref f) = true) (ho : PySem.W.subIn X.K (.ref C) (.type "object") = some true) (hb : Binds X.K fd ps []) (hx : Passes CX X E) (hr : Room (n + 1) X.A) :
    OpR X (compareOp .NotEq) (rNeG (DIns C R)) := by
  intro pins s σ H x y v u Q I rx ry hq
  obtain ⟨⟨a, b, dx, dy, fs, gs, rfl, rfl, ha, hb', hr'⟩, q⟩ := hq
  cases (show v = Value.ref a from rx)
  cases (show u = Value.ref b from ry)
  obtain ⟨mA, J, _⟩ := ins_get I.hok ha
  obtain ⟨mB, J', _⟩ := ins_get I.hok hb'
  obtain ⟨od, J, _⟩ := J.look
  obtain ⟨od', J', _⟩ := J'.look
  have hr1 : Room n X.A.in1 := Room.in1 hr
  refine neOwn hr.units0 hr1.units0 I.kIn J J'.type hn hs hf ho ?_
  have hsp : spEq R [.ref a, .ref b] H (fun v H' => v = .bl true ∧ Ext H H') E := ⟨a, b, rfl, hr', fun H' e => ⟨rfl, e⟩⟩
  have hl := F.len _ _ _ _ hsp
  have r2 : Vals [V.ref a, V.ref b] [Value.ref a, Value.ref b] := .cons rfl (.cons rfl .nil)
  refine wpAny_call (codeAny_mono (F.run X.A.in1 X.stack s H ⟨[.ref a, .ref b], []⟩ [.ref a, .ref b] [.ref a, .ref b] _ E hr1 I.env0.in1 (by
    have := hb s [.ref a, .ref b] I.kIn (by simpa using hl)
    simpa using this) r2 hsp) fun r s' hq => ?_)
  cases r with
  | error e => exact hx pins σ H s e s' I hq
  | ok fl =>
    cases fl with
    | ret w =>
      obtain ⟨z, H', I', rz, ez, ex⟩ := I.after hq
      subst ez
      cases rz
      exact ⟨true, rfl, .bl false, H', I', rfl, q H' ex⟩
    | next => exact False.elim hq
    | brk => exact False.elim hq
    | cont => exact False.elim hq
end
end MB
end
section
set_option maxRecDepth 100000
set_option maxHeartbeats 4000000
namespace MB
open PySem PySem.Spec PyProof.Rows L2
structure FnG (P : Program) (w : World) (K : PySem.W.Frag) (mg : Str → Option Value)
    (base : Heap) (k : Nat) (f : Addr) (fd : FuncData) (ps : List Str) (sp : Sp) : Prop where
  many : ∀ xs H Q E, sp xs H Q E → xs.length = ps.length
  goes : ∀ (A : Around) (outer : List Env) (s : Shared) (H : Hp) (args : Args)
    (us : List Value) (xs : List V) (Q : VK) (E : XK), Room k A → A.guards = some [] →
    Env0 P w K mg base A outer s H → BindsTo s fd args (ps.zip us) → Vals xs us →
    sp xs H Q E → codeAny (model P w) A (.call (.ref f) args) (CR CX0 outer P w H s Q E) s
section
variable {P : Program} {w : World} {K : PySem.W.Frag} {mg : Str → Option Value} {base : Heap}
variable {k : Nat} {f : Addr} {fd : FuncData} {ps : List Str} {sp : Sp}
theorem FnG.ofOk (F : FnOk P w K mg base CX0 k f fd ps sp) : FnG P w K mg base k f fd ps sp :=
  ⟨F.len, fun A outer s H args us xs Q E hr _ => F.run A outer s H args us xs Q E hr⟩
theorem fnG {x qual : Str} {st : Stmt} {N : List Str} (F : Fun K x qual st f fd)
    (S : FnScope N ps (defScope st)) (many : ∀ xs H Q E, sp xs H Q E → xs.length = ps.length)
    (body : ∀ (cdv : Value) (A : Around) (outer : List Env) (s : Shared) (H : Hp) (xs : List V)
      (Q : VK) (E : XK),
      Room k (A.deeper (envOfC qual (defScope st) s.heap.objs.size f cdv)) → A.guards = some [] →
      sp xs H Q E → ∃ t, PSs (cxOf CX0 P w K mg base N qual (defScope st) f cdv A outer s H E).nox (defBody st) t ∧
        t { nx := fun _ H' => Q .non H', rt := Q } (start N xs) H) :
    FnG P w K mg base (k + 1) f fd ps sp := by
  obtain ⟨oc, od, kV, doc, pm, an, cdv, ct, osl, efd, lk, hcd⟩ := F.ex
  refine ⟨many, fun A outer s H args us xs Q E hr hgu e0 hb r hsp => ?_⟩
  subst efd
  have hlen := many _ _ _ _ hsp
  have KX : K.In s.heap := e0.mod.kin.keeps fun b o e => (e0.bs b o e).1
  have lim : s.heap.NoLimit := e0.mod.nolimit.keeps fun b o e => (e0.bs b o e).1
  have kinds : ∀ y ∈ ps.zip us, (defScope st).names.lookup y.1 = some .local ∨
      ((defScope st).names.lookup y.1 = some .cell ∧
        ((cellsFrom (s.heap.objs.size + 1) (defScope st).names []).lookup y.1).isSome = true) := by
    rintro ⟨n, v⟩ hy
    rcases S.par n (List.of_mem_zip hy).1 with q | q
    · exact Or.inl q
    · exact Or.inr ⟨q, PySem.W.cellsFrom_some _ _ _ (Or.inl q)⟩
  refine codeAny_call_function hr.depth (KX _ _ lk) rfl S.co S.gen rfl
    (PySem.W.codeRec_of KX hcd) (hb _ _ _ _ ?_)
  refine wpAny_newFunctionEnv_cells S.kind kinds fun env he s1 x => ?_
  subst he
  refine ⟨lim.keeps x.toInCall.keep, codeAny_func ?_⟩
  obtain ⟨t, ht, hq⟩ := body cdv A outer s H xs Q E (hr.deeper _) hgu hsp
  have I : Inv (cxOf CX0 P w K mg base N qual (defScope st) f cdv A outer s H E) [] (start N xs) H s1 :=
    inv_start S hr.hd e0 hlen r x
  refine wpAny_mono (ht.nox.run [] s1 (start N xs) H _ I hq) (fun fl s' hs => ?_) fun e s' hs => hs
  cases fl with
  | ret u =>
    obtain ⟨v, σ', H', J, rv, q⟩ := hs
    exact ⟨v, H', J.os, J.bare, J.base, J.hok, rv, q⟩
  | next =>
    obtain ⟨σ', H', J, q⟩ := hs
    exact ⟨V.non, H', J.os, J.bare, J.base, J.hok, rfl, q⟩
  | brk =>
    obtain ⟨_, _, _, q⟩ := hs
    exact False.elim q
  | cont =>
    obtain ⟨_, _, _, q⟩ := hs
    exact False.elim q
end
section
variable {X : Cx} {k : Nat} {f : Addr} {fd : FuncData} {ps ks : List Str} {sp : Sp}
variable {x : Str} {p pos : Pos} {e : Expr} {es : List Expr} {t : TA}
theorem runG {pins : List (Addr × Obj)} {σ : L2.St} {H : Hp} {s : Shared} {Q : VK} {us as : List Value}
    {xs : List V} {kw : List (Str × Value)} (F : FnG X.prog X.w X.K X.mg X.base k f fd ps sp) (hr : Room k X.A) (hgu : X.A.guards = some [])
    (hb : BindsTo s fd ⟨us, kw⟩ (ps.zip as)) (I : Inv X pins σ H s) (r : Vals xs as) (h : sp xs H Q E0) :
    wpAny (model X.prog X.w) X.A (call (.ref f) us kw) (EP X pins σ Q) X.xe s := by
  refine wpAny_call (codeAny_mono (F.goes X.A X.stack s H ⟨us, kw⟩ as xs Q E0 hr hgu I.env0 hb r h)
    fun q s' hq => ?_)
  cases q with
  | error e => exact hq.elim
  | ok fl =>
    cases fl with
    | ret u => exact I.after hq
    | next => exact False.elim hq
    | brk => exact False.elim hq
    | cont => exact False.elim hq
theorem pe_callG (F : FnG X.prog X.w X.K X.mg X.base k f fd ps sp) (hr : Room k X.A) (hgu : X.A.guards = some [])
    (hg : Gl X x) (hm : X.mg x = some (.ref f)) (hk : PySem.W.keepIn X.K (.ref f) = true) (hb : Binds X.K fd ps [])
    (ha : PA X (e :: es) t) (hdb : (x == ("__debug__" : Str)) = false := by decide)
    (he : starEach (e :: es) X.env = (false, eval e X.env) :: starEach es X.env := by rfl)
    (hpl : (backTo pos (starEach es X.env)).any (·.1) = false := by rfl) :
    PE X (.Call (.Name x p) (e :: es) [] pos) (tCall sp [] E0 t) := by
  refine ⟨fun pins s σ H Q I h => ?_⟩
  refine wpAny_Call_Name_kw (ld_glob I hg hm ?_ hdb)
  refine PySem.W.callWith_K (h₀ := X.base) I.ok.mod.kin hk
    (thn (ha.run pos pins s σ H _ I h) fun us s1 ⟨xs, H1, I1, r, q⟩ => ⟨I1.kIn, ?_⟩) he hpl
  have q' : sp (xs ++ []) H1 Q E0 := q
  rw [List.append_nil] at q'
  have hl : (us ++ ([] : List Value)).length = ps.length := by
    rw [List.append_nil, ← r.length]
    exact F.many _ _ _ _ q'
  have bb := hb s1 us I1.kIn hl
  rw [List.append_nil] at bb
  exact runG F hr hgu bb I1 r q'
end
theorem lawG_at {P : Program} {w : World} {K : PySem.W.Frag} {mg mb : Str → Option Value} {k : Nat} {fa a : Addr}
    {fd : FuncData} {x : Str} {sp : Sp} {s₁ : Shared} {us : List Value} {ns : List Int} {H : Hp}
    (KX : K.In s₁.heap) (hns : s₁.heap.Ns mainGlobals mg) (hb : s₁.heap.Ns builtinsNs mb)
    (hbb : ∀ x : Str, x ≠ "__name__" → mb x = bootBuiltins x) (hlim : s₁.heap.NoLimit) (hg : s₁.gens = #[])
    (ha : s₁.heap.get? a = some { cls := .type "list", data := .seq us.toArray }) (hr : Room k callerA)
    (F : ∀ base : Heap, K.In base → base.Ns mainGlobals mg → FnG P w K mg base k fa fd [x] sp)
    (hbind : ∀ (s : Shared) (u : Value), BindsTo s fd ⟨[u], []⟩ [(x, u)])
    (hsp : sp [.ref a] H (fun v _ => v = .bl true) E0) (hO : Only H) (hok : HOk P w H s₁.heap)
    (hA : ∀ b, H b ≠ none → b = a) (hK : H a ≠ none → K.lookup a = none) :
    codeAny (model P w) callerA (.call (.ref fa) ⟨[.ref a], []⟩)
      (fun r s' => r = .ok (.ret (.bool true)) ∧ OldK s₁.heap s'.heap ∧ s'.os = s₁.os ∧ AllBare s'.gens) s₁ := by
  have noA : ∀ {b : Addr} {o : Obj} {es : Array DictEntry} {ep : Nat},
      s₁.heap.get? b = some o → o.data = .dict es ep → H b = none := by
    intro b o es ep e d
    cases q : H b with
    | none => rfl
    | some u =>
      obtain rfl : b = a := hA b (by simp [q])
      rw [ha] at e
      cases e
      exact absurd d (by intro z; cases z)
  have nsK : ∀ {b : Addr} {m : Str → Option Value}, s₁.heap.Ns b m → (hidT s₁.heap H).Ns b m :=
    fun {b m} ⟨o, es, ep, e, d, r⟩ => ⟨o, es, ep, hidT_get e (noA e d), d, r⟩
  have hKb : K.In (hidT s₁.heap H) := by
    intro b o e
    refine hidT_get (KX b o e) ?_
    cases q : H b with
    | none => rfl
    | some u =>
      obtain rfl : b = a := hA b (by simp [q])
      rw [hK (by simp [q])] at e
      cases e
  have hM : Mod K mg (hidT s₁.heap H) :=
    ⟨hKb, nsK hns, ⟨mb, nsK hb, hbb⟩, let ⟨mc, h1, h2⟩ := hlim; ⟨mc, nsK h1, h2⟩⟩
  have e0 : Env0 P w K mg (hidT s₁.heap H) callerA [] s₁ H :=
    ⟨rfl, hM, fun b o e => of_hidT e, Nat.le_of_eq (hidT_size _ _), trivial,
      fun b hb => absurd (show b ∈ ([] : List Addr) from hb) (by simp), hok, .of_eq hg⟩
  refine codeAny_mono ((F _ hKb (nsK hns)).goes callerA [] s₁ H ⟨[.ref a], []⟩ [.ref a] [.ref a] _ _ hr rfl e0
    (hbind s₁ (.ref a)) (.cons rfl .nil) hsp) fun r s' h => ?_
  cases r with
  | error e => exact h.elim
  | ok fl =>
    cases fl with
    | next => exact False.elim h
    | brk => exact False.elim h
    | cont => exact False.elim h
    | ret u =>
      obtain ⟨v, H', os, bare, un, hok', r', q⟩ := h
      have q' : v = .bl true := q
      subst q'
      obtain rfl : u = Value.bool true := r'
      refine ⟨rfl, OldK.of_keep fun b o e => ?_, os, bare⟩
      cases q : H b with
      | none => exact un.keep b o e q (fun z => absurd (show b ∈ ([] : List Addr) from z) (by simp)) (by simp)
      | some u =>
        rcases hO b with z | ⟨ob, xs, z⟩
        · rw [q] at z
          cases z
        · obtain ⟨e1, _⟩ := hok b _ z
          obtain ⟨e2, _⟩ := hok' b _ (un.frzs b ob _ z)
          rw [e] at e1
          cases e1
          exact e2
theorem lawG_call {P : Program} {w : World} {K : PySem.W.Frag} {mg mb : Str → Option Value} {k : Nat} {fa a : Addr}
    {fd : FuncData} {x : Str} {sp : Sp} {s₁ : Shared} {us : List Value} {ns : List Int}
    (KX : K.In s₁.heap) (hns : s₁.heap.Ns mainGlobals mg) (hb : s₁.heap.Ns builtinsNs mb)
    (hbb : ∀ x : Str, x ≠ "__name__" → mb x = bootBuiltins x) (hlim : s₁.heap.NoLimit) (hg : s₁.gens = #[])
    (ha : s₁.heap.get? a = some { cls := .type "list", data := .seq us.toArray }) (hi : IntsAre us ns)
    (hl : ns.length ≤ sizeLine) (hr : Room k callerA)
    (F : ∀ base : Heap, K.In base → base.Ns mainGlobals mg → FnG P w K mg base k fa fd [x] sp)
    (hbind : ∀ (s : Shared) (u : Value), BindsTo s fd ⟨[u], []⟩ [(x, u)])
    (hsp : ∀ H : Hp, Only H → SqL K H a (ns.map V.int) → sp [.ref a] H (fun v _ => v = .bl true) E0) :
    codeAny (model P w) callerA (.call (.ref fa) ⟨[.ref a], []⟩)
      (fun r s' => r = .ok (.ret (.bool true)) ∧ OldK s₁.heap s'.heap ∧ s'.os = s₁.os ∧ AllBare s'.gens) s₁ := by
  have rv := vals_ints hi
  have len1 := hi.length
  cases hk : K.lookup a with
  | some o =>
    have e := KX a o hk
    rw [ha] at e
    cases e
    have hS : SqL K (fun _ => none) a (ns.map V.int) :=
      Or.inr ⟨_, us.toArray, _, hk, rfl, rfl, rfl, by rw [List.size_toArray, len1]; exact hl, by simpa using rv⟩
    exact lawG_at (H := fun _ => none) (ns := ns) KX hns hb hbb hlim hg ha hr F hbind
      (hsp _ (fun _ => Or.inl rfl) hS) (fun _ => Or.inl rfl)
      (fun b u z => by cases (show (none : Option HO) = some u from z)) (fun b z => absurd rfl z) fun z => absurd rfl z
  | none =>
    let ob : Obj := { cls := .type "list", data := .seq us.toArray }
    let H0 : Hp := fun b => if b = a then some (.frz ob (.lst (ns.map V.int))) else none
    have at0 : H0 a = some (.frz ob (.lst (ns.map V.int))) := if_pos rfl
    have off : ∀ b, b ≠ a → H0 b = none := fun b hb => if_neg hb
    have hO : Only H0 := fun b => by
      by_cases hb : b = a
      · subst hb
        exact Or.inr ⟨_, _, at0⟩
      · exact Or.inl (off b hb)
    have hok : HOk P w H0 s₁.heap := fun b u z => by
      by_cases hb : b = a
      · subst hb
        rw [at0] at z
        cases z
        exact ⟨ha, by rw [List.length_map]; exact hl, us, _, rv, ha⟩
      · rw [off b hb] at z
        cases z
    refine lawG_at (H := H0) (ns := ns) KX hns hb hbb hlim hg ha hr F hbind
      (hsp H0 hO (Or.inl (Or.inr ⟨_, at0⟩))) hO hok (fun b z => ?_) fun _ => hk
    by_cases hb : b = a
    · exact hb
    · exact absurd (off b hb) z
theorem walkG {l : PySem.W.OpenLaw} {n k : Nat} {q : Program} {loose : List Str}
    {XP : (Str → Option Value) → Heap → Prop} {YP : World → Heap → Prop} {d : DefRec}
    {K : Params → PySem.W.Frag} {sp : PySem.W.Frag → Sp} {x : Str} (hn : l.most = some n) (hn2 : n ≤ sizeLine)
    (hdf : d.params.defaults = []) (hr : Room k callerA) (hY : ∀ (w : World) (h : Heap), YP w h → (K w.params).In h)
    (F : ∀ (w : World) (mg : Str → Option Value) (fa : Addr) (h : Heap), (K w.params).In h → h.Ns mainGlobals mg →
      mg d.name = some (.ref fa) → ∃ fd : FuncData, (∀ (s : Shared) (u : Value), BindsTo s fd ⟨[u], []⟩ [(x, u)]) ∧
        ∀ base : Heap, (K w.params).In base → base.Ns mainGlobals mg →
          FnG l.prog w (K w.params) mg base k fa fd [x] (sp (K w.params)))
    (hsp : ∀ (K : PySem.W.Frag) (H : Hp) (a : Addr) (ns : List Int), ns.length ≤ n → Only H →
      SqL K H a (ns.map V.int) → sp K [.ref a] H (fun v _ => v = .bl true) E0) :
    PySem.W.WalkO q loose XP YP l.row.toRowW d [] (fun f vs => PySem.call f vs) := by
  refine Att.attach_call hn hdf fun w s₀ s₁ mg mb fa o pm cd doc a vs ns G Y ho hd hcd hmg hobj hints hlen hg => ?_
  have KX := hY w _ Y
  obtain ⟨fd, hb, hF⟩ := F w mg fa _ KX G.T.g hmg
  exact lawG_call KX G.T.g G.T.b G.T.builtins G.T.nolimit hg hobj hints (Nat.le_trans hlen hn2) hr hF hb
    fun H hO hS => hsp _ H a ns hlen hO hS
end MB
end
section
set_option maxRecDepth 100000
set_option maxHeartbeats 4000000
namespace MB
namespace Er
open PySem PySem.W PySem.Calls PyProof.Rows PySem.HandSPX
abbrev above (B0 : Addr) : List Value := .ref B0 :: PySem.ESX.exTail
def eA (f : Str) (p1 p2 : Pos) : Arguments :=
  { posonlyargs := [], args := [{ arg := "self", annotation := none, pos := p1 }, { arg := f, annotation := none, pos := p2 }], vararg := none,
    kwonlyargs := [], kw_defaults := [], kwarg := none, defaults := [] }
def eB (f msg : Str) (q1 q2 q3 q4 q5 q6 q7 q8 q9 q10 : Pos) : List Stmt :=
  [.Expr (.Call (.Attribute (.Call (.Name "super" q1) [] [] q2) "__init__" q3) [.Constant (.str msg) 0 q4] [] q5) q6,
   .Assign [.Attribute (.Name "self" q7) f q8] (.Name f q9) q10]
def eS (f : Str) : Scope :=
  { kind := .function, names := [(PySem.Str.ofString "self", .local), (f, .local), (PySem.Str.ofString "__class__", .free), (PySem.Str.ofString "super", .globalImplicit)],
    isGenerator := false, isCoroutine := false, more := [] }
structure NameOk (f : Str) : Prop where
  self : (f == ("self" : Str)) = false
  cls : (("__class__" : Str) == f) = false
  sup : (("super" : Str) == f) = false
  dbg : (f == ("__debug__" : Str)) = false
structure Txt (P : Program) (K : Frag) (mg : Str → Option Value) (B0 C fI : Addr) (x f : Str) : Prop where
  gC : mg x = some (.ref C)
  cls : ∃ nm q N bs sn sub ab col dd k0 k1 k2 k3 k5, K.lookup C = some (excClassObj nm q C N bs (above B0) true sn sub ab col dd k0 k1 k2 k3 k5 "Exception.__new__")
  sa : findIn K (.ref C) "__setattr__" = some (some (.builtin "object.__setattr__"))
  al : alongIn K "__init__" (above B0) = some (some (.builtin "Exception.__init__"))
  ga : findIn K (.ref C) "__getattribute__" = some (some (.builtin "BaseException.__getattribute__"))
  gg : findIn K (.ref C) "__getattr__" = some none
  noF : findIn K (.ref C) f = some none
  ov : excOver K C PySem.ESX.exTail = true
  iC : findIn K (.ref C) "__init__" = some (some (.ref fI))
  tC : typeIn K (.ref fI) = some (.type "function")
  kC : keepIn K (.ref C) = true
  exC : subIn K (.ref C) (.type "BaseException") = some true
  exE : subIn K (.ref C) (.type "Exception") = some true
  suC : mroIn K C (.ref C) = some true
  tyC : typeIn K (.ref C) = some (.type "type")
  hdC : hasDictIn K C = true
  te : exmOne K (.ref C) (.ref C) = some true
  op : nsIn K cStatics "thirdparty.any" = some none
  su : mg "super" = none
  top : (P.main.scope.names.lookup ("super" : Str)).isSome = false
  fok : NameOk f
  fn : ∃ (qual msg : Str) (oc : Value) (od : Option Addr) (doc pm : Value) (an : Option Addr) (cda : Addr) (ct : Value) (cc : Addr) (osl : Array (Option Value))
      (p1 p2 q1 q2 q3 q4 q5 q6 q7 q8 q9 q10 : Pos),
    K.lookup fI = some ⟨oc, od, .func (ksFn "__init__" qual (eA f p1 p2) (eB f msg q1 q2 q3 q4 q5 q6 q7 q8 q9 q10) (eS f) .none .none doc pm an (.ref cda) ct cc), osl⟩ ∧
    codeIn K (.ref cda) qual = true ∧ (q3.endLine == q5.line) = true ∧
    (∀ (s : Shared) (a b : Value), BindsTo s (ksFn "__init__" qual (eA f p1 p2) (eB f msg q1 q2 q3 q4 q5 q6 q7 q8 q9 q10) (eS f) .none .none doc pm an (.ref cda) ct cc) ⟨[a, b], []⟩ [("self", a), (f, b)]) ∧
    (∃ (ccl : Value) (cdd : Option Addr) (vs : Array Value) (ccs : Array (Option Value)) (file : Str) (tf : Tok),
      K.lookup cda = some ⟨ccl, cdd, .fields vs, ccs⟩ ∧ vs[2]? = some (.str file tf) ∧ ((P.main.file : Str) == file) = true) ∧
    (∃ (cl : Value) (cld : Option Addr) (csl : Array (Option Value)), K.lookup cc = some ⟨cl, cld, .cell (some (.ref C)), csl⟩)
structure InitEnd (h h' : Heap) (x C dx t1 : Addr) (f : Str) (v : Value) : Prop where
  keep : ∀ b o, b ≠ x → h.get? b = some o → h'.get? b = some o
  obj : h'.get? x = some { cls := .ref C, dict := some dx, data := .fields #[.ref t1, .none, .none, .none, .bool false, .none] }
  dbig : h.objs.size ≤ dx
  dne : dx ≠ x
  ns : h'.Ns1 dx (fun y => if y = f then some v else none)
structure OwnMade (h h' : Heap) (e C d : Addr) (f : Str) (v : Value) : Prop where
  keep : ∀ b o, h.get? b = some o → h'.get? b = some o
  new : h.objs.size ≤ e
  obj : ∃ oe vs, h'.get? e = some oe ∧ oe.cls = .ref C ∧ oe.dict = some d ∧ oe.data = .fields vs ∧ vs[1]? = some .none
  dbig : h.objs.size ≤ d
  dne : d ≠ e
  ns : h'.Ns1 d (fun y => if y = f then some v else none)
theorem one_size (v : Value) : [v].length ≤ sizeLine := by
  rw [sizeLine_eq]
  exact (by decide : 1 ≤ 16777216)
theorem above_contains (B0 : Addr) (X : String) : (above B0).contains (.type X) = PySem.ESX.exTail.contains (.type X) := by
  show ((Value.type X == Value.ref B0) || PySem.ESX.exTail.contains (.type X)) = _
  rw [show (Value.type X == Value.ref B0) = false from rfl, Bool.false_or]
section
open Builtin Builtin.ObjectAttr
variable {prog : Program} {w : World} {A : Around} {R : Result → Shared → Prop} {hp : Heap} {gs : Array GenState} {dr : Drawn} {tk : Nat} {os : OsState}
variable {K : Frag} {name : Str} {tn : Tok} {v : Value} {a C u : Addr}
theorem keeps_first (X : K.In hp) (ha : hp.get? a = some (excO C u)) (ov : excOver K C PySem.ESX.exTail = true) (hd : hasDictIn K C = true)
    (no : findIn K (.ref C) name = some none)
    (goal : ∀ (heap : Heap) (toks : Nat) (t : Addr), (∀ b o, b ≠ a → hp.get? b = some o → heap.get? b = some o) → hp.objs.size ≤ t → t ≠ a →
      heap.get? a = some { cls := .ref C, dict := some t, data := .fields #[.ref u, .none, .none, .none, .bool false, .none] } → heap.Ns1 t (fun y => if y = name then some v else none) →
      R (.ok (.ret .none)) ⟨heap, gs, dr, toks, os⟩) :
    codeAny (model prog w) A (.call (.builtin "object.__setattr__") ⟨[.ref a, .str name tn, v], []⟩) R ⟨hp, gs, dr, tk, os⟩ := by
  have tno : takerIn K C name = some none := by
    unfold takerIn
    rw [no]
    rfl
  have far : a ≠ hp.objs.size := Nat.ne_of_lt (Heap.lt_size ha)
  refine osa_openX (od := none) F.store_Exception X ⟨ha, rfl, rfl, trivial⟩ ov tno fun b => ?_
  obtain ⟨cd, hc, hd'⟩ := any_some hd
  refine wpAny_bind (wpAny_pure (wpAny_bind (instanceDict_exc (c2 := .none) (t := u) ha (looks_clsIn X hc) hd' ?_)))
  show wpAny _ _ (storeInDict hp.objs.size (.str name tn) name v) _ _ _
  have hin : ∀ b o, hp.get? b = some o → (hp.push (dictOf [] 0)).get? b = some o := fun b o e => Heap.get?_push_of_some _ e
  refine store_in_new ⟨_, #[], _, (Heap.get?_update_ne _ _ _ _ far.symm).trans (Heap.get?_push_at rfl rfl), rfl, fun e he => absurd he (by simp), fun _ => rfl⟩ fun h' tk' hn' same => ?_
  refine goal h' tk' hp.objs.size (fun b o hb ho => ?_) (Nat.le_refl _) far.symm ?_ hn'
  · rw [same.2 b (Nat.ne_of_lt (Heap.lt_size ho)), Heap.get?_update_ne _ _ _ _ hb]
    exact hin b o ho
  · rw [same.2 a far]
    exact Heap.get?_update_self _ (hin _ _ ha) rfl
end
section
variable {prog : Program} {w : World} {A : Around} {E : Value → Shared → Prop} {R : Result → Shared → Prop} {K : Frag} {mg : Str → Option Value} {B0 C fI : Addr} {x f : Str}
theorem cls_in (T : Txt prog K mg B0 C fI x f) : ∃ cd, clsIn K C = some cd ∧ cd.mro = .ref C :: above B0 ∧ cd.hasDict = true := by
  obtain ⟨nm, q, N, bs, sn, sub, ab, col, dd, k0, k1, k2, k3, k5, hC⟩ := T.cls
  refine ⟨{ name := nm, bases := bs, mro := .ref C :: above B0, ns := N, qualname := q, hasDict := true, slotNames := sn, subclasses := sub, abstract := ab, collection := col, hasDel := false }, ?_, rfl, rfl⟩
  unfold clsIn
  rw [hC] <;> rfl
theorem init (T : Txt prog K mg B0 C fI x f) {s : Shared} {a t0 : Addr} {v : Value} (X : K.In s.heap) (G : s.heap.Ns mainGlobals mg)
    (Bt : ∃ mb, s.heap.Ns builtinsNs mb ∧ ∀ x : Str, x ≠ "__name__" → mb x = bootBuiltins x) (hlim : s.heap.NoLimit)
    (hx : s.heap.get? a = some (excO C t0)) (hnk : K.lookup a = none) (hroom : A.depth < recursionLimit)
    (hq : ∀ h' tk dx t1, InitEnd s.heap h' a C dx t1 f v → R (.ok (.ret .none)) { s with heap := h', toks := tk }) :
    codeAny (model prog w) A (.call (.ref fI) ⟨[.ref a, v], []⟩) R s := by
  obtain ⟨qual, msg, oc, od, doc, pm, an, cda, ct, cc, osl, p1, p2, q1, q2, q3, q4, q5, q6, q7, q8, q9, q10, ho, hcd, hline, hbind, ⟨ccl, cdd, vs, ccs, file, tf, hcode, hvs, hfile⟩, ⟨cl, cld, csl, hcell⟩⟩ := T.fn
  obtain ⟨nm, q, N, bs, sn, sub, ab, col, dd, k0, k1, k2, k3, k5, hC⟩ := T.cls
  obtain ⟨cd, hcl, hmro, hhd⟩ := cls_in T
  have nself : (eS f).names.lookup ("self" : Str) = some .local := rfl
  have nf : (eS f).names.lookup f = some .local := by
    show List.lookup f [(PySem.Str.ofString "self", NameKind.local), (f, .local), (PySem.Str.ofString "__class__", .free), (PySem.Str.ofString "super", .globalImplicit)] = _
    rw [List.lookup_cons, T.fok.self, List.lookup_cons, beq_self_eq_true]
  have nc : (eS f).names.lookup ("__class__" : Str) = some .free := by
    show List.lookup ("__class__" : Str) [(PySem.Str.ofString "self", NameKind.local), (f, .local), (PySem.Str.ofString "__class__", .free), (PySem.Str.ofString "super", .globalImplicit)] = _
    rw [List.lookup_cons, show (("__class__" : Str) == PySem.Str.ofString "self") = false from by decide, List.lookup_cons, T.fok.cls]
    rfl
  have ns : (eS f).names.lookup ("super" : Str) = some .globalImplicit := by
    show List.lookup ("super" : Str) [(PySem.Str.ofString "self", NameKind.local), (f, .local), (PySem.Str.ofString "__class__", .free), (PySem.Str.ofString "super", .globalImplicit)] = _
    rw [List.lookup_cons, show (("super" : Str) == PySem.Str.ofString "self") = false from by decide, List.lookup_cons, T.fok.sup]
    rfl
  obtain ⟨hp, gs, dr, tk, os⟩ := s
  refine ks_codeAny_call_defAt (fd := ksFn "__init__" qual (eA f p1 p2) (eB f msg q1 q2 q3 q4 q5 q6 q7 q8 q9 q10) (eS f) .none .none doc pm an (.ref cda) ct cc)
    (body := eB f msg q1 q2 q3 q4 q5 q6 q7 q8 q9 q10) (binds := [("self", .ref a), (f, v)]) hroom (X _ _ ho) rfl hlim (codeRec_of X hcd) rfl (hbind _ _ _) ?_ ?_ (fun h₁ hns hk₁ => ?_) rfl rfl rfl
  · intro y hy
    have hy' : y ∈ [(PySem.Str.ofString "self", NameKind.local), (f, .local), (PySem.Str.ofString "__class__", .free), (PySem.Str.ofString "super", .globalImplicit)] := hy
    simp only [List.mem_cons, List.not_mem_nil, or_false] at hy'
    rcases hy' with rfl | rfl | rfl | rfl <;> simp
  · intro y hy
    simp only [List.mem_cons, List.not_mem_nil, or_false] at hy
    rcases hy with rfl | rfl
    · exact nself
    · exact nf
  · have hx₁ := hk₁ _ _ hx
    have X₁ : K.In h₁ := X.keeps hk₁
    obtain ⟨mb, hB, hbb⟩ := Bt
    have hD1 : h₁.get? C = _ := hk₁ _ _ (X _ _ hC)
    have hxC : a ≠ C := fun z => by
      rw [z, hC] at hnk
      cases hnk
    have hin : ∀ h' : Heap, (∀ b o, h₁.get? b = some o → h'.get? b = some o) → Looks (model prog w) h' (isInstance (.ref a) (.type "Exception")) true := fun h' k =>
      (show InstAt h' a (excO C t0) C none from ⟨k _ _ hx₁, rfl, rfl, trivial⟩).type.andThen (looks_subIn (X₁.keeps k) T.exE)
    refine ks_wpAt_execs_cons (ks_wpAt_Expr_any ?_ rfl rfl)
    generalize hE : callEnv (ksFn "__init__" qual (eA f p1 p2) (eB f msg q1 q2 q3 q4 q5 q6 q7 q8 q9 q10) (eS f) .none .none doc pm an (.ref cda) ct cc) (⟨hp, gs, dr, tk, os⟩ : Shared).heap.objs.size fI = env
    have ek : env.scope.kind = .function := by rw [← hE]; rfl
    have es : env.kindOf "super" = some .globalImplicit := by rw [← hE]; exact ns
    have ec : env.kindOf "__class__" = some .free := by rw [← hE]; exact nc
    have e0 : env.kindOf "self" = some .local := by rw [← hE]; exact nself
    have ef : env.kindOf f = some .local := by rw [← hE]; exact nf
    have efu : env.func = some fI := by rw [← hE]; rfl
    have eco : env.code = .ref cda := by rw [← hE]; rfl
    have eg : env.globals = mainGlobals := by rw [← hE]; rfl
    have eb : env.builtins = builtinsNs := by rw [← hE]; rfl
    have el : env.locals = hp.objs.size := by rw [← hE]; rfl
    have ecl : env.cells.lookup ("__class__" : Str) = some cc := by rw [← hE]; rfl
    refine ks_wpAt_MethodCall (pl := (do return (← importBound (.Call (.Name "super" q1) [] [] q2) env).getD true)) ?_ ?he
    case he =>
      rw [arm_eval_Call]
      have hform : methodCallForm ([Expr.Constant (Const.str msg) 0 q4].length + ([] : List Keyword).length) (backTo q5 (starEach [Expr.Constant (Const.str msg) 0 q4] env)) (backToKw q5 (keywordEach [] env)) = true := rfl
      have hpos : methodCallPos true (.Call (.Name "super" q1) [] [] q2) env q3 q5 = pure q5 := by unfold methodCallPos; simp [hline]
      unfold methodCall
      rw [hform]
      simp only [hpos, pure_bind, calleeOf, if_true]
      rfl
    refine ks_wpAt_super_base (f := fI) (cc := cda) es ec (by decide) efu (hk₁ _ _ (X _ _ ho)) rfl rfl eco (hk₁ _ _ (X _ _ hcode)) rfl hvs hfile T.top ?_
    refine ks_loadName_global ek es (loadGlobal_builtin (by rw [eg]; exact G.keeps hk₁) T.su (by rw [eb]; exact hB.keeps hk₁) ((hbb _ (by decide)).trans Boot.«super») ⟨rfl, ?_⟩)
    refine wpAny_loadName_free ek ec ecl ⟨_, hk₁ _ _ (X _ _ hcell), rfl⟩ ?_
    have b0 : List.lookup ("self" : Str) [(("self" : Str), Value.ref a), (f, v)].reverse = some (.ref a) := by
      show List.lookup ("self" : Str) [(f, v), (("self" : Str), Value.ref a)] = _
      rw [List.lookup_cons, show (("self" : Str) == f) = false from by rw [BEq.comm]; exact T.fok.self]
      rfl
    have b1 : List.lookup f [(("self" : Str), Value.ref a), (f, v)].reverse = some v := by
      show List.lookup f [(f, v), (("self" : Str), Value.ref a)] = _
      rw [List.lookup_cons, beq_self_eq_true]
    refine wpAny_loadName_local ek e0 (by rw [el]; exact hns) b0 ?_
    refine ks_wpAny_isType_cls hD1 rfl ⟨rfl, ?_⟩
    refine ks_wpAny_call_super hD1 rfl hx₁ rfl (fun c e => by cases e) (looks_mroIn X₁ T.suC) (fun h₂ e₂ k₂ => ?_)
    have X₂ : K.In h₂ := X₁.keeps k₂
    refine PySem.ESX.getMethod_super e₂ (looks_opaque X₂ T.op) (l₀ := cd.mro) ((looks_clsIn X₂ hcl).andThen .now) (by rw [hmro, PySem.ESX.drop_own]) X₂ T.al hxC (by decide) (hin _ k₂) ?_
    have k₃ : ∀ b o, h₁.get? b = some o → (h₂.push (PySem.ESX.bw a)).get? b = some o := fun b o e => Heap.get?_push_of_some _ (k₂ _ _ e)
    show wpAny _ _ (callWith q5 (.ref h₂.objs.size) [] (backTo q5 (starEach [Expr.Constant (Const.str msg) 0 q4] env)) []) _ _ _
    refine PySem.ESX.callWith_bound (x := a) (spliced_cons (Constant_str (k := 0) (pos := q4) (spliced_nil ⟨Heap.get?_push_at rfl rfl, ?_⟩)))
    refine PySem.ESX.call_bw (k₃ _ _ hD1) (k₃ _ _ hx₁) (Heap.get?_push_at rfl rfl) (one_size _) (fun h₄ t1 k₄ e₄ => ?_)
    have k₅ : ∀ b o, b ≠ a → h₁.get? b = some o → h₄.get? b = some o := fun b o hb e => k₄ b o hb (k₃ b o e)
    have X₄ : K.In h₄ := fun b o e => k₅ b o (fun z => by rw [z, hnk] at e; cases e) (X₁ b o e)
    have hxL : hp.objs.size ≠ a := Nat.ne_of_gt (Heap.lt_size hx)
    have hns₄ : h₄.Ns hp.objs.size (fun y => List.lookup y [(("self" : Str), Value.ref a), (f, v)].reverse) := by
      obtain ⟨oL, es', ep, z1, z2, z3⟩ := hns
      exact ⟨oL, es', ep, k₅ _ _ hxL z1, z2, z3⟩
    refine wpAt_of_wpAny ?_
    show wpAny _ _ (execs [.Assign [.Attribute (.Name "self" q7) f q8] (.Name f q9) q10] env) _ _ _
    refine wpAny_execs_cons (plainObj_wpAny_Assign_Attribute ?_)
    refine wpAny_Name (wpAny_loadName_local ek ef (by rw [el]; exact hns₄) b1 ?_) T.fok.dbg
    refine wpAny_Name (wpAny_loadName_local ek e0 (by rw [el]; exact hns₄) b0 ?_) (by decide)
    refine set_plain X₄ (ox := excO C t1) (od := none) ⟨e₄, rfl, rfl, trivial⟩ T.sa ?_
    refine keeps_first X₄ e₄ T.ov T.hdC T.noF (fun h₆ tk₆ dx k₆ dn dne hx₆ hn₆ => ?_)
    show wpAny _ _ (execs [] env) _ _ _
    have z : hp.objs.size ≤ h₄.objs.size := by
      obtain ⟨oL, es', ep, z1, z2, z3⟩ := hns₄
      exact Nat.le_of_lt (Heap.lt_size z1)
    exact wpAny_execs_nil (hq h₆ _ dx t1 ⟨fun b o hb e => k₆ b o hb (k₅ b o hb (hk₁ b o e)), hx₆, Nat.le_trans z dn, dne, hn₆⟩)
theorem made (T : Txt prog K mg B0 C fI x f) {s : Shared} {v : Value} (X : K.In s.heap) (G : s.heap.Ns mainGlobals mg)
    (Bt : ∃ mb, s.heap.Ns builtinsNs mb ∧ ∀ x : Str, x ≠ "__name__" → mb x = bootBuiltins x) (hlim : s.heap.NoLimit) (hroom : A.depth + 1 < recursionLimit)
    (hq : ∀ h' tk e d, OwnMade s.heap h' e C d f v → R (.ok (.ret (.ref e))) { s with heap := h', toks := tk }) :
    codeAny (model prog w) A (.call (.ref C) ⟨[v], []⟩) R s := by
  obtain ⟨nm, q, N, bs, sn, sub, ab, col, dd, k0, k1, k2, k3, k5, hC⟩ := T.cls
  obtain ⟨mb, hB, hbb⟩ := Bt
  obtain ⟨hp, g, dr, tk, os⟩ := s
  have k : ∀ b o, hp.get? b = some o → ((hp.push (kdv_tup [v])).push (excO C hp.objs.size)).get? b = some o := fun b o e => Heap.get?_push_of_some _ (Heap.get?_push_of_some _ e)
  have hget : ((hp.push (kdv_tup [v])).push (excO C hp.objs.size)).get? (hp.objs.size + 1) = some (excO C hp.objs.size) := by heap_get
  have hnx : K.lookup (hp.objs.size + 1) = none := by
    cases e : K.lookup (hp.objs.size + 1) with
    | none => rfl
    | some o =>
      have z : hp.get? (hp.objs.size + 1) = some o := X _ _ e
      exact absurd (Nat.lt_of_succ_lt (Heap.lt_size z)) (Nat.lt_irrefl _)
  refine call_own F.excBase_Exception (fun Y => above_contains B0 Y) (X _ _ hC) (looks_findIn X T.iC) (fun self => bind_fn X self T.tC) (one_size v) ?_
  refine init (s := ⟨(hp.push (kdv_tup [v])).push (excO C hp.objs.size), g, dr, tk, os⟩) T (X.keeps k) (G.keeps k) ⟨mb, hB.keeps k, hbb⟩ (hlim.keeps k) hget hnx ?_ fun h' tk' dx t1 ⟨k', hx, dn, dne, hns⟩ => ?_
  · show A.depth + 1 < recursionLimit
    exact hroom
  · have old : ∀ b o, hp.get? b = some o → h'.get? b = some o := fun b o e => k' b o (Nat.ne_of_lt (Nat.lt_succ_of_lt (Heap.lt_size e))) (k b o e)
    have z : hp.objs.size + 1 + 1 ≤ dx := by
      first
        | (simpa only [Heap.size_push] using dn)
        | exact dn
        | (have q := dn; rw [Heap.size_push, Heap.size_push] at q; exact q)
    exact ⟨rfl, hq h' tk' (hp.objs.size + 1) dx ⟨old, Nat.le_succ _, ⟨_, _, hx, rfl, rfl, rfl, rfl⟩, Nat.le_trans (Nat.le_trans (Nat.le_succ _) (Nat.le_succ _)) z, dne, hns⟩⟩
end
theorem meets_self {K : PySem.W.Frag} {S : Addr} (h1 : PySem.W.subIn K (.ref S) (.type "BaseException") = some true) (h2 : PySem.W.isClsIn K S = true)
    (h3 : PySem.W.typeIn K (.ref S) = some (.type "type")) (h4 : PySem.W.subIn K (.ref S) (.ref S) = some true) : PySem.W.exmOne K (.ref S) (.ref S) = some true := by
  have e1 : (PySem.W.subIn K (.ref S) (.type "BaseException") == some true) = true := by rw [h1] <;> rfl
  have e2 : ((PySem.W.clsIn K S).isSome && PySem.W.typeIn K (.ref S) == some (.type "type")) = true := by
    have h2' : (PySem.W.clsIn K S).isSome = true := h2
    rw [h2', h3] <;> rfl
  show (if (PySem.W.subIn K (.ref S) (.type "BaseException") == some true) = true then (if ((PySem.W.clsIn K S).isSome && PySem.W.typeIn K (.ref S) == some (.type "type")) = true then PySem.W.subIn K (.ref S) (.ref S) else none) else none) = some true
  rw [if_pos e1, if_pos e2]
  exact h4
theorem of {P : Program} {K : Frag} {h : Heap} {mg : Str → Option Value} {B0 C fI : Addr} {x f : Str} (X : K.In h) (G : h.Ns mainGlobals mg)
    {nm q : Str} {N : Addr} {bs : List Value} {sn : List Str} {sub : List Value} {ab : Bool} {col : Option Bool} {dd : Option Addr} {m0 m1 m2 m3 m5 : Option Value}
    {nm' q' : Str} {N' : Addr} {bs' : List Value} {sn' : List Str} {sub' : List Value} {ab' : Bool} {col' : Option Bool} {dd' : Option Addr} {n0 n1 n2 n3 n5 : Option Value}
    {qual msg : Str} {oc : Value} {od : Option Addr} {doc pm : Value} {an : Option Addr} {cda : Addr} {ct : Value} {cc : Addr} {osl : Array (Option Value)}
    {p1 p2 q1 q2 q3 q4 q5 q6 q7 q8 q9 q10 : Pos} {ccl : Value} {cdd : Option Addr} {vs : Array Value} {ccs : Array (Option Value)} {file : Str} {tf : Tok} {cl : Value} {cld : Option Addr} {csl : Array (Option Value)}
    (aC : nsIn K mainGlobals x = some (some (.ref C)))
    (lB : K.lookup B0 = some (excClassObj nm' q' B0 N' bs' PySem.ESX.exTail true sn' sub' ab' col' dd' n0 n1 n2 n3 n5 "Exception.__new__"))
    (fB : findIn K (.ref B0) "__init__" = some (some (.builtin "Exception.__init__")))
    (lC : K.lookup C = some (excClassObj nm q C N bs (above B0) true sn sub ab col dd m0 m1 m2 m3 m5 "Exception.__new__"))
    (sa : findIn K (.ref C) "__setattr__" = some (some (.builtin "object.__setattr__")))
    (ga : findIn K (.ref C) "__getattribute__" = some (some (.builtin "BaseException.__getattribute__")))
    (gg : findIn K (.ref C) "__getattr__" = some none) (noF : findIn K (.ref C) f = some none)
    (iC : findIn K (.ref C) "__init__" = some (some (.ref fI))) (tC : typeIn K (.ref fI) = some (.type "function"))
    (kC : keepIn K (.ref C) = true) (exC : subIn K (.ref C) (.type "BaseException") = some true) (exE : subIn K (.ref C) (.type "Exception") = some true)
    (suC : mroIn K C (.ref C) = some true) (ssC : subIn K (.ref C) (.ref C) = some true) (isC : isClsIn K C = true)
    (tyC : typeIn K (.ref C) = some (.type "type")) (hdC : hasDictIn K C = true)
    (op : nsIn K cStatics "thirdparty.any" = some none) (su : nsIn K mainGlobals "super" = some none)
    (lI : K.lookup fI = some ⟨oc, od, .func (ksFn "__init__" qual (eA f p1 p2) (eB f msg q1 q2 q3 q4 q5 q6 q7 q8 q9 q10) (eS f) .none .none doc pm an (.ref cda) ct cc), osl⟩)
    (cI : codeIn K (.ref cda) qual = true) (lc : K.lookup cda = some ⟨ccl, cdd, .fields vs, ccs⟩) (lcc : K.lookup cc = some ⟨cl, cld, .cell (some (.ref C)), csl⟩)
    (top : (P.main.scope.names.lookup ("super" : Str)).isSome = false) (line : (q3.endLine == q5.line) = true) (fl : vs[2]? = some (.str file tf)) (fi : ((P.main.file : Str) == file) = true)
    (fok : NameOk f)
    (bi : ∀ (s : Shared) (a b : Value), BindsTo s (ksFn "__init__" qual (eA f p1 p2) (eB f msg q1 q2 q3 q4 q5 q6 q7 q8 q9 q10) (eS f) .none .none doc pm an (.ref cda) ct cc) ⟨[a, b], []⟩ [("self", a), (f, b)]) :
    Txt P K mg B0 C fI x f where
  gC := mg_of X G aC
  cls := ⟨_, _, _, _, _, _, _, _, _, _, _, _, _, _, lC⟩
  sa := sa
  al := by
    have e := fB
    unfold findIn at e
    dsimp only at e
    rw [lB] at e
    exact e
  ga := ga
  gg := gg
  noF := noF
  ov := by
    unfold excOver clsIn
    rw [lC]
    show ((C == C) && (PySem.ESX.exTail == PySem.ESX.exTail)) = true
    rw [beq_self_eq_true, beq_self_eq_true]
    rfl
  iC := iC
  tC := tC
  kC := kC
  exC := exC
  exE := exE
  suC := suC
  tyC := tyC
  hdC := hdC
  te := meets_self exC isC tyC ssC
  op := op
  su := mg_none_of X G su
  top := top
  fok := fok
  fn := ⟨_, _, _, _, _, _, _, _, _, _, _, _, _, _, _, _, _, _, _, _, _, _, _, lI, cI, line, bi, ⟨_, _, _, _, _, _, lc, fl, fi⟩, ⟨_, _, _, lcc⟩⟩
end Er
open PySem PySem.Spec PyProof.Rows L2
theorem relO_one {f : Str} {v : V} {v' : Value} (r : RelV v v') (y : Str) : RelO (List.lookup y [(f, v)]) (if y = f then some v' else none) := by
  by_cases hw : y = f
  · subst hw
    rw [if_pos rfl]
    have q : List.lookup y [(y, v)] = some v := by simp [List.lookup]
    rw [q]
    exact r
  · rw [if_neg hw]
    have qw : (y == f) = false := by simpa using hw
    have q2 : List.lookup y [(f, v)] = none := by simp [List.lookup, qw]
    rw [q2]
    trivial
section
variable {X : Cx} {B0 C fI : Addr} {x f : Str}
def tMkErr (C : Addr) (f : Str) (ta : TA) : L2.St → Hp → XK → Prop := fun σ H Q => ta σ H fun vs H1 => ∃ v, vs = [v] ∧ ∀ d, H1 d = none → Q (.ref C) (some d) (upd H1 d (.xd [(f, v)]))
theorem pmk_err {a : Expr} {ta : TA} {p pos : Pos} {k : Nat} (T : Er.Txt X.prog X.K X.mg B0 C fI x f) (hr : Room k X.A) (ha : PA X [a] ta) (hg : Gl X x) (hdb : (x == ("__debug__" : Str)) = false := by decide)
    (he : starEach (a :: []) X.env = (false, eval a X.env) :: starEach [] X.env := by rfl) (hpl : (backTo pos (starEach [] X.env)).any (·.1) = false := by rfl) :
    PMk X (.Call (.Name x p) [a] [] pos) (tMkErr C f ta) := by
  intro pins s σ H Q I h
  refine wpAny_Call_Name_kw (ld_glob I hg T.gC ?_ hdb)
  refine PySem.W.callWith_K (h₀ := X.base) I.ok.mod.kin T.kC (thn (ha.run pos pins s σ H _ I h) fun us s1 hh => ?_) he hpl
  obtain ⟨vs, H1, I1, r1, v, ev, q1⟩ := hh
  subst ev
  refine ⟨I1.kIn, ?_⟩
  cases r1 with
  | cons rv rn =>
    rename_i v' us'
    cases rn
    show wpAny _ _ (call (.ref C) [v']) _ _ _
    have hlim := I1.nolimit
    have hG := I1.mod.glob.keeps I1.bk
    have hBt : ∃ mb, s1.heap.Ns builtinsNs mb ∧ ∀ x : Str, x ≠ "__name__" → mb x = bootBuiltins x := by
      obtain ⟨mb, z1, z2⟩ := I1.mod.blt
      exact ⟨mb, z1.keeps I1.bk, z2⟩
    obtain ⟨hp, g, dr, tk, os⟩ := s1
    refine wpAny_call (Er.made T I1.kIn hG hBt hlim (by have := hr.dp; omega) fun h' tk' e d M => ?_)
    show MkP X pins σ Q (.ref e) ⟨h', g, dr, tk', os⟩
    obtain ⟨oe, fv, hoe, hc, hd, hdat, h1⟩ := M.obj
    have hns := M.ns
    obtain ⟨G', g1, g2⟩ := restrict h' fun b => decide (b ≠ e)
    have gk : ∀ b, b ≠ e → G'.get? b = h'.get? b := fun b hb => g1 b (decide_eq_true hb)
    have ge : G'.get? e = none := g2 e (by simp)
    have old : ∀ b o, hp.get? b = some o → G'.get? b = some o := fun b o q => (gk b (Nat.ne_of_lt (Nat.lt_of_lt_of_le (Heap.lt_size q) M.new))).trans (M.keep b o q)
    have ob : ObjOk X.prog X.w (upd H1 d (.xd [(f, v)])) G' d (.xd [(f, v)]) :=
      ⟨_, hns.at (fun o q => (gk d M.dne).trans q), fun y => relO_one rv y⟩
    have J : Inv X pins σ (upd H1 d (.xd [(f, v)])) ⟨G', g, dr, tk', os⟩ := I1.laid (t' := tk') old M.dbig ob
    refine ⟨e, oe, fv, ⟨G', g, dr, tk', os⟩, _, .ref C, some d, rfl, J, fun b o q => ?_, ge, hoe, ⟨hc, hd⟩, hdat, h1, ?_, rfl, I1.bare, raises_own T.exC T.tyC, q1 d (I1.hok.fresh M.dbig)⟩
    · by_cases hb : b = e
      · have q' : G'.get? b = some o := q
        rw [hb, ge] at q'; cases q'
      · exact (gk b hb).symm.trans q
    · rw [upd_ne (Ne.symm M.dne)]
      exact I1.hok.fresh M.new
def tRaiseErr (C : Addr) (f : Str) (W : WX) (ta : TA) : TS := fun _ σ H => tMkErr C f ta σ H fun cls d H' => W cls d σ H'
theorem ps_raiseErr {a : Expr} {ta : TA} {W : WX} {p pos pos2 : Pos} {k : Nat} (hc : X.calm = true) (T : Er.Txt X.prog X.K X.mg B0 C fI x f) (hr : Room k X.A) (tk : Takes X W) (ha : PA X [a] ta) (hg : Gl X x) (hdb : (x == ("__debug__" : Str)) = false := by decide)
    (he : starEach (a :: []) X.env = (false, eval a X.env) :: starEach [] X.env := by rfl) (hpl : (backTo pos (starEach [] X.env)).any (·.1) = false := by rfl) :
    PS X (.Raise (some (.Call (.Name x p) [a] [] pos)) none pos2) (tRaiseErr C f W ta) := ps_raise hc tk (pmk_err T hr ha hg hdb he hpl)
section
variable {CX : CXT} {k : Nat} {g : Addr} {fd : FuncData} {ps ks : List Str} {sp : Sp} {E : L2.St → XK} {nm : Str} {p pos : Pos} {kws : List Keyword} {tk : TA}
variable {gu : List Value → List Value → List Value} {gV : List V → List V → List V}
def tCallK0S (sp : Sp) (gV : List V → List V → List V) (E : L2.St → XK) (tk : TA) : TE := fun σ H Q => tk σ H fun zs H1 => sp (gV [] zs) H1 Q (E σ)
theorem pe_callK0S (F : FnOk X.prog X.w X.K X.mg X.base CX k g fd ps sp) (hr : Room k X.A) (hg : Gl X nm) (hm : X.mg nm = some (.ref g))
    (hk : PySem.W.keepIn X.K (.ref g) = true) (hb : KBinds X.K fd ps ks gu gV) (hx : ∀ σ, PassesAt CX X σ (E σ)) (hkw : PK X kws tk)
    (hall : (backToKw pos (keywordEach kws X.env)).all (·.1.isSome) = true := by rfl)
    (hks : (backToKw pos (keywordEach kws X.env)).filterMap (·.1) = ks := by rfl)
    (hdb : (nm == ("__debug__" : Str)) = false := by decide)
    (hpl : ((backTo pos (starEach [] X.env)).any (·.1) || (backToKw pos (keywordEach kws X.env)).any (·.1.isNone)) = false := by rfl) :
    PE X (.Call (.Name nm p) [] kws pos) (tCallK0S sp gV E tk) := by
  refine ⟨fun pins s σ H Q I h => ?_⟩
  refine wpAny_Call_Name_kw (ld_glob I hg hm ?_ hdb)
  refine PySem.W.callWith_KW0 (h₀ := X.base) I.ok.mod.kin hk hall (thn (hkw.run pos pins s σ H _ I h) fun ws s1 ⟨zs, H1, I1, rz, q1⟩ => ⟨I1.kIn, ?_⟩) hpl
  rw [hks]
  have r2 := hb.rel (vs := []) (us := []) .nil rz
  have hl : (gu [] ws).length = ps.length := by rw [← r2.length]; exact F.len _ _ _ _ q1
  refine wpAny_call (codeAny_mono (F.run X.A X.stack s1 H1 ⟨[], ks.zip ws⟩ (gu [] ws) (gV [] zs) Q (E σ) hr I1.env0 (hb.to s1 [] ws I1.kIn hl) r2 q1) fun r s' hq => ?_)
  cases r with
  | error e => exact hx σ pins H1 s1 e s' I1 hq
  | ok fl =>
    cases fl with
    | ret u => exact I1.after hq
    | next | brk | cont => exact False.elim hq
end
theorem Er.Txt.xf {P : Program} {K : PySem.W.Frag} {mg : Str → Option Value} (T : Er.Txt P K mg B0 C fI x f) : XfC K C := ⟨T.ga, T.gg, T.exC, T.hdC⟩
end
end MB
end
section
set_option maxRecDepth 100000
set_option maxHeartbeats 4000000
namespace MB
open PySem PySem.Spec PyProof.Rows L2
def p1k1 {α : Type} : List α → List α → List α
  | [a], [b] => [a, b]
  | _, _ => []
def kDef {α : Type} (v : α) : List α → List α → List α
  | [], [b] => [b, v]
  | _, _ => []
theorem kb_p1k1 {K : PySem.W.Frag} {fd : FuncData} {p q : Str} (h : ∀ a b : Value, bindArgs fd ⟨[a], [(q, b)]⟩ = pure [(p, a), (q, b)]) : KBinds K fd [p, q] [q] p1k1 p1k1 where
  to := fun s us ws _ hl => by
    match us, ws, hl with
    | [a], [b], _ => exact .of_eq (h a b)
  rel := fun {vs us zs ws} r rz => by
    cases r with
    | nil => exact .nil
    | cons r1 r' =>
      cases r' with
      | cons _ _ => exact .nil
      | nil =>
        cases rz with
        | nil => exact .nil
        | cons r2 rz' =>
          cases rz' with
          | cons _ _ => exact .nil
          | nil => exact .cons r1 (.cons r2 .nil)
theorem kb_def {K : PySem.W.Frag} {fd : FuncData} {p q : Str} {v : Value} {x : V} (hv : RelV x v) (h : ∀ (S : Setting) (b : Value), PySem.W.peek K S (bindArgs fd ⟨[], [(p, b)]⟩) = some [(p, b), (q, v)]) : KBinds K fd [p, q] [p] (kDef v) (kDef x) where
  to := fun s us ws hi hl => by
    match us, ws, hl with
    | [], [b], _ => exact PySem.W.kp_binds hi fun S => h S b
  rel := fun {vs us zs ws} r rz => by
    cases r with
    | cons _ _ => exact .nil
    | nil =>
      cases rz with
      | nil => exact .nil
      | cons r2 rz' =>
        cases rz' with
        | cons _ _ => exact .nil
        | nil => exact .cons r2 (.cons hv .nil)
theorem b_def {K : PySem.W.Frag} {fd : FuncData} {p q : Str} {v : Value} (h : ∀ (S : Setting) (b : Value), PySem.W.peek K S (bindArgs fd ⟨[b], []⟩) = some [(p, b), (q, v)]) : Binds K fd [p, q] [v] := fun s us hi hl => by
  obtain ⟨b, rfl⟩ := List.length_eq_one_iff.mp (show us.length = 1 by simpa using hl)
  exact PySem.W.kp_binds hi fun S => h S b
section
variable {X : Cx} {CX : CXT} {k : Nat} {f : Addr} {fd : FuncData} {ps ks : List Str} {sp : Sp} {E : L2.St → XK} {x : Str} {p pos : Pos} {e : Expr} {es : List Expr} {t tk : TA} {dvs : List V} {ds : List Value} {kws : List Keyword}
variable {gu : List Value → List Value → List Value} {gV : List V → List V → List V}
def tCallSD (sp : Sp) (dvs : List V) (E : L2.St → XK) (t : TA) : TE := fun σ H Q => t σ H fun vs H1 => sp (vs ++ dvs) H1 Q (E σ)
theorem pe_callSD (F : FnOk X.prog X.w X.K X.mg X.base CX k f fd ps sp) (hr : Room k X.A) (hg : Gl X x) (hm : X.mg x = some (.ref f)) (hk : PySem.W.keepIn X.K (.ref f) = true) (hb : Binds X.K fd ps ds) (hd : Vals dvs ds) (hx : ∀ σ, PassesAt CX X σ (E σ))
    (ha : PA X (e :: es) t) (hdb : (x == ("__debug__" : Str)) = false := by decide) (he : starEach (e :: es) X.env = (false, eval e X.env) :: starEach es X.env := by rfl) (hpl : (backTo pos (starEach es X.env)).any (·.1) = false := by rfl) :
    PE X (.Call (.Name x p) (e :: es) [] pos) (tCallSD sp dvs E t) := by
  refine ⟨fun pins s σ H Q I h => ?_⟩
  refine wpAny_Call_Name_kw (ld_glob I hg hm ?_ hdb)
  refine PySem.W.callWith_K (h₀ := X.base) I.ok.mod.kin hk (thn (ha.run pos pins s σ H _ I h) fun us s1 ⟨vs, H1, I1, r, q⟩ => ⟨I1.kIn, ?_⟩) he hpl
  have r2 : Vals (vs ++ dvs) (us ++ ds) := r.append hd
  have hl : (us ++ ds).length = ps.length := by rw [← r2.length]; exact F.len _ _ _ _ q
  refine wpAny_call (codeAny_mono (F.run X.A X.stack s1 H1 ⟨us, []⟩ (us ++ ds) (vs ++ dvs) Q (E σ) hr I1.env0 (hb s1 us I1.kIn hl) r2 q) fun r s' hq => ?_)
  cases r with
  | error e => exact hx σ pins H1 s1 e s' I1 hq
  | ok fl =>
    cases fl with
    | ret u => exact I1.after hq
    | next | brk | cont => exact False.elim hq
def tCallKS (sp : Sp) (gV : List V → List V → List V) (E : L2.St → XK) (t tk : TA) : TE := fun σ H Q => t σ H fun vs H1 => tk σ H1 fun zs H2 => sp (gV vs zs) H2 Q (E σ)
theorem pe_callKS (F : FnOk X.prog X.w X.K X.mg X.base CX k f fd ps sp) (hr : Room k X.A) (hg : Gl X x) (hm : X.mg x = some (.ref f)) (hk : PySem.W.keepIn X.K (.ref f) = true) (hb : KBinds X.K fd ps ks gu gV) (hx : ∀ σ, PassesAt CX X σ (E σ))
    (ha : PA X (e :: es) t) (hkw : PK X kws tk) (hall : (backToKw pos (keywordEach kws X.env)).all (·.1.isSome) = true := by rfl) (hks : (backToKw pos (keywordEach kws X.env)).filterMap (·.1) = ks := by rfl)
    (hdb : (x == ("__debug__" : Str)) = false := by decide) (he : starEach (e :: es) X.env = (false, eval e X.env) :: starEach es X.env := by rfl)
    (hpl : ((backTo pos (starEach (e :: es) X.env)).any (·.1) || (backToKw pos (keywordEach kws X.env)).any (·.1.isNone)) = false := by rfl) :
    PE X (.Call (.Name x p) (e :: es) kws pos) (tCallKS sp gV E t tk) := by
  refine ⟨fun pins s σ H Q I h => ?_⟩
  refine wpAny_Call_Name_kw (ld_glob I hg hm ?_ hdb)
  refine PySem.W.callWith_KW (h₀ := X.base) I.ok.mod.kin hk hall (thn (ha.run pos pins s σ H _ I h) fun us s1 ⟨vs, H1, I1, r, q⟩ => ?_) hpl he
  refine thn (hkw.run pos pins s1 σ H1 _ I1 q) fun ws s2 ⟨zs, H2, I2, rz, q2⟩ => ⟨I2.kIn, ?_⟩
  rw [hks]
  have r2 := hb.rel r rz
  have hl : (gu us ws).length = ps.length := by rw [← r2.length]; exact F.len _ _ _ _ q2
  refine wpAny_call (codeAny_mono (F.run X.A X.stack s2 H2 ⟨us, ks.zip ws⟩ (gu us ws) (gV vs zs) Q (E σ) hr I2.env0 (hb.to s2 us ws I2.kIn hl) r2 q2) fun r s' hq => ?_)
  cases r with
  | error e => exact hx σ pins H2 s2 e s' I2 hq
  | ok fl =>
    cases fl with
    | ret u => exact I2.after hq
    | next | brk | cont => exact False.elim hq
end
end MB
end
section
set_option maxRecDepth 100000
set_option maxHeartbeats 2000000
namespace MB
open PySem PySem.Spec PyProof.Rows L2
section
variable {X : Cx} {CX : CXT} {k : Nat} {C p g : Addr} {mc : Value} {fd : FuncData} {ps ks : List Str} {sp : Sp} {E : L2.St → XK} {o e : Expr} {es : List Expr} {kws : List Keyword} {m : Str} {pos apos : Pos} {ta : TE} {t tk : TA} {pl : Sem Bool}
variable {gu : List Value → List Value → List Value} {gV : List V → List V → List V}
def tCMethS (C : Addr) (sp : Sp) (E : L2.St → XK) (ta : TE) (t : TA) : TE := fun σ H Q => ta σ H fun x H1 => x = .ref C ∧ t σ H1 fun vs H2 => sp (.ref C :: vs) H2 Q (E σ)
def tCMethK (C : Addr) (sp : Sp) (gV : List V → List V → List V) (E : L2.St → XK) (ta : TE) (tk : TA) : TE := fun σ H Q => ta σ H fun x H1 => x = .ref C ∧ tk σ H1 fun zs H2 => sp (gV [.ref C] zs) H2 Q (E σ)
theorem run_cmS {pins : List (Addr × Obj)} {σ : L2.St} {H : Hp} {s : Shared} {q : Addr} {Q : VK} {us ws : List Value} {vs zs : List V} (F : FnOk X.prog X.w X.K X.mg X.base CX k g fd ps sp) (hr : Room k X.A) (hb : KBinds X.K fd ps ks gu gV) (hx : PassesAt CX X σ (E σ))
    (I : Inv X ((q, PySem.W.methodObj (.ref g) (.ref C)) :: pins) σ H s) (r : Vals vs us) (rz : Vals zs ws) (h : sp (gV (.ref C :: vs) zs) H Q (E σ)) : wpAny (model X.prog X.w) X.A (call (.ref q) us (ks.zip ws)) (EP X pins σ Q) X.xe s := by
  have r2 := hb.rel (vs := .ref C :: vs) (us := .ref C :: us) (.cons rfl r) rz
  have hl : (gu (.ref C :: us) ws).length = ps.length := by rw [← r2.length]; exact F.len _ _ _ _ h
  have z : wpAny (model X.prog X.w) X.A (call (.ref q) us (ks.zip ws)) (EP X ((q, PySem.W.methodObj (.ref g) (.ref C)) :: pins) σ Q) X.xe s := by
    refine wpAny_call (PySem.W.method_call (ClX.pin_at I) (codeAny_mono (F.run X.A X.stack s H ⟨.ref C :: us, ks.zip ws⟩ (gu (.ref C :: us) ws) (gV (.ref C :: vs) zs) Q (E σ) hr I.env0 (hb.to s _ ws I.kIn hl) r2 h) fun r s' hq => ?_))
    cases r with
    | error e => exact hx _ H s e s' I hq
    | ok fl =>
      cases fl with
      | ret u => exact I.after hq
      | next => exact False.elim hq
      | brk => exact False.elim hq
      | cont => exact False.elim hq
  exact thn z fun _ _ y => ClX.unpinE y
theorem run_cmB {pins : List (Addr × Obj)} {σ : L2.St} {H : Hp} {s : Shared} {q : Addr} {Q : VK} {us : List Value} {vs : List V} (F : FnOk X.prog X.w X.K X.mg X.base CX k g fd ps sp) (hr : Room k X.A) (hb : Binds X.K fd ps []) (hx : PassesAt CX X σ (E σ))
    (I : Inv X ((q, PySem.W.methodObj (.ref g) (.ref C)) :: pins) σ H s) (r : Vals vs us) (h : sp (.ref C :: vs) H Q (E σ)) : wpAny (model X.prog X.w) X.A (call (.ref q) us) (EP X pins σ Q) X.xe s := by
  have r2 : Vals (V.ref C :: vs) (Value.ref C :: us) := .cons rfl r
  have hl : (Value.ref C :: us).length = ps.length := by rw [← r2.length]; exact F.len _ _ _ _ h
  have z : wpAny (model X.prog X.w) X.A (call (.ref q) us) (EP X ((q, PySem.W.methodObj (.ref g) (.ref C)) :: pins) σ Q) X.xe s := by
    refine wpAny_call (PySem.W.method_call (ClX.pin_at I) (codeAny_mono (F.run X.A X.stack s H ⟨.ref C :: us, []⟩ (.ref C :: us) (.ref C :: vs) Q (E σ) hr I.env0 (by
      have := hb s (.ref C :: us) I.kIn (by simpa using hl)
      simpa using this) r2 h) fun r s' hq => ?_))
    cases r with
    | error e => exact hx _ H s e s' I hq
    | ok fl =>
      cases fl with
      | ret u => exact I.after hq
      | next => exact False.elim hq
      | brk => exact False.elim hq
      | cont => exact False.elim hq
  exact thn z fun _ _ y => ClX.unpinE y
theorem pe_cmethS (he : PE X o ta) (r : ClX.CRead X.K C mc) (c : ClX.CMet X.K C mc m p g) (F : FnOk X.prog X.w X.K X.mg X.base CX k g fd ps sp) (hr : Room k X.A) (hb : Binds X.K fd ps []) (hx : ∀ σ, PassesAt CX X σ (E σ)) (ha : PA X (e :: es) t)
    (hst : starEach (e :: es) X.env = (false, eval e X.env) :: starEach es X.env := by rfl) (hpl : (backTo pos (starEach es X.env)).any (·.1) = false := by rfl)
    (ht : eval (.Call (.Attribute o m apos) (e :: es) [] pos) X.env = (do
      let ov ← eval o X.env
      standAt apos.atName
      let (f, first) ← holding [ov] (getMethod ov m pl)
      callWith pos f first (backTo pos (starEach (e :: es) X.env)) (backToKw pos (keywordEach [] X.env))) := by rfl) :
    PE X (.Call (.Attribute o m apos) (e :: es) [] pos) (tCMethS C sp E ta t) := by
  refine ⟨fun pins s σ H Q I h => ?_⟩
  refine PySem.W.methodCall_KW (pl := pl) (thn (he.run pins s σ H _ I h) fun u s1 ⟨x, H1, I1, rx, ex, q⟩ => ?_) ht
  subst ex
  obtain rfl : u = Value.ref C := rx
  refine ClX.getmethcm_ok I1 r c fun s2 I2 => ?_
  refine ClX.callwith_cm I2 (ClX.base_none I1 (Nat.le_refl _)) c.fi (thn (ha.run pos _ s2 σ H1 _ I2 q) fun us s3 ⟨vs, H2, I3, rv, q2⟩ => ⟨⟨ClX.pin_at I3, I3.kIn⟩, ?_⟩) hst hpl
  exact run_cmB F hr hb (hx σ) I3 rv q2
theorem pe_cmethK (he : PE X o ta) (r : ClX.CRead X.K C mc) (c : ClX.CMet X.K C mc m p g) (F : FnOk X.prog X.w X.K X.mg X.base CX k g fd ps sp) (hr : Room k X.A) (hb : KBinds X.K fd ps ks gu gV) (hx : ∀ σ, PassesAt CX X σ (E σ)) (hkw : PK X kws tk)
    (hall : (backToKw pos (keywordEach kws X.env)).all (·.1.isSome) = true := by rfl)
    (hks : (backToKw pos (keywordEach kws X.env)).filterMap (·.1) = ks := by rfl)
    (hpl : ((backTo pos (starEach [] X.env)).any (·.1) || (backToKw pos (keywordEach kws X.env)).any (·.1.isNone)) = false := by rfl)
    (ht : eval (.Call (.Attribute o m apos) [] kws pos) X.env = (do
      let ov ← eval o X.env
      standAt apos.atName
      let (f, first) ← holding [ov] (getMethod ov m pl)
      callWith pos f first (backTo pos (starEach [] X.env)) (backToKw pos (keywordEach kws X.env))) := by rfl) :
    PE X (.Call (.Attribute o m apos) [] kws pos) (tCMethK C sp gV E ta tk) := by
  refine ⟨fun pins s σ H Q I h => ?_⟩
  refine PySem.W.methodCall_KW (pl := pl) (thn (he.run pins s σ H _ I h) fun u s1 ⟨x, H1, I1, rx, ex, q⟩ => ?_) ht
  subst ex
  obtain rfl : u = Value.ref C := rx
  refine ClX.getmethcm_ok I1 r c fun s2 I2 => ?_
  refine PySem.W.callWith_of (P := PySem.W.MethP X.K s1.heap.objs.size g (.ref C)) hpl (PySem.W.keeps_M c.fi) (PyProof.Rows.evalArgs_kw2_nil hall (thn (hkw.run pos _ s2 σ H1 _ I2 q) fun ws s3 ⟨zs, H2, I3, rz, q2⟩ => ⟨⟨ClX.pin_at I3, I3.kIn⟩, ?_⟩))
  rw [hks]
  exact run_cmS (us := []) (vs := []) F hr hb (hx σ) I3 .nil rz q2
end
section
variable {X : Cx} {CX : CXT} {k i : Nat} {C f : Addr} {fd : FuncData} {ps : List Str} {ds : List Value} {dvs : List V} {sp : Sp} {E : XK} {x : Str} {p pos : Pos} {e : Expr} {es : List Expr} {t : TA}
def tMakeL (i : Nat) (C : Addr) (sp : Sp) (dvs : List V) (E : XK) (t : TA) : TE := fun σ H Q => σ[i]? = some (some (.ref C)) ∧ tMake C sp dvs E t σ H Q
theorem pe_makeL (M : Mk X.K C f) (F : FnOk X.prog X.w X.K X.mg X.base CX k f fd ps sp) (hr : Room (k + 1) X.A) (hN : X.N[i]? = some x) (hv : Vis X.env.scope x) (hb : Binds X.K fd ps ds) (hd : Vals dvs ds) (hx : Passes CX X E)
    (ha : PA X (e :: es) t) (hdb : (x == ("__debug__" : Str)) = false := by decide) (hcd : (x == ("__classdict__" : Str)) = false := by decide)
    (he : starEach (e :: es) X.env = (false, eval e X.env) :: starEach es X.env := by rfl) (hpl : (backTo pos (starEach es X.env)).any (·.1) = false := by rfl) :
    PE X (.Call (.Name x p) (e :: es) [] pos) (tMakeL i C sp dvs E t) := by
  refine ⟨fun pins s σ H Q I h => ?_⟩
  obtain ⟨hs, ht⟩ := h
  refine wpAny_Call_Name_kw (thn ((pe_var (pos := p) hN hv hdb hcd).run pins s σ H (fun v H1 => v = .ref C ∧ H1 = H) I ⟨.ref C, hs, rfl, rfl⟩) fun u s1 ⟨v, H1, I1, r1, q1⟩ => ?_)
  obtain ⟨rfl, rfl⟩ := q1
  cases r1
  refine PySem.W.callWith_K (h₀ := X.base) I.ok.mod.kin M.kp (thn (ha.run pos pins s1 σ _ _ I1 ht) fun us s2 ⟨vs, H2, I2, r, q⟩ => ⟨I2.kIn, ?_⟩) he hpl
  exact run_make M F hr hb hd hx I2 r q
end
end MB
end
section
set_option maxRecDepth 100000
set_option maxHeartbeats 2000000
namespace MB
open PySem PySem.Spec PyProof.Rows L2
section
variable {X : Cx} {CX : CXT} {k : Nat} {C f : Addr} {fd : FuncData} {ps ks : List Str} {sp : Sp} {E : L2.St → XK} {x : Str} {p pos : Pos} {e : Expr} {es : List Expr} {kws : List Keyword} {t tk : TA}
variable {gu : List Value → List Value → List Value} {gV : List V → List V → List V}
def mkS (C : Addr) (sp : Sp) (E : XK) (vs : List V) (H : Hp) (Q : VK) : Prop := ∀ y dx, H y = none → H dx = none → dx ≠ y → sp vs.tail (upd (upd H dx (.own y)) y (.ins C dx [])) (fun v H3 => v = .non ∧ Q (.ref y) H3) E
def tMakeS (C : Addr) (sp : Sp) (E : L2.St → XK) (t : TA) : TE := fun σ H Q => t σ H fun vs H2 => ∀ y dx, H2 y = none → H2 dx = none → dx ≠ y → sp (.ref y :: vs) (upd (upd H2 dx (.own y)) y (.ins C dx [])) (fun v H3 => v = .non ∧ Q (.ref y) H3) (E σ)
def tMakeK (C : Addr) (sp : Sp) (gV : List V → List V → List V) (E : L2.St → XK) (tk : TA) : TE := fun σ H Q => tk σ H fun zs H2 => ∀ y dx, H2 y = none → H2 dx = none → dx ≠ y → sp (gV [.ref y] zs) (upd (upd H2 dx (.own y)) y (.ins C dx [])) (fun v H3 => v = .non ∧ Q (.ref y) H3) (E σ)
theorem run_mkK {pins : List (Addr × Obj)} {σ : L2.St} {H : Hp} {s : Shared} {Q : VK} {us ws : List Value} {vs zs : List V} (M : Mk X.K C f) (F : FnOk X.prog X.w X.K X.mg X.base CX k f fd ps sp) (hr : Room (k + 1) X.A) (hb : KBinds X.K fd ps ks gu gV) (hx : PassesAt CX X σ (E σ))
    (I : Inv X pins σ H s) (r : Vals vs us) (rz : Vals zs ws)
    (h : ∀ y dx, H y = none → H dx = none → dx ≠ y → sp (gV (.ref y :: vs) zs) (upd (upd H dx (.own y)) y (.ins C dx [])) (fun v H3 => v = .non ∧ Q (.ref y) H3) (E σ)) :
    wpAny (model X.prog X.w) X.A (call (.ref C) us (ks.zip ws)) (EP X pins σ Q) X.xe s := by
  have q0 := h (s.heap.objs.size + 1) s.heap.objs.size (I.hok.fresh (Nat.le_succ _)) (I.hok.fresh (Nat.le_refl _)) (Nat.ne_of_lt (Nat.lt_succ_self _))
  have I2 := Inv.made (C := C) I
  have r2 := hb.rel (vs := V.ref (s.heap.objs.size + 1) :: vs) (us := Value.ref (s.heap.objs.size + 1) :: us) (.cons rfl r) rz
  have hl : (gu (Value.ref (s.heap.objs.size + 1) :: us) ws).length = ps.length := by rw [← r2.length]; exact F.len _ _ _ _ q0
  refine wpAny_call (make_map (f := f) I.kIn M.makes M.init (beq_iff_eq.mp M.fn) (codeAny_mono (F.run _ X.stack _ _ ⟨Value.ref (s.heap.objs.size + 1) :: us, ks.zip ws⟩ (gu (Value.ref (s.heap.objs.size + 1) :: us) ws) _ _ (E σ) (hr.make C us (ks.zip ws)) (I2.env0.make C us (ks.zip ws)) (hb.to _ _ ws I2.kIn hl) r2 q0) fun r s' q1 => ?_))
  cases r with
  | error e => exact hx pins _ _ e s' I2 q1
  | ok fl =>
    cases fl with
    | ret u =>
      obtain ⟨v, H', I3, rv, ev, q3⟩ := I2.after q1
      subst ev
      exact ⟨rv, V.ref (s.heap.objs.size + 1), H', I3, rfl, q3⟩
    | next => exact False.elim q1
    | brk => exact False.elim q1
    | cont => exact False.elim q1
theorem run_mkS {pins : List (Addr × Obj)} {σ : L2.St} {H : Hp} {s : Shared} {Q : VK} {us : List Value} {vs : List V} (M : Mk X.K C f) (F : FnOk X.prog X.w X.K X.mg X.base CX k f fd ps sp) (hr : Room (k + 1) X.A) (hb : Binds X.K fd ps []) (hx : PassesAt CX X σ (E σ))
    (I : Inv X pins σ H s) (r : Vals vs us)
    (h : ∀ y dx, H y = none → H dx = none → dx ≠ y → sp (.ref y :: vs) (upd (upd H dx (.own y)) y (.ins C dx [])) (fun v H3 => v = .non ∧ Q (.ref y) H3) (E σ)) :
    wpAny (model X.prog X.w) X.A (call (.ref C) us) (EP X pins σ Q) X.xe s := by
  have q0 := h (s.heap.objs.size + 1) s.heap.objs.size (I.hok.fresh (Nat.le_succ _)) (I.hok.fresh (Nat.le_refl _)) (Nat.ne_of_lt (Nat.lt_succ_self _))
  have I2 := Inv.made (C := C) I
  have r2 : Vals (V.ref (s.heap.objs.size + 1) :: vs) (Value.ref (s.heap.objs.size + 1) :: us) := .cons rfl r
  have hl : (Value.ref (s.heap.objs.size + 1) :: us).length = ps.length := by rw [← r2.length]; exact F.len _ _ _ _ q0
  refine wpAny_call (make_map (f := f) I.kIn M.makes M.init (beq_iff_eq.mp M.fn) (codeAny_mono (F.run _ X.stack _ _ ⟨Value.ref (s.heap.objs.size + 1) :: us, []⟩ (Value.ref (s.heap.objs.size + 1) :: us) _ _ (E σ) (hr.make C us []) (I2.env0.make C us []) (by
    have z := hb _ (Value.ref (s.heap.objs.size + 1) :: us) I2.kIn (by simpa using hl)
    simpa using z) r2 q0) fun r s' q1 => ?_))
  cases r with
  | error e => exact hx pins _ _ e s' I2 q1
  | ok fl =>
    cases fl with
    | ret u =>
      obtain ⟨v, H', I3, rv, ev, q3⟩ := I2.after q1
      subst ev
      exact ⟨rv, V.ref (s.heap.objs.size + 1), H', I3, rfl, q3⟩
    | next => exact False.elim q1
    | brk => exact False.elim q1
    | cont => exact False.elim q1
theorem pe_makeS (M : Mk X.K C f) (F : FnOk X.prog X.w X.K X.mg X.base CX k f fd ps sp) (hr : Room (k + 1) X.A) (hg : Gl X x) (hm : X.mg x = some (.ref C)) (hb : Binds X.K fd ps []) (hx : ∀ σ, PassesAt CX X σ (E σ)) (ha : PA X (e :: es) t)
    (hdb : (x == ("__debug__" : Str)) = false := by decide) (he : starEach (e :: es) X.env = (false, eval e X.env) :: starEach es X.env := by rfl) (hpl : (backTo pos (starEach es X.env)).any (·.1) = false := by rfl) :
    PE X (.Call (.Name x p) (e :: es) [] pos) (tMakeS C sp E t) := by
  refine ⟨fun pins s σ H Q I h => ?_⟩
  refine wpAny_Call_Name_kw (ld_glob I hg hm (?_) hdb)
  exact PySem.W.callWith_K (h₀ := X.base) I.ok.mod.kin M.kp (thn (ha.run pos pins s σ H _ I h) fun us s1 ⟨vs, H1, I1, r, q⟩ => ⟨I1.kIn, run_mkS M F hr hb (hx σ) I1 r q⟩) he hpl
theorem pe_makeK (M : Mk X.K C f) (F : FnOk X.prog X.w X.K X.mg X.base CX k f fd ps sp) (hr : Room (k + 1) X.A) (hg : Gl X x) (hm : X.mg x = some (.ref C)) (hb : KBinds X.K fd ps ks gu gV) (hx : ∀ σ, PassesAt CX X σ (E σ)) (hkw : PK X kws tk)
    (hall : (backToKw pos (keywordEach kws X.env)).all (·.1.isSome) = true := by rfl) (hks : (backToKw pos (keywordEach kws X.env)).filterMap (·.1) = ks := by rfl) (hdb : (x == ("__debug__" : Str)) = false := by decide)
    (hpl : ((backTo pos (starEach [] X.env)).any (·.1) || (backToKw pos (keywordEach kws X.env)).any (·.1.isNone)) = false := by rfl) :
    PE X (.Call (.Name x p) [] kws pos) (tMakeK C sp gV E tk) := by
  refine ⟨fun pins s σ H Q I h => ?_⟩
  refine wpAny_Call_Name_kw (ld_glob I hg hm (?_) hdb)
  refine PySem.W.callWith_KW0 (h₀ := X.base) I.ok.mod.kin M.kp hall (thn (hkw.run pos pins s σ H _ I h) fun ws s2 ⟨zs, H2, I2, rz, q2⟩ => ⟨I2.kIn, ?_⟩) hpl
  rw [hks]
  exact run_mkK (us := []) (vs := []) M F hr hb (hx σ) I2 .nil rz q2
end
section
variable {X : Cx} {e : Expr} {te : TE} {tg : Expr}
def iSeq (K : PySem.W.Frag) (te : TE) : L2.TI := fun σ H R => iList K te σ H R ∨ iTup K te σ H R
theorem pi_seq (he : PE X e te) : PI X tg e (iSeq X.K te) := by
  constructor
  intros
  rename_i h
  rcases h with h | h
  · exact (pi_list he).run _ _ _ _ _ ‹_› h
  · exact (pi_tup he).run _ _ _ _ _ ‹_› h
end
end MB
end
section
set_option maxRecDepth 100000
set_option maxHeartbeats 2000000
namespace MB
open PySem PySem.Spec PyProof.Rows L2
section
variable {X : Cx} {CX : CXT} {C f : Addr} {fd : FuncData} {ps : List Str} {sp : Sp} {E : XK} {n : Nat}
def rEqX (K : PySem.W.Frag) (C : Addr) (sp : Sp) (E : XK) : R2 := fun x y H Q => ∃ a dx fs tb, x = .ref a ∧ H a = some (.ins C dx fs) ∧ TyX K H y tb ∧ PySem.W.notFirst K C tb = true ∧ sp [.ref a, y] H (fun v H' => ∃ b, v = .bl b ∧ Q (.bl b) H') E
def rNeX (K : PySem.W.Frag) (C : Addr) (sp : Sp) (E : XK) : R2 := fun x y H Q => ∃ a dx fs tb, x = .ref a ∧ H a = some (.ins C dx fs) ∧ TyX K H y tb ∧ PySem.W.notFirst K C tb = true ∧ sp [.ref a, y] H (fun v H' => ∃ b, v = .bl b ∧ Q (.bl (!b)) H') E
theorem run_eqX {A : Around} {pins : List (Addr × Obj)} {σ : L2.St} {H : Hp} {s : Shared} {Q : VK} {a : Addr} {y : V} {u : Value} (F : FnOk X.prog X.w X.K X.mg X.base CX n f fd ps sp) (hb : Binds X.K fd ps []) (hx : Passes CX X E) (hr : Room n A) (he : Env0 X.prog X.w X.K X.mg X.base A X.stack s H)
    (I : Inv X pins σ H s) (r : RelV y u) (q : sp [.ref a, y] H Q E) : wpAny (model X.prog X.w) A (call (.ref f) [.ref a, u]) (EP X pins σ Q) X.xe s := by
  have hl := F.len _ _ _ _ q
  have r2 : Vals [V.ref a, y] [Value.ref a, u] := .cons rfl (.cons r .nil)
  refine wpAny_call (codeAny_mono (F.run A X.stack s H ⟨[.ref a, u], []⟩ [.ref a, u] [.ref a, y] Q E hr he (by
    have := hb s [.ref a, u] I.kIn (by simpa using hl)
    simpa using this) r2 q) fun r s' hq => ?_)
  cases r with
  | error e => exact hx pins σ H s e s' I hq
  | ok fl =>
    cases fl with
    | ret w => exact I.after hq
    | next => exact False.elim hq
    | brk => exact False.elim hq
    | cont => exact False.elim hq
theorem op_eqX (F : FnOk X.prog X.w X.K X.mg X.base CX n f fd ps sp) (hs : PySem.W.findIn X.K (.ref C) "__eq__" = some (some (.ref f))) (hf : PySem.W.isFn X.K (.ref f) = true) (hb : Binds X.K fd ps []) (hx : Passes CX X E) (hr : Room n X.A) :
    OpR X (compareOp .Eq) (rEqX X.K C sp E) := by
  intro pins s σ H x y v u Q I rx ry hq
  obtain ⟨a, dx, fs, tb, rfl, ha, ty, nf, q⟩ := hq
  cases (show v = Value.ref a from rx)
  obtain ⟨mA, J, _⟩ := ins_get I.hok ha
  obtain ⟨od, J, _⟩ := J.look
  obtain ⟨P, kx, hP, _⟩ := kit_of I ry ty
  obtain ⟨m, hF⟩ := I.fr
  refine PySem.W.cmp_K (op := .Eq) hr.units0 hF I.ok.mod.kin J (kx.ty _ _ I.kIn hP) nf hs hf ?_
  refine wpAny_mono (run_eqX F hb hx hr I.env0 I ry q) (fun w s' z => ?_) fun _ _ x => x
  obtain ⟨z', H', I', rz, b, rfl, qz⟩ := z
  cases rz
  exact ⟨.bl b, H', I', rfl, qz⟩
theorem neOwnX {prog : Program} {w : World} {A : Around} {E : Value → Shared → Prop} {s : Shared} {K : PySem.W.Frag} {x C f : Addr} {ox : Obj} {od : Option Obj} {b tb : Value} {Q : Value → Shared → Prop} (hu : A.units < cLine) (hu1 : A.in1.units < cLine) (X : K.In s.heap) (I : PySem.W.InstAt s.heap x ox C od) (hb : PySem.W.Looks (model prog w) s.heap (typeOf b) tb) (nf : PySem.W.notFirst K C tb = true)
    (hn : PySem.W.findIn K (.ref C) "__ne__" = some (some (.builtin "object.__ne__"))) (hs : PySem.W.findIn K (.ref C) "__eq__" = some (some (.ref f))) (hf : PySem.W.isFn K (.ref f) = true) (ho : PySem.W.subIn K (.ref C) (.type "object") = some true)
    (h : wpAny (model prog w) A.in1 (call (.ref f) [.ref x, b]) (fun v s' => ∃ r, v = .bool r ∧ Q (.bool (!r)) s') E s) : wpAny (model prog w) A (compareOp .NotEq (.ref x) b) Q E s := by
  have one : wpAny (model prog w) A (tryCompare (.ref x) "__ne__" b) (fun r s' => ∃ v, r = some v ∧ Q v s') E s := by
    unfold tryCompare
    refine wpAny_bind (neBound X I hn (wpAny_call (codeAny_call_builtin PySem.F.slot_object_ne.plain PySem.F.cmpEntry_ne
      (PySem.W.check_slot PySem.F.cmpKind_ne PySem.F.cmpSplit_ne (I.type.andThen (PySem.W.looks_subIn X ho)) (PySem.F.cmpArgs_ne _ _) ?_))))
    unfold Builtin.«object.__ne__»
    refine wpAny_bind (wpAny_pure ?_)
    refine wpAny_bind (wpAny_cRoomFor hu1 ?_)
    refine wpAny_bind (PySem.W.ifBound_K X I hs hf (wpAny_mono h (fun v s' hv => ?_) fun _ _ e => e))
    obtain ⟨r, rfl, hq⟩ := hv
    first
      | exact wpAny_bind (wpAny_truthy_bool (wpAny_pure (wpAny_pure ⟨_, rfl, hq⟩)))
      | exact wpAny_bind (wpAny_truthy_bool (wpAny_pure ⟨_, rfl, hq⟩))
  show wpAny _ _ (richCompare .NotEq (.ref x) b) _ _ _
  unfold richCompare
  simp only [oneThing_ref]
  refine wpAny_holding (wpAny_bind (wpAny_cRoomFor hu ?_))
  refine wpAny_bind (I.type.here (wpAny_bind (hb.here ?_)))
  have fin : wpAny (model prog w) A (tryCompare (.ref x) "__ne__" b) (fun r s' => ∃ v, r = some v ∧ Q v s') E s := one
  split
  · rename_i q
    have e : PySem.W.subIn K tb (.ref C) = some false := by
      rcases Bool.or_eq_true_iff.mp nf with e | e
      · rw [beq_iff_eq.mp e] at q
        simp at q
      · exact beq_iff_eq.mp e
    refine wpAny_bind ((PySem.W.looks_subIn X e).here ?_)
    simp only [Bool.false_eq_true, if_false]
    refine wpAny_bind (wpAny_mono one (fun r s' z => ?_) fun _ _ e => e)
    obtain ⟨v, rfl, hq⟩ := z
    exact wpAny_pure hq
  · refine wpAny_bind (wpAny_pure ?_)
    simp only [Bool.false_eq_true, if_false]
    refine wpAny_bind (wpAny_mono one (fun r s' z => ?_) fun _ _ e => e)
    obtain ⟨v, rfl, hq⟩ := z
    exact wpAny_pure hq
theorem op_neX (F : FnOk X.prog X.w X.K X.mg X.base CX n f fd ps sp) (hn : PySem.W.findIn X.K (.ref C) "__ne__" = some (some (.builtin "object.__ne__")))
    (hs : PySem.W.findIn X.K (.ref C) "__eq__" = some (some (.ref f))) (hf : PySem.W.isFn X.K (.ref f) = true) (ho : PySem.W.subIn X.K (.ref C) (.type "object") = some true) (hb : Binds X.K fd ps []) (hx : Passes CX X E) (hr : Room (n + 1) X.A) :
    OpR X (compareOp .NotEq) (rNeX X.K C sp E) := by
  intro pins s σ H x y v u Q I rx ry hq
  obtain ⟨a, dx, fs, tb, rfl, ha, ty, nf, q⟩ := hq
  cases (show v = Value.ref a from rx)
  obtain ⟨mA, J, _⟩ := ins_get I.hok ha
  obtain ⟨od, J, _⟩ := J.look
  obtain ⟨P, kx, hP, _⟩ := kit_of I ry ty
  have hr1 : Room n X.A.in1 := Room.in1 hr
  refine neOwnX hr.units0 hr1.units0 I.kIn J (kx.ty _ _ I.kIn hP) nf hn hs hf ho ?_
  refine wpAny_mono (run_eqX F hb hx hr1 I.env0.in1 I ry q) (fun w s' z => ?_) fun _ _ x => x
  obtain ⟨z', H', I', rz, b, rfl, qz⟩ := z
  cases rz
  exact ⟨b, rfl, .bl (!b), H', I', rfl, qz⟩
end
end MB
end
section
set_option maxRecDepth 100000
set_option maxHeartbeats 4000000
namespace MB
open PySem PySem.Spec PyProof.Rows L2
theorem lawM_at {P : Program} {w : World} {K : PySem.W.Frag} {mg mb : Str → Option Value} {k : Nat} {fa a : Addr}
    {fd : FuncData} {x : Str} {sp : Sp} {s₁ : Shared} {us : List Value} {ns : List Int} {H : Hp}
    (KX : K.In s₁.heap) (hns : s₁.heap.Ns mainGlobals mg) (hb : s₁.heap.Ns builtinsNs mb)
    (hbb : ∀ x : Str, x ≠ "__name__" → mb x = bootBuiltins x) (hlim : s₁.heap.NoLimit) (hg : s₁.gens = #[])
    (ha : s₁.heap.get? a = some { cls := .type "list", data := .seq us.toArray }) (hr : Room k callerA)
    (F : ∀ base : Heap, K.In base → base.Ns mainGlobals mg → SM base → FnG P w K mg base k fa fd [x] sp) (hsm : SM s₁.heap)
    (hbind : ∀ (s : Shared) (u : Value), BindsTo s fd ⟨[u], []⟩ [(x, u)])
    (hsp : sp [.ref a] H (fun v _ => v = .bl true) E0) (hO : Only H) (hok : HOk P w H s₁.heap)
    (hA : ∀ b, H b ≠ none → b = a) (hK : H a ≠ none → K.lookup a = none) :
    codeAny (model P w) callerA (.call (.ref fa) ⟨[.ref a], []⟩)
      (fun r s' => r = .ok (.ret (.bool true)) ∧ OldK s₁.heap s'.heap ∧ s'.os = s₁.os ∧ AllBare s'.gens) s₁ := by
  have noA : ∀ {b : Addr} {o : Obj} {es : Array DictEntry} {ep : Nat},
      s₁.heap.get? b = some o → o.data = .dict es ep → H b = none := by
    intro b o es ep e d
    cases q : H b with
    | none => rfl
    | some u =>
      obtain rfl : b = a := hA b (by simp [q])
      rw [ha] at e
      cases e
      exact absurd d (by intro z; cases z)
  have nsK : ∀ {b : Addr} {m : Str → Option Value}, s₁.heap.Ns b m → (hidT s₁.heap H).Ns b m :=
    fun {b m} ⟨o, es, ep, e, d, r⟩ => ⟨o, es, ep, hidT_get e (noA e d), d, r⟩
  have hKb : K.In (hidT s₁.heap H) := by
    intro b o e
    refine hidT_get (KX b o e) ?_
    cases q : H b with
    | none => rfl
    | some u =>
      obtain rfl : b = a := hA b (by simp [q])
      rw [hK (by simp [q])] at e
      cases e
  have hM : Mod K mg (hidT s₁.heap H) :=
    ⟨hKb, nsK hns, ⟨mb, nsK hb, hbb⟩, let ⟨mc, h1, h2⟩ := hlim; ⟨mc, nsK h1, h2⟩⟩
  have e0 : Env0 P w K mg (hidT s₁.heap H) callerA [] s₁ H :=
    ⟨rfl, hM, fun b o e => of_hidT e, Nat.le_of_eq (hidT_size _ _), trivial,
      fun b hb => absurd (show b ∈ ([] : List Addr) from hb) (by simp), hok, .of_eq hg⟩
  refine codeAny_mono ((F _ hKb (nsK hns) (let ⟨mm, z⟩ := hsm; ⟨mm, nsK z⟩)).goes callerA [] s₁ H ⟨[.ref a], []⟩ [.ref a] [.ref a] _ _ hr rfl e0
    (hbind s₁ (.ref a)) (.cons rfl .nil) hsp) fun r s' h => ?_
  cases r with
  | error e => exact h.elim
  | ok fl =>
    cases fl with
    | next => exact False.elim h
    | brk => exact False.elim h
    | cont => exact False.elim h
    | ret u =>
      obtain ⟨v, H', os, bare, un, hok', r', q⟩ := h
      have q' : v = .bl true := q
      subst q'
      obtain rfl : u = Value.bool true := r'
      refine ⟨rfl, OldK.of_keep fun b o e => ?_, os, bare⟩
      cases q : H b with
      | none => exact un.keep b o e q (fun z => absurd (show b ∈ ([] : List Addr) from z) (by simp)) (by simp)
      | some u =>
        rcases hO b with z | ⟨ob, xs, z⟩
        · rw [q] at z
          cases z
        · obtain ⟨e1, _⟩ := hok b _ z
          obtain ⟨e2, _⟩ := hok' b _ (un.frzs b ob _ z)
          rw [e] at e1
          cases e1
          exact e2
theorem lawM_call {P : Program} {w : World} {K : PySem.W.Frag} {mg mb : Str → Option Value} {k : Nat} {fa a : Addr}
    {fd : FuncData} {x : Str} {sp : Sp} {s₁ : Shared} {us : List Value} {ns : List Int}
    (KX : K.In s₁.heap) (hns : s₁.heap.Ns mainGlobals mg) (hb : s₁.heap.Ns builtinsNs mb)
    (hbb : ∀ x : Str, x ≠ "__name__" → mb x = bootBuiltins x) (hlim : s₁.heap.NoLimit) (hg : s₁.gens = #[])
    (ha : s₁.heap.get? a = some { cls := .type "list", data := .seq us.toArray }) (hi : IntsAre us ns)
    (hl : ns.length ≤ sizeLine) (hr : Room k callerA)
    (F : ∀ base : Heap, K.In base → base.Ns mainGlobals mg → SM base → FnG P w K mg base k fa fd [x] sp) (hsm : SM s₁.heap)
    (hbind : ∀ (s : Shared) (u : Value), BindsTo s fd ⟨[u], []⟩ [(x, u)])
    (hsp : ∀ H : Hp, Only H → SqL K H a (ns.map V.int) → sp [.ref a] H (fun v _ => v = .bl true) E0) :
    codeAny (model P w) callerA (.call (.ref fa) ⟨[.ref a], []⟩)
      (fun r s' => r = .ok (.ret (.bool true)) ∧ OldK s₁.heap s'.heap ∧ s'.os = s₁.os ∧ AllBare s'.gens) s₁ := by
  have rv := vals_ints hi
  have len1 := hi.length
  cases hk : K.lookup a with
  | some o =>
    have e := KX a o hk
    rw [ha] at e
    cases e
    have hS : SqL K (fun _ => none) a (ns.map V.int) :=
      Or.inr ⟨_, us.toArray, _, hk, rfl, rfl, rfl, by rw [List.size_toArray, len1]; exact hl, by simpa using rv⟩
    exact lawM_at (H := fun _ => none) (ns := ns) KX hns hb hbb hlim hg ha hr F hsm hbind
      (hsp _ (fun _ => Or.inl rfl) hS) (fun _ => Or.inl rfl)
      (fun b u z => by cases (show (none : Option HO) = some u from z)) (fun b z => absurd rfl z) fun z => absurd rfl z
  | none =>
    let ob : Obj := { cls := .type "list", data := .seq us.toArray }
    let H0 : Hp := fun b => if b = a then some (.frz ob (.lst (ns.map V.int))) else none
    have at0 : H0 a = some (.frz ob (.lst (ns.map V.int))) := if_pos rfl
    have off : ∀ b, b ≠ a → H0 b = none := fun b hb => if_neg hb
    have hO : Only H0 := fun b => by
      by_cases hb : b = a
      · subst hb
        exact Or.inr ⟨_, _, at0⟩
      · exact Or.inl (off b hb)
    have hok : HOk P w H0 s₁.heap := fun b u z => by
      by_cases hb : b = a
      · subst hb
        rw [at0] at z
        cases z
        exact ⟨ha, by rw [List.length_map]; exact hl, us, _, rv, ha⟩
      · rw [off b hb] at z
        cases z
    refine lawM_at (H := H0) (ns := ns) KX hns hb hbb hlim hg ha hr F hsm hbind
      (hsp H0 hO (Or.inl (Or.inr ⟨_, at0⟩))) hO hok (fun b z => ?_) fun _ => hk
    by_cases hb : b = a
    · exact hb
    · exact absurd (off b hb) z
theorem walkM {l : PySem.W.OpenLaw} {n k : Nat} {q : Program} {loose : List Str}
    {XP : (Str → Option Value) → Heap → Prop} {YP : World → Heap → Prop} {d : DefRec}
    {K : Params → PySem.W.Frag} {sp : PySem.W.Frag → Sp} {x : Str} (hn : l.most = some n) (hn2 : n ≤ sizeLine)
    (hdf : d.params.defaults = []) (hq : importsNone q = true) (hr : Room k callerA) (hY : ∀ (w : World) (h : Heap), YP w h → (K w.params).In h)
    (F : ∀ (w : World) (mg : Str → Option Value) (fa : Addr) (h : Heap), (K w.params).In h → h.Ns mainGlobals mg →
      mg d.name = some (.ref fa) → ∃ fd : FuncData, (∀ (s : Shared) (u : Value), BindsTo s fd ⟨[u], []⟩ [(x, u)]) ∧
        ∀ base : Heap, (K w.params).In base → base.Ns mainGlobals mg → SM base →
          FnG l.prog w (K w.params) mg base k fa fd [x] (sp (K w.params)))
    (hsp : ∀ (K : PySem.W.Frag) (H : Hp) (a : Addr) (ns : List Int), ns.length ≤ n → Only H →
      SqL K H a (ns.map V.int) → sp K [.ref a] H (fun v _ => v = .bl true) E0) :
    PySem.W.WalkO q loose XP YP l.row.toRowW d [] (fun f vs => PySem.call f vs) := by
  refine Att.attach_call hn hdf fun w s₀ s₁ mg mb fa o pm cd doc a vs ns G Y ho hd hcd hmg hobj hints hlen hg => ?_
  have KX := hY w _ Y
  have hsm : SM s₁.heap := let ⟨mm, z, _⟩ := (G.T.seer hq).mods; ⟨mm, z⟩
  obtain ⟨fd, hb, hF⟩ := F w mg fa _ KX G.T.g hmg
  exact lawM_call KX G.T.g G.T.b G.T.builtins G.T.nolimit hg hobj hints (Nat.le_trans hlen hn2) hr hF hsm hb
    fun H hO hS => hsp _ H a ns hlen hO hS
end MB
end
section
set_option maxRecDepth 100000
set_option maxHeartbeats 4000000
namespace MB
open PySem PySem.Spec PyProof.Rows L2 LamX PySem.W
abbrev Tb := Addr × Addr × Str
def tbs (tabs : List Tb) : List (Addr × Str) := tabs.map fun t => (t.2.1, t.2.2)
structure TabAt (h : Heap) (t : Tb) : Prop where
  c : CodeHd h t.1 t.2.1
  p : h.get? t.2.1 = some (tabObj #[])
def Shape (tabs : List Tb) (H : Hp) : Prop := ∀ b, H b = none ∨ (∃ ob xs, H b = some (.frz ob (.lst xs))) ∨ (H b = some (.tbl #[]) ∧ ∃ t ∈ tabs, t.2.1 = b)
theorem lawT_at {P : Program} {w : World} {K : PySem.W.Frag} {mg mb : Str → Option Value} {k : Nat} {fa a : Addr}
    {fd : FuncData} {x : Str} {sp : Sp} {s₁ : Shared} {us : List Value} {ns : List Int} {H : Hp} {tabs : List Tb}
    (KX : K.In s₁.heap) (hns : s₁.heap.Ns mainGlobals mg) (hb : s₁.heap.Ns builtinsNs mb)
    (hbb : ∀ x : Str, x ≠ "__name__" → mb x = bootBuiltins x) (hlim : s₁.heap.NoLimit) (hg : s₁.gens = #[])
    (hbm : ∃ bm ob, mg "__builtins__" = some (.ref bm) ∧ bm ≠ builtinsNs ∧ s₁.heap.get? bm = some ob ∧ ob.cls = .type "module" ∧ ob.dict = some builtinsNs ∧ ob.data = .plain)
    (ha : s₁.heap.get? a = some { cls := .type "list", data := .seq us.toArray }) (hr : Room k callerA)
    (hT : ∀ t ∈ tabs, TabAt s₁.heap t) (nK : noTabs K = true)
    (F : ∀ base : Heap, K.In base → base.Ns mainGlobals mg → SM base → (∀ t ∈ tabs, TabB base mg t.1 t.2.1) → FnG P w K mg base k fa fd [x] sp) (hsm : SM s₁.heap)
    (hbind : ∀ (s : Shared) (u : Value), BindsTo s fd ⟨[u], []⟩ [(x, u)])
    (hsp : sp [.ref a] H (fun v _ => v = .bl true) E0) (hO : Shape tabs H) (hok : HOk P w H s₁.heap)
    (hA : ∀ b ob xs, H b = some (.frz ob (.lst xs)) → b = a) (hK : ∀ ob xs, H a = some (.frz ob (.lst xs)) → K.lookup a = none) :
    codeAny (model P w) callerA (.call (.ref fa) ⟨[.ref a], []⟩)
      (fun r s' => r = .ok (.ret (.bool true)) ∧ OldK s₁.heap s'.heap ∧ s'.os = s₁.os ∧ AllBare s'.gens) s₁ := by
  have tbl : ∀ {b : Addr}, H b = some (.tbl #[]) → s₁.heap.get? b = some (tabObj #[]) := fun {b} q => hok b _ q
  have other : ∀ {b : Addr} {o : Obj}, s₁.heap.get? b = some o → o.cls ≠ .type "list" → o ≠ tabObj #[] → H b = none := by
    intro b o e c1 c2
    rcases hO b with q | ⟨ob, xs, q⟩ | ⟨q, _⟩
    · exact q
    · obtain rfl := hA b _ _ q
      rw [ha] at e
      cases e
      exact absurd rfl c1
    · rw [tbl q] at e
      cases e
      exact absurd rfl c2
  have noA : ∀ {b : Addr} {o : Obj} {es : Array DictEntry} {ep : Nat},
      s₁.heap.get? b = some o → o.data = .dict es ep → H b = none := by
    intro b o es ep e d
    rcases hO b with q | ⟨ob, xs, q⟩ | ⟨q, _⟩
    · exact q
    · obtain rfl := hA b _ _ q
      rw [ha] at e
      cases e
      cases d
    · rw [tbl q] at e
      cases e
      cases d
  have nsK : ∀ {b : Addr} {m : Str → Option Value}, s₁.heap.Ns b m → (hidT s₁.heap H).Ns b m :=
    fun {b m} ⟨o, es, ep, e, d, r⟩ => ⟨o, es, ep, hidT_get e (noA e d), d, r⟩
  have hKb : K.In (hidT s₁.heap H) := by
    intro b o e
    refine hidT_get (KX b o e) ?_
    rcases hO b with q | ⟨ob, xs, q⟩ | ⟨q, _⟩
    · exact q
    · obtain rfl := hA b _ _ q
      rw [hK _ _ q] at e
      cases e
    · have z := KX b o e
      rw [tbl q] at z
      cases z
      have h2 := List.all_eq_true.mp nK (b, tabObj #[]) (mem_of_lookupK e)
      exact absurd (show false = true from h2) Bool.false_ne_true
  have hM : Mod K mg (hidT s₁.heap H) :=
    ⟨hKb, nsK hns, ⟨mb, nsK hb, hbb⟩, let ⟨mc, h1, h2⟩ := hlim; ⟨mc, nsK h1, h2⟩⟩
  have e0 : Env0 P w K mg (hidT s₁.heap H) callerA [] s₁ H :=
    ⟨rfl, hM, fun b o e => of_hidT e, Nat.le_of_eq (hidT_size _ _), trivial,
      fun b hb => absurd (show b ∈ ([] : List Addr) from hb) (by simp), hok, .of_eq hg⟩
  have hTB : ∀ t ∈ tabs, TabB (hidT s₁.heap H) mg t.1 t.2.1 := fun t ht => by
    obtain ⟨hc, hp⟩ := hT t ht
    obtain ⟨o, vs, file, tf, flags, tg, inF, text, tt, e1, r1, r⟩ := hc
    obtain ⟨bm, ob, b1, b2, b3, b4, b5, b6⟩ := hbm
    have hgP : mainGlobals ≠ t.2.1 := fun q => by
      obtain ⟨o, es, ep, e, hd, _⟩ := hns
      rw [q, hp] at e
      cases e
      cases hd
    refine ⟨⟨o, vs, file, tf, flags, tg, inF, text, tt, hidT_get e1 (other e1 (by rw [r1]; intro z; injection z with z; exact absurd z (by decide)) (by rintro rfl; cases r1)), r1, r⟩, ⟨bm, ob, b1, b2, ?_, ?_, hidT_get b3 (other b3 (by rw [b4]; intro z; injection z with z; exact absurd z (by decide)) (by rintro rfl; cases b4)), b4, b5, b6⟩, hgP⟩
    · intro q
      obtain ⟨o, es, ep, e, hd, _⟩ := hns
      rw [q, e] at b3
      cases b3
      rw [hd] at b6
      cases b6
    · intro q
      rw [q, hp] at b3
      cases b3
      cases b4
  refine codeAny_mono ((F _ hKb (nsK hns) (let ⟨mm, z⟩ := hsm; ⟨mm, nsK z⟩) hTB).goes callerA [] s₁ H ⟨[.ref a], []⟩ [.ref a] [.ref a] _ _ hr rfl e0
    (hbind s₁ (.ref a)) (.cons rfl .nil) hsp) fun r s' h => ?_
  cases r with
  | error e => exact h.elim
  | ok fl =>
    cases fl with
    | next => exact False.elim h
    | brk => exact False.elim h
    | cont => exact False.elim h
    | ret u =>
      obtain ⟨v, H', os, bare, un, hok', r', q⟩ := h
      have q' : v = .bl true := q
      subst q'
      obtain rfl : u = Value.bool true := r'
      have kept : ∀ b o, s₁.heap.get? b = some o → (H b = none ∨ ∃ ob xs, H b = some (.frz ob (.lst xs))) → s'.heap.get? b = some o := fun b o e c => by
        rcases c with q | ⟨ob, xs, z⟩
        · exact un.keep b o e q (fun z => absurd (show b ∈ ([] : List Addr) from z) (by simp)) (by simp)
        · obtain ⟨e1, _⟩ := hok b _ z
          obtain ⟨e2, _⟩ := hok' b _ (un.frzs b ob _ z)
          rw [e] at e1
          cases e1
          exact e2
      have grown : ∀ b o, s₁.heap.get? b = some o → H b = some (.tbl #[]) → ∃ more, s'.heap.get? b = some (tabObj (#[] ++ more)) := fun b o e q => by
        obtain ⟨more, z⟩ := un.tbls b _ q
        exact ⟨more, hok' b _ z⟩
      refine ⟨rfl, ⟨fun b o e => ?_, fun b o e => ?_⟩, os, bare⟩
      · rcases hO b with q | q | ⟨q, t, ht, hb⟩
        · exact .inl (kept b o e (.inl q))
        · exact .inl (kept b o e (.inr q))
        · obtain ⟨more, z⟩ := grown b o e q
          have e' := tbl q
          rw [e] at e'
          cases e'
          refine .inr (.inl ⟨?_, rfl, #[], more, rfl, z⟩)
          rw [← hb]
          exact ((hT t ht).c.tab (hT t ht).p).isCodeTable
      · rcases hO b with q | q | ⟨q, t, ht, hb⟩
        · exact ⟨_, kept b o e (.inl q)⟩
        · exact ⟨_, kept b o e (.inr q)⟩
        · obtain ⟨more, z⟩ := grown b o e q
          exact ⟨_, z⟩
theorem lawT_call {P : Program} {w : World} {K : PySem.W.Frag} {mg mb : Str → Option Value} {k : Nat} {fa a : Addr}
    {fd : FuncData} {x : Str} {sp : Sp} {s₁ : Shared} {us : List Value} {ns : List Int} {tabs : List Tb}
    (KX : K.In s₁.heap) (hns : s₁.heap.Ns mainGlobals mg) (hb : s₁.heap.Ns builtinsNs mb)
    (hbb : ∀ x : Str, x ≠ "__name__" → mb x = bootBuiltins x) (hlim : s₁.heap.NoLimit) (hg : s₁.gens = #[])
    (hbm : ∃ bm ob, mg "__builtins__" = some (.ref bm) ∧ bm ≠ builtinsNs ∧ s₁.heap.get? bm = some ob ∧ ob.cls = .type "module" ∧ ob.dict = some builtinsNs ∧ ob.data = .plain)
    (ha : s₁.heap.get? a = some { cls := .type "list", data := .seq us.toArray }) (hi : IntsAre us ns)
    (hl : ns.length ≤ sizeLine) (hr : Room k callerA)
    (hT : ∀ t ∈ tabs, TabAt s₁.heap t) (nK : noTabs K = true)
    (F : ∀ base : Heap, K.In base → base.Ns mainGlobals mg → SM base → (∀ t ∈ tabs, TabB base mg t.1 t.2.1) → FnG P w K mg base k fa fd [x] sp) (hsm : SM s₁.heap)
    (hbind : ∀ (s : Shared) (u : Value), BindsTo s fd ⟨[u], []⟩ [(x, u)])
    (hsp : ∀ H : Hp, (∀ t ∈ tabs, H t.2.1 = some (.tbl #[])) → SqL K H a (ns.map V.int) → sp [.ref a] H (fun v _ => v = .bl true) E0) :
    codeAny (model P w) callerA (.call (.ref fa) ⟨[.ref a], []⟩)
      (fun r s' => r = .ok (.ret (.bool true)) ∧ OldK s₁.heap s'.heap ∧ s'.os = s₁.os ∧ AllBare s'.gens) s₁ := by
  have rv := vals_ints hi
  have len1 := hi.length
  let isT : Addr → Bool := fun b => tabs.any fun t => t.2.1 == b
  have isT_of : ∀ {b}, isT b = true → ∃ t ∈ tabs, t.2.1 = b := fun {b} z => by
    obtain ⟨t, ht, e⟩ := List.any_eq_true.mp z
    exact ⟨t, ht, beq_iff_eq.mp e⟩
  have isT_at : ∀ t ∈ tabs, isT t.2.1 = true := fun t ht => List.any_eq_true.mpr ⟨t, ht, beq_self_eq_true _⟩
  have at_tab : ∀ {b}, isT b = true → s₁.heap.get? b = some (tabObj #[]) := fun {b} z => by
    obtain ⟨t, ht, e⟩ := isT_of z
    rw [← e]
    exact (hT t ht).p
  have nA : isT a = false := by
    cases z : isT a with
    | false => rfl
    | true =>
      have e := at_tab z
      rw [ha] at e
      cases e
  cases hk : K.lookup a with
  | some o =>
    have e := KX a o hk
    rw [ha] at e
    cases e
    let H0 : Hp := fun b => if isT b = true then some (.tbl #[]) else none
    have cases0 : ∀ b, (isT b = true ∧ H0 b = some (.tbl #[])) ∨ (isT b = false ∧ H0 b = none) := fun b => by
      cases z : isT b with
      | true => exact .inl ⟨rfl, if_pos z⟩
      | false => exact .inr ⟨rfl, if_neg (by rw [z]; decide)⟩
    have hS : SqL K H0 a (ns.map V.int) :=
      Or.inr ⟨_, us.toArray, _, hk, rfl, rfl, rfl, by rw [List.size_toArray, len1]; exact hl, by simpa using rv⟩
    refine lawT_at (H := H0) (ns := ns) KX hns hb hbb hlim hg hbm ha hr hT nK F hsm hbind
      (hsp _ (fun t ht => if_pos (isT_at t ht)) hS) (fun b => ?_) (fun b u z => ?_) (fun b ob xs z => ?_) fun ob xs z => ?_
    · rcases cases0 b with ⟨h1, h2⟩ | ⟨_, h2⟩
      · exact .inr (.inr ⟨h2, isT_of h1⟩)
      · exact .inl h2
    · rcases cases0 b with ⟨h1, h2⟩ | ⟨_, h2⟩
      · rw [h2] at z
        cases z
        exact at_tab h1
      · rw [h2] at z
        cases z
    · rcases cases0 b with ⟨h1, h2⟩ | ⟨_, h2⟩
      · rw [h2] at z
        cases z
      · rw [h2] at z
        cases z
    · rcases cases0 a with ⟨h1, h2⟩ | ⟨_, h2⟩
      · rw [h2] at z
        cases z
      · rw [h2] at z
        cases z
  | none =>
    let ob : Obj := { cls := .type "list", data := .seq us.toArray }
    let H0 : Hp := fun b => if b = a then some (.frz ob (.lst (ns.map V.int))) else if isT b = true then some (.tbl #[]) else none
    have at0 : H0 a = some (.frz ob (.lst (ns.map V.int))) := if_pos rfl
    have cases0 : ∀ b, (b = a) ∨ (isT b = true ∧ H0 b = some (.tbl #[])) ∨ (isT b = false ∧ H0 b = none) := fun b => by
      by_cases hb : b = a
      · exact .inl hb
      · refine .inr ?_
        have e : H0 b = if isT b = true then some (.tbl #[]) else none := if_neg hb
        rw [e]
        cases z : isT b with
        | true => exact .inl ⟨rfl, if_pos rfl⟩
        | false => exact .inr ⟨rfl, if_neg (by decide)⟩
    refine lawT_at (H := H0) (ns := ns) KX hns hb hbb hlim hg hbm ha hr hT nK F hsm hbind
      (hsp H0 (fun t ht => ?_) (Or.inl (Or.inr ⟨_, at0⟩))) (fun b => ?_) (fun b u z => ?_) (fun b ob' xs z => ?_) fun _ _ _ => hk
    · rcases cases0 t.2.1 with e | ⟨_, e⟩ | ⟨e, _⟩
      · have := isT_at t ht
        rw [e, nA] at this
        cases this
      · exact e
      · rw [isT_at t ht] at e
        cases e
    · rcases cases0 b with rfl | ⟨h1, h2⟩ | ⟨_, h2⟩
      · exact .inr (.inl ⟨_, _, at0⟩)
      · exact .inr (.inr ⟨h2, isT_of h1⟩)
      · exact .inl h2
    · rcases cases0 b with rfl | ⟨h1, h2⟩ | ⟨_, h2⟩
      · rw [at0] at z
        cases z
        exact ⟨ha, by rw [List.length_map]; exact hl, us, _, rv, ha⟩
      · rw [h2] at z
        cases z
        exact at_tab h1
      · rw [h2] at z
        cases z
    · rcases cases0 b with e | ⟨h1, h2⟩ | ⟨_, h2⟩
      · exact e
      · rw [h2] at z
        cases z
      · rw [h2] at z
        cases z
theorem walkT {l : PySem.W.OpenLaw} {n k : Nat} {q : Program} {loose : List Str}
    {XP : (Str → Option Value) → Heap → Prop} {YP : World → Heap → Prop} {d : DefRec}
    {K : Params → PySem.W.Frag} {sp : PySem.W.Frag → List (Addr × Str) → Sp} {x : Str} (hn : l.most = some n) (hn2 : n ≤ sizeLine)
    (hdf : d.params.defaults = []) (hq : importsNone q = true) (hr : Room k callerA) (hY : ∀ (w : World) (h : Heap), YP w h → (K w.params).In h)
    (F : ∀ (w : World) (mg : Str → Option Value) (fa : Addr) (h : Heap), (K w.params).In h → h.Ns mainGlobals mg →
      (∀ (x : Str) (r : DefRec) (c P : Addr), (recsOf q).find? (fun e => e.name == x) = some r → tabIn (K w.params) x = some (c, P) → CodeHd h c P ∧ h.get? P = some (tabObj #[])) →
      mg d.name = some (.ref fa) → ∃ (fd : FuncData) (tabs : List Tb), (∀ t ∈ tabs, TabAt h t) ∧ noTabs (K w.params) = true ∧ (∀ (s : Shared) (u : Value), BindsTo s fd ⟨[u], []⟩ [(x, u)]) ∧
        ∀ base : Heap, (K w.params).In base → base.Ns mainGlobals mg → SM base → (∀ t ∈ tabs, TabB base mg t.1 t.2.1) →
          FnG l.prog w (K w.params) mg base k fa fd [x] (sp (K w.params) (tbs tabs)))
    (hsp : ∀ (K : PySem.W.Frag) (H : Hp) (a : Addr) (ns : List Int) (T : List (Addr × Str)), ns.length ≤ n → Tabs T H →
      SqL K H a (ns.map V.int) → sp K T [.ref a] H (fun v _ => v = .bl true) E0) :
    PySem.W.WalkO q loose XP YP l.row.toRowW d [] (fun f vs => PySem.call f vs) := by
  refine Att.attach_call hn hdf fun w s₀ s₁ mg mb fa o pm cd doc a vs ns G Y ho hd hcd hmg hobj hints hlen hg => ?_
  have KX := hY w _ Y
  have hsm : SM s₁.heap := let ⟨mm, z, _⟩ := (G.T.seer hq).mods; ⟨mm, z⟩
  obtain ⟨fd, tabs, hT, nK, hb, hF⟩ := F w mg fa _ KX G.T.g (fun x r c P hr ht => tab_of G.T KX hr ht) hmg
  exact lawT_call KX G.T.g G.T.b G.T.builtins G.T.nolimit hg G.T.bmain hobj hints (Nat.le_trans hlen hn2) hr hT nK hF hsm hb
    fun H hH hS => hsp _ H a ns _ hlen (fun p hp => by
      obtain ⟨t, ht, rfl⟩ := List.mem_map.mp hp
      exact TabS.nil (hH t ht)) hS
end MB
end
section
set_option maxRecDepth 100000
namespace MB
open PySem PySem.Spec PyProof.Rows L2
structure Clause where
  cls : Value
  slot : Option Nat
  ts : Addr → Value → Option Addr → TS
def offAt (i : Nat) (D : Ends) : Ends :=
  { nx := fun σ H => D.nx (σ.set i none) H, rt := D.rt, bk := fun σ H => D.bk (σ.set i none) H, ct := fun σ H => D.ct (σ.set i none) H }
def Clause.goes (c : Clause) (D : Ends) (a : Addr) (cls : Value) (d : Option Addr) (σ : L2.St) (H : Hp) : Prop :=
  match c.slot with
  | none => c.ts a cls d D σ H
  | some i => c.ts a cls d (offAt i D) (σ.set i (some (.ref a))) H
def wMix (K : PySem.W.Frag) (Wout : WX) (D : Ends) : List Clause → WX
  | [] => Wout
  | c :: r => fun cls d σ H => ∃ hit, PySem.W.exmOne K cls c.cls = some hit ∧
      (hit = true → ∀ a, H a = none → c.goes D a cls d σ H) ∧ (hit = false → wMix K Wout D r cls d σ H)
inductive Clauses (X : Cx) : List ExceptHandler → List Clause → Prop
  | nil : Clauses X [] []
  | bare {x : Str} {c : Value} {ts : Addr → Value → Option Addr → TS} {b₀ : Stmt} {suite : List Stmt} {np hp : Pos} {hds : List ExceptHandler} {l : List Clause}
      (nm : Names X x c) (su : ∀ (a : Addr) (oe : Obj) (cls : Value) (d : Option Addr) (pn : List (Addr × Obj)), Zc cls d oe → (∃ vs, oe.data = .fields vs) →
        PSs (X.suite a ((a, oe) :: pn)) (b₀ :: suite) (ts a cls d)) (more : Clauses X hds l) :
      Clauses X (.ExceptHandler (some (.Name x np)) none (b₀ :: suite) hp :: hds) (⟨c, none, ts⟩ :: l)
  | named {x n : Str} {c : Value} {i : Nat} {ts : Addr → Value → Option Addr → TS} {b₀ : Stmt} {suite : List Stmt} {np hp : Pos} {hds : List ExceptHandler} {l : List Clause}
      (nm : Names X x c) (at_ : X.N[i]? = some n) (loc : X.env.kindOf n = some .local)
      (su : ∀ (a : Addr) (oe : Obj) (cls : Value) (d : Option Addr) (pn : List (Addr × Obj)), Zc cls d oe → (∃ vs, oe.data = .fields vs) →
        PSs (X.suite a ((a, oe) :: pn)) (b₀ :: suite) (ts a cls d)) (more : Clauses X hds l) :
      Clauses X (.ExceptHandler (some (.Name x np)) (some n) (b₀ :: suite) hp :: hds) (⟨c, some i, ts⟩ :: l)
structure Met (X : Cx) (pins : List (Addr × Obj)) (σ : L2.St) (H : Hp) (B : Heap) (a : Addr) (cls : Value) (d : Option Addr) (sI : Shared) (s : Shared) : Prop where
  inv : Inv X pins σ H sI
  gr : ∀ b o, sI.heap.get? b = some o → b ∉ frs X.stack → B.get? b = some o
  fly : HandSPX.FlyingZ B (X.env :: X.outer) a (Zc cls d) s.heap
  up : sI.heap.UpToSlots s.heap
  un : H a = none
  os : s.os = sI.os
  ba : AllBare s.gens
section
variable {X : Cx} {pins : List (Addr × Obj)} {σ : L2.St} {H : Hp} {B : Heap} {a : Addr} {cls : Value} {d : Option Addr} {sI s : Shared}
theorem Met.here (m : Met X pins σ H B a cls d sI s) : Inv X pins σ H s := m.inv.landed m.gr m.fly.1 m.up m.os m.ba
theorem Met.inSuite (m : Met X pins σ H B a cls d sI s) (hf : X.env.frame = some X.env.locals) :
    ∃ oe vs, s.heap.get? a = some oe ∧ Zc cls d oe ∧ oe.data = .fields vs ∧ Inv (X.suite a ((a, oe) :: (X.pn ++ pins))) [] σ H s := by
  obtain ⟨oe, vs, e, z, dt⟩ := m.fly.there
  have out : a ∉ frs (X.env :: X.outer) := fun hm => by
    obtain ⟨_, o', e', no⟩ := m.fly.2.2.1.mem hm
    rw [e] at e'
    cases e'
    exact no _ dt
  refine ⟨oe, vs, e, z, dt, m.here.suite e dt m.un (fun q => out ?_) fun hm => out ?_⟩
  · exact List.mem_filterMap.mpr ⟨X.env, List.mem_cons_self, by rw [hf, q]⟩
  · obtain ⟨v, hv, q⟩ := List.mem_filterMap.mp hm
    exact List.mem_filterMap.mpr ⟨v, List.mem_cons_of_mem _ hv, q⟩
theorem Met.on {Wout : WX} {D : Ends} (m : Met X pins σ H B a cls d sI s) (hs : X.stack = X.env :: X.outer) (hf : X.env.frame = some X.env.locals) (tk : Takes X Wout) (w : Wout cls d σ H) :
    wpAny (model X.prog X.w) X.A (handleBy (.ref a) X.env []) (SP X pins D) X.xe s := by
  have fl := m.fly
  obtain ⟨_, _, _, oe, vs, T, _, _, e, _, dt, one, _⟩ := id fl
  refine wpAny_handleBy_nil ?_
  unfold PySem.passOn
  refine wpAny_bind (wpAny_field e dt one ?_)
  rw [if_neg (show ¬ ((Value.ref T == Value.none) = true) from by simp)]
  have away : wpAny (model X.prog X.w) X.A (setFlight (.ref a) X.env.frame) (fun _ s4 => wpAny (model X.prog X.w) X.A (throw (.ref a) : Sem Flow) (SP X pins D) X.xe s4) X.xe s := by
    rw [hf]
    refine HandSPX.setFlight_upZ fl fun h4 held up4 => wpAny_throw (tk _ _ ?_)
    exact ⟨a, B, sI, pins, σ, H, cls, d, rfl, m.inv, m.gr, m.up.trans up4, .inr (.inr (by rw [hs]; exact held)), m.un, m.os, m.ba, w⟩
  first
    | exact wpAny_bind (wpAny_pure (wpAny_bind away))
    | exact wpAny_bind away
theorem Met.clauses {Wout : WX} {D : Ends} (hs : X.stack = X.env :: X.outer) (hf : X.env.frame = some X.env.locals) (nd : X.N.Nodup) (tk : Takes X Wout)
    {hds : List ExceptHandler} {l : List Clause} (hc : Clauses X hds l) (m : Met X pins σ H B a cls d sI s) (w : wMix X.K Wout D l cls d σ H) :
    wpAny (model X.prog X.w) X.A (handleBy (.ref a) X.env hds) (SP X pins D) X.xe s := by
  have ok := m.inv.ok
  obtain ⟨oe, vs, e, z, dt, S⟩ := m.inSuite hf
  have typ : PySem.W.Looks (model X.prog X.w) s.heap (typeOf (.ref a)) cls := fun A Q E s' k q => wpAny_typeOf_ref (k _ _ e) (by rw [z.1]; exact q)
  have reads : ∀ {x : Str} {c : Value} {np : Pos} {Q : Value → Shared → Prop} {E : Value → Shared → Prop}, Names X x c → Q c s →
      wpAny (model X.prog X.w) (X.A.mark (some (.ref a))) (eval (.Name x np) X.env) Q E s := fun {x c np Q E} nm q => by
    obtain ⟨g, db, h | ⟨h, bv, nn⟩⟩ := nm
    · exact ld_glob (X := X.suite a ((a, oe) :: (X.pn ++ pins))) S g h q db
    · exact ld_blt (X := X.suite a ((a, oe) :: (X.pn ++ pins))) S g h bv q nn db
  induction hc with
  | nil => exact m.on hs hf tk w
  | @bare x c ts b₀ suite np hp hds2 l2 nm su more ih =>
    obtain ⟨hit, he, yes, no⟩ := w
    refine wpAny_handleBy_cons (codeAny_handlers_test ?_) (by intro q; cases q)
    refine reads nm ((PySem.W.exm_one (M := model X.prog X.w) m.here.kIn typ he).here ?_)
    cases hit with
    | false => exact ih (no rfl)
    | true =>
      refine codeAny_handlers_suite ?_
      refine HandSPX.lands_againZ m.fly fun h4 fl4 up4 => ?_
      have m4 : Met X pins σ H B a cls d sI { s with heap := h4 } := ⟨m.inv, m.gr, fl4, m.up.trans up4, m.un, m.os, m.ba⟩
      obtain ⟨oe4, vs4, e4, z4, dt4, S4⟩ := m4.inSuite hf
      refine wpAny_mono ((su a oe4 cls d (X.pn ++ pins) z4 ⟨_, dt4⟩).run [] _ _ H _ S4 (yes rfl a m.un)) (fun f s6 r => ?_) (fun _ _ z => False.elim z)
      cases f with
      | ret u =>
        obtain ⟨v6, σ6, H6, S6, r6, q6⟩ := r
        exact ⟨v6, σ6, H6, S6.unsuite ok, r6, q6⟩
      | next | brk | cont =>
        obtain ⟨σ6, H6, S6, q6⟩ := r
        exact ⟨σ6, H6, S6.unsuite ok, q6⟩
  | @named x n c i ts b₀ suite np hp hds2 l2 nm at_ loc su more ih =>
    obtain ⟨hit, he, yes, no⟩ := w
    refine wpAny_handleBy_cons (codeAny_handlers_test ?_) (by intro q; cases q)
    refine reads nm ((PySem.W.exm_one (M := model X.prog X.w) m.here.kIn typ he).here ?_)
    cases hit with
    | false => exact ih (no rfl)
    | true =>
      refine codeAny_handlers_suite_as ?_
      refine HandSPX.lands_againZ m.fly fun h4 fl4 up4 => ?_
      have m4 : Met X pins σ H B a cls d sI { s with heap := h4 } := ⟨m.inv, m.gr, fl4, m.up.trans up4, m.un, m.os, m.ba⟩
      obtain ⟨oe4, vs4, e4, z4, dt4, S4⟩ := m4.inSuite hf
      refine store_ok (X := X.suite a ((a, oe4) :: (X.pn ++ pins))) (v := .ref a) S4 nd at_ (.inl loc) rfl (fun s5 S5 => ?_) (.inr loc)
      refine wpAny_mono ((su a oe4 cls d (X.pn ++ pins) z4 ⟨_, dt4⟩).run [] s5 _ H _ S5 (yes rfl a m.un)) (fun f s6 r => ?_) (fun _ _ z => False.elim z)
      cases f with
      | ret u =>
        obtain ⟨v6, σ6, H6, S6, r6, q6⟩ := r
        exact gone_ok (S6.unsuite ok) nd at_ loc fun s7 J7 => ⟨v6, _, H6, J7, r6, q6⟩
      | next | brk | cont =>
        obtain ⟨σ6, H6, S6, q6⟩ := r
        exact gone_ok (S6.unsuite ok) nd at_ loc fun s7 J7 => ⟨_, H6, J7, q6⟩
end
section
variable {X : Cx} {body : List Stmt} {h₀ : ExceptHandler} {hds : List ExceptHandler} {l : List Clause} {pos : Pos} {tb : WX → TS} {Wout : WX}
theorem ps_tryMix (hs : X.stack = X.env :: X.outer) (hf : X.env.frame = some X.env.locals) (nd : X.N.Nodup) (tk : Takes X Wout)
    (hb : ∀ (W : WX) (pn : List (Addr × Obj)) (xe : Value → Shared → Prop), Takes (X.tr pn xe) W → PassesOwn (model X.prog X.w) X.A X.env xe → PSs (X.tr pn xe) body (tb W))
    (hc : Clauses X (h₀ :: hds) l) : PS X (.Try body (h₀ :: hds) [] [] pos) (fun D σ H => tb (wMix X.K Wout D l) D σ H) := by
  refine ⟨fun pins s σ H D I q => ?_⟩
  have ok := I.ok
  have hfr : X.A.frames = some (X.env :: X.outer) := by rw [ok.frames, hs]
  let out : Value → Shared → Prop := fun e s₁ => wpAny (model X.prog X.w) X.A (noteFrame e X.env) (fun _ s₂ => wpAny (model X.prog X.w) X.A (setFlight e none)
    (fun _ s₃ => wpAny (model X.prog X.w) X.A (handleBy e X.env (h₀ :: hds)) (SP X pins D) X.xe s₃) X.xe s₂) X.xe s₁
  have run := (hb (wMix X.K Wout D l) (X.pn ++ pins) out (fun u s' xx => by
    obtain ⟨a, B, sI, pins', σ', H', cls, d, rfl, J', gr, up, sky, un, os, ba, w⟩ := xx
    refine Sky.land Zc.steady hfr hf (by rw [← hs]; exact sky) fun h3 fl3 up3 => ?_
    exact Met.clauses hs hf nd tk hc (B := B) (sI := sI) ⟨J'.ofTry ok, gr, fl3, up.trans up3, un, os, ba⟩ w) PassesOwn.looking).run [] s σ H D (I.toTry _) q
  refine wpAny_Try_except (wpAny_mono run (fun f s1 r => ?_) (fun e s1 he => he))
  cases f with
  | next =>
    obtain ⟨σ', H', J', q'⟩ := r
    exact wpAny_execs_nil ⟨σ', H', J'.ofTry ok, q'⟩
  | brk | cont =>
    obtain ⟨σ', H', J', q'⟩ := r
    exact ⟨σ', H', J'.ofTry ok, q'⟩
  | ret u =>
    obtain ⟨v, σ', H', J', rv, q'⟩ := r
    exact ⟨v, σ', H', J'.ofTry ok, rv, q'⟩
end
end MB
end
section
set_option maxRecDepth 100000
set_option maxHeartbeats 4000000
namespace MB
open PySem PySem.Spec PyProof.Rows L2
def dk (kL : Str) (l : Addr) (m n : Int) : List (Key × V) := [(.inr kL, .ref l), (.inr "mixed", .int m), (.inr "draws", .int n)]
structure Deck (kL : Str) (H : Hp) (d l : Addr) : Prop where
  ex : ∃ (m n : Int) (cs : List Int), H d = some (.dK (dk kL l m n)) ∧ H l = some (.lst (cs.map V.int)) ∧ cs.length ≤ 63 ∧ 0 ≤ m ∧ m < 2147483648
def But (d l : Addr) (H H' : Hp) : Prop := ∀ b o, H b = some o → b ≠ d → b ≠ l → H' b = some o
structure KOk (kL : Str) : Prop where
  m : ¬ kL = ("mixed" : Str)
  d : ¬ kL = ("draws" : Str)
theorem md : ¬ ("mixed" : Str) = ("draws" : Str) := by decide +kernel
theorem key_ne {a b : Str} (h : ¬ a = b) : ¬ ((Sum.inr a : Key) = Sum.inr b) := fun e => h (Sum.inr.inj e)
section
variable {kL : Str} {l d : Addr} {m n : Int} {H H' H1 : Hp}
theorem dk_left : valV (dk kL l m n) (.inr kL : Key) = some (.ref l) := valV_pos rfl
theorem dk_mixed (k : KOk kL) : valV (dk kL l m n) (.inr "mixed" : Key) = some (.int m) := by
  unfold dk
  rw [valV_neg (key_ne k.m)]
  exact valV_pos rfl
theorem dk_draws (k : KOk kL) : valV (dk kL l m n) (.inr "draws" : Key) = some (.int n) := by
  unfold dk
  rw [valV_neg (key_ne k.d), valV_neg (key_ne md)]
  exact valV_pos rfl
theorem dk_put (k : KOk kL) (n' : Int) : putK (dk kL l m n) (.inr "draws" : Key) (.int n') = dk kL l m n' := by
  have e1 : ¬ ((Sum.inr kL : Key) = (Sum.inr ("draws" : Str) : Key)) := key_ne k.d
  have e2 : ¬ ((Sum.inr ("mixed" : Str) : Key) = (Sum.inr ("draws" : Str) : Key)) := key_ne md
  have e3 : ((dk kL l m n).any fun kv => decide (kv.1 = (Sum.inr ("draws" : Str) : Key))) = true := by
    unfold dk
    simp [List.any_cons]
  unfold putK
  rw [if_pos e3]
  unfold dk
  simp only [List.map_cons, List.map_nil]
  rw [if_neg e1, if_neg e2, if_pos True.intro]
theorem dk_merge (k : KOk kL) : mergeK [] (dk kL l m n) = dk kL l m n := by
  have e1 : ¬ ((Sum.inr kL : Key) = (Sum.inr ("draws" : Str) : Key)) := key_ne k.d
  have e2 : ¬ ((Sum.inr ("mixed" : Str) : Key) = (Sum.inr ("draws" : Str) : Key)) := key_ne md
  have e3 : ¬ ((Sum.inr kL : Key) = (Sum.inr ("mixed" : Str) : Key)) := key_ne k.m
  unfold mergeK dk
  simp only [List.foldl_cons, List.foldl_nil]
  unfold putK
  simp [e1, e2, e3]
theorem Deck.ne (D : Deck kL H d l) : d ≠ l := by
  obtain ⟨m, n, cs, h1, h2, _⟩ := D.ex
  exact ne_of h1 h2 (by intro z; cases z)
theorem Deck.same (D : Deck kL H d l) (e : Same H H') : Deck kL H' d l := by
  obtain ⟨m, n, cs, h1, h2, h3⟩ := D.ex
  exact ⟨m, n, cs, e _ _ h1, e _ _ h2, h3⟩
theorem But.refl : But d l H H := fun _ _ h _ _ => h
theorem But.of (e : Same H H') : But d l H H' := fun b o h _ _ => e b o h
theorem But.trans (a : But d l H H') (b : But d l H' H1) : But d l H H1 := fun c o h h1 h2 => b c o (a c o h h1 h2) h1 h2
theorem But.same (a : But d l H H') (b : Same H' H1) : But d l H H1 := fun c o h h1 h2 => b c o (a c o h h1 h2)
theorem But.free (D : Deck kL H' d l) (e : But d l H H') {p : Addr} (h : H' p = none) : H p = none := by
  obtain ⟨m, n, cs, h1, h2, _⟩ := D.ex
  cases q : H p with
  | none => rfl
  | some o =>
    by_cases hd : p = d
    · subst hd
      rw [h1] at h
      cases h
    · by_cases hl : p = l
      · subst hl
        rw [h2] at h
        cases h
      · rw [e p o q hd hl] at h
        cases h
theorem Deck.off {p : Addr} (D : Deck kL H d l) (h : H p = none) : p ≠ d ∧ p ≠ l := by
  obtain ⟨m, n, cs, h1, h2, _⟩ := D.ex
  exact ⟨(ne_of_none h1 h).symm, (ne_of_none h2 h).symm⟩
theorem Deck.off_tup {p : Addr} {xs : List V} (D : Deck kL H d l) (h : H p = some (.tup xs)) : p ≠ d ∧ p ≠ l := by
  obtain ⟨m, n, cs, h1, h2, _⟩ := D.ex
  exact ⟨ne_of h h1 (by intro z; cases z), ne_of h h2 (by intro z; cases z)⟩
theorem Deck.off_frz {p : Addr} {o : Obj} {u : HO} (D : Deck kL H d l) (h : H p = some (.frz o u)) : p ≠ d ∧ p ≠ l := by
  obtain ⟨m, n, cs, h1, h2, _⟩ := D.ex
  exact ⟨ne_of h h1 (by intro z; cases z), ne_of h h2 (by intro z; cases z)⟩
theorem But.tup {K : PySem.W.Frag} {a : Addr} {xs : List V} (D : Deck kL H d l) (e : But d l H H') (h : SqT K H a xs) : SqT K H' a xs := by
  rcases h with (h | ⟨o, h⟩) | h
  · obtain ⟨h1, h2⟩ := D.off_tup h
    exact .inl (.inl (e _ _ h h1 h2))
  · obtain ⟨h1, h2⟩ := D.off_frz h
    exact .inl (.inr ⟨o, e _ _ h h1 h2⟩)
  · exact .inr h
theorem But.upd {p : Addr} {o : HO} (h : H p = none) (e : But d l H H') : But d l H (upd H' p o) := fun b u q h1 h2 => by
  rw [upd_ne (ne_of_none q h)]
  exact e b u q h1 h2
theorem Deck.upd {p : Addr} {o : HO} (D : Deck kL H d l) (h1 : p ≠ d) (h2 : p ≠ l) : Deck kL (upd H p o) d l := by
  obtain ⟨m, n, cs, e1, e2, e3⟩ := D.ex
  exact ⟨m, n, cs, by rw [upd_ne h1.symm]; exact e1, by rw [upd_ne h2.symm]; exact e2, e3⟩
end
theorem ints_lay : ∀ ns : List Int, PyData.canLayAll0 (ns.map PyData.int) = true
  | [] => by simp only [List.map_nil, PyData.canLayAll0]
  | n :: r => by
    simp only [List.map_cons, PyData.canLayAll0, PyData.canLay0, ints_lay r, Bool.and_self]
theorem ints_depth : ∀ ns : List Int, PyData.depthAll (ns.map PyData.int) = 0
  | [] => by simp only [List.map_nil, PyData.depthAll]
  | n :: r => by
    simp only [List.map_cons, PyData.depthAll, PyData.depth, ints_depth r, Nat.max_self]
theorem lst_shaped (ns : List Int) : SeqAt.shaped (.list (ns.map PyData.int)) = true := by
  unfold SeqAt.shaped
  simp only [PyData.canLay0, PyData.depth, ints_lay, ints_depth]
  decide
theorem tup_shaped (ns : List Int) : SeqAt.shaped (.tuple (ns.map PyData.int)) = true := by
  unfold SeqAt.shaped
  simp only [PyData.canLay0, PyData.depth, ints_lay, ints_depth]
  decide
theorem dp_ints {K : PySem.W.Frag} {H : Hp} : ∀ ns : List Int, DpAll K H (ns.map V.int) (ns.map PyData.int)
  | [] => .nil
  | n :: r => .cons (.int n) (dp_ints r)
theorem eqv_lnil (ns : List Int) : PyData.eqv (.list (ns.map PyData.int)) (.list []) = ns.isEmpty := by
  cases ns with
  | nil => simp only [List.map_nil, PyData.eqv, PyData.eqvAll, List.isEmpty_nil]
  | cons a r => simp only [List.map_cons, PyData.eqv, PyData.eqvAll, List.isEmpty_cons]
theorem eqv_tnil (ns : List Int) : PyData.eqv (.tuple (ns.map PyData.int)) (.tuple []) = ns.isEmpty := by
  cases ns with
  | nil => simp only [List.map_nil, PyData.eqv, PyData.eqvAll, List.isEmpty_nil]
  | cons a r => simp only [List.map_cons, PyData.eqv, PyData.eqvAll, List.isEmpty_cons]
theorem ne_nil_rd {K : PySem.W.Frag} {H : Hp} {l p : Addr} {ns : List Int} {Q : VK} (h : SqL K H l (ns.map V.int)) (hp : SqL K H p []) (q : Q (.bl (!ns.isEmpty)) H) : rNeD K (.ref l) (.ref p) H Q := by
  refine ⟨.list (ns.map PyData.int), .list [], .lst h (dp_ints ns), .lst hp .nil, lst_shaped ns, lst_shaped [], ?_⟩
  rw [eqv_lnil]
  exact q
theorem tne_nil_rd {K : PySem.W.Frag} {H : Hp} {l p : Addr} {ns : List Int} {Q : VK} (h : SqT K H l (ns.map V.int)) (hp : SqT K H p []) (q : Q (.bl (!ns.isEmpty)) H) : rNeD K (.ref l) (.ref p) H Q := by
  refine ⟨.tuple (ns.map PyData.int), .tuple [], .tup h (dp_ints ns), .tup hp .nil, tup_shaped ns, tup_shaped [], ?_⟩
  rw [eqv_tnil]
  exact q
end MB
end
section
set_option maxRecDepth 100000
namespace MB
open PySem PySem.Spec PyProof.Rows L2
def hide (d l : Addr) (H : Hp) : Hp := fun b => if b = d ∨ b = l then none else H b
section
variable {d l p : Addr} {H H' : Hp} {o : HO} {kL : Str} {K : PySem.W.Frag}
theorem hide_off (h1 : p ≠ d) (h2 : p ≠ l) : hide d l H p = H p := if_neg fun z => z.elim h1 h2
theorem hide_sub : Same (hide d l H) H := fun b u e => by
  unfold hide at e
  split at e
  · cases e
  · exact e
theorem hide_none (h : H p = none) : hide d l H p = none := by
  unfold hide
  split
  · rfl
  · exact h
theorem But.hide (e : But d l H H') : Same (MB.hide d l H) (MB.hide d l H') := fun b u q => by
  unfold MB.hide at q ⊢
  split at q
  · cases q
  · rename_i n
    rw [if_neg n]
    exact e b u q (fun z => n (.inl z)) fun z => n (.inr z)
theorem hide_upd (h1 : p ≠ d) (h2 : p ≠ l) : hide d l (upd H p o) = upd (hide d l H) p o := by
  funext b
  by_cases hb : b = p
  · subst hb
    rw [hide_off h1 h2, upd_same, upd_same]
  · rw [upd_ne hb]
    unfold hide
    rw [upd_ne hb]
theorem Deck.new (D : Deck kL H d l) (h : H p = none) : hide d l (L2.upd H p o) = L2.upd (hide d l H) p o := hide_upd (D.off h).1 (D.off h).2
theorem Deck.same_new (D : Deck kL H d l) (h : H p = none) : Same (hide d l H) (hide d l (L2.upd H p o)) := by
  rw [D.new h]
  exact fun b u q => by
    rw [upd_ne (ne_of_none q (hide_none h))]
    exact q
theorem Deck.at_new (D : Deck kL H d l) (h : H p = none) : hide d l (L2.upd H p o) p = some o := by
  rw [D.new h, upd_same]
theorem sqT_hide (D : Deck kL H d l) {a : Addr} {xs : List V} (h : SqT K H a xs) : SqT K (hide d l H) a xs := by
  rcases h with (h | ⟨o, h⟩) | h
  · obtain ⟨h1, h2⟩ := D.off_tup h
    exact .inl (.inl ((hide_off h1 h2).trans h))
  · obtain ⟨h1, h2⟩ := D.off_frz h
    exact .inl (.inr ⟨o, (hide_off h1 h2).trans h⟩)
  · exact .inr h
theorem same_hide (e : Same H H') : Same (hide d l H) (hide d l H') := (But.of e).hide
def SqAny (K : PySem.W.Frag) (H : Hp) (a : Addr) (xs : List V) : Prop := SqT K H a xs ∨ SqL K H a xs
theorem SqAny.same {a : Addr} {xs : List V} (h : SqAny K H a xs) (e : Same H H') : SqAny K H' a xs := by
  rcases h with h | h
  · exact .inl (sqT_same e h)
  · exact .inr (sqL_same e h)
end
end MB
end
section
set_option maxRecDepth 100000
set_option maxHeartbeats 4000000
namespace MB
open PySem PySem.Spec PyProof.Rows L2 LamX
def noT (H : Hp) : Hp := fun b => match H b with
  | some (.tbl _) => none
  | o => o
section
variable {H H' : Hp}
theorem noT_sub : Same (noT H) H := fun b u e => by
  unfold noT at e
  split at e
  · cases e
  · exact e
theorem noT_some {b : Addr} {o : HO} (h : H b = some o) (n : ∀ ps, o ≠ .tbl ps) : noT H b = some o := by
  unfold noT
  split
  · rename_i ps e
    rw [h] at e
    exact absurd (Option.some.inj e) (n ps)
  · exact h
theorem noT_at {b : Addr} {o : HO} (h : noT H b = some o) : ∀ ps, o ≠ .tbl ps := fun ps z => by
  subst z
  have e := noT_sub _ _ h
  unfold noT at h
  rw [e] at h
  cases h
theorem extN_noT (e : ExtN H H') : Same (noT H) (noT H') := fun b o h => noT_some (e b o (noT_sub _ _ h) (noT_at h)) (noT_at h)
theorem same_extN (e : Same H H') : ExtN H H' := .of e
theorem same_noT (e : Same H H') : Same (noT H) (noT H') := extN_noT (.of e)
theorem noT_none {p : Addr} (h : H p = none) : noT H p = none := by
  unfold noT
  rw [h]
theorem sqT_noT {K : PySem.W.Frag} {a : Addr} {xs : List V} (h : SqT K H a xs) : SqT K (noT H) a xs := by
  rcases h with (h | ⟨o, h⟩) | h
  · exact .inl (.inl (noT_some h (by intro ps z; cases z)))
  · exact .inl (.inr ⟨o, noT_some h (by intro ps z; cases z)⟩)
  · exact .inr h
theorem sqL_noT {K : PySem.W.Frag} {a : Addr} {xs : List V} (h : SqL K H a xs) : SqL K (noT H) a xs := by
  rcases h with (h | ⟨o, h⟩) | h
  · exact .inl (.inl (noT_some h (by intro ps z; cases z)))
  · exact .inl (.inr ⟨o, noT_some h (by intro ps z; cases z)⟩)
  · exact .inr h
mutual
theorem Dq.noT {K : PySem.W.Frag} : ∀ (d : PyData) (v : V), Dq K H v d → Dq K (noT H) v d
  | .none, _, h => by cases h; exact .non
  | .bool b, _, h => by cases h; exact .bl b
  | .int i, _, h => by cases h; exact .int i
  | .str x, _, h => by cases h; exact .str x
  | .list ds, _, h => by
    cases h with
    | lst h1 h2 => exact .lst (sqL_noT h1) (DqAll.noT ds _ h2)
  | .tuple ds, _, h => by
    cases h with
    | tup h1 h2 => exact .tup (sqT_noT h1) (DqAll.noT ds _ h2)
  | .dict ds, _, h => by
    cases h with
    | dic h1 h2 => exact .dic (noT_some h1 (by intro ps z; cases z)) (DqKv.noT ds _ h2)
theorem DqAll.noT {K : PySem.W.Frag} : ∀ (ds : List PyData) (vs : List V), DqAll K H vs ds → DqAll K (noT H) vs ds
  | [], _, h => by cases h; exact .nil
  | d :: ds, _, h => by
    cases h with
    | cons h1 h2 => exact .cons (Dq.noT d _ h1) (DqAll.noT ds _ h2)
theorem DqKv.noT {K : PySem.W.Frag} : ∀ (ds : List (PyData × PyData)) (kvs : List (Key × V)), DqKv K H kvs ds → DqKv K (noT H) kvs ds
  | [], _, h => by cases h; exact .nil
  | (_, d) :: ds, _, h => by
    cases h with
    | cons h1 h2 => exact .cons (Dq.noT d _ h1) (DqKv.noT ds _ h2)
end
theorem Dq.extN {K : PySem.W.Frag} {d : PyData} {v : V} (e : ExtN H H') (h : Dq K H v d) : Dq K H' v d := Dq.same noT_sub _ _ (Dq.same (extN_noT e) _ _ (Dq.noT _ _ h))
theorem SqT.extN {K : PySem.W.Frag} {a : Addr} {xs : List V} (e : ExtN H H') (h : SqT K H a xs) : SqT K H' a xs := sqT_same noT_sub (sqT_same (extN_noT e) (sqT_noT h))
theorem SqL.extN {K : PySem.W.Frag} {a : Addr} {xs : List V} (e : ExtN H H') (h : SqL K H a xs) : SqL K H' a xs := sqL_same noT_sub (sqL_same (extN_noT e) (sqL_noT h))
end
structure FunL (K : PySem.W.Frag) (x qual : Str) (st : Stmt) (f : Addr) (fd : FuncData) (c : Addr) : Prop where
  ex : ∃ (oc : Value) (od : Option Addr) (kV doc pm : Value) (an : Option Addr) (ct : Value) (osl : Array (Option Value)),
    fd = PySem.W.fnOf x qual (defArgs st) (defBody st) (defScope st) .none kV doc pm an (.ref c) ct ∧ K.lookup f = some ⟨oc, od, .func fd, osl⟩ ∧ PySem.W.codeIn K (.ref c) qual = true
  kp : PySem.W.keepIn K (.ref f) = true
theorem FunL.bindsL {K : PySem.W.Frag} {x qual : Str} {st : Stmt} {f c : Addr} {fd : FuncData} {ps : List Str} (F : FunL K x qual st f fd c)
    (h : ∀ (kV doc pm : Value) (an : Option Addr) (cdv ct : Value) (us : List Value), us.length = ps.length → bindArgs (PySem.W.fnOf x qual (defArgs st) (defBody st) (defScope st) .none kV doc pm an cdv ct) ⟨us, []⟩ = pure (ps.zip us)) : L2.Binds K fd ps [] := by
  obtain ⟨oc, od, kV, doc, pm, an, ct, osl, rfl, lk, hcd⟩ := F.ex
  exact .all (h kV doc pm an (.ref c) ct)
theorem funL_mk {K : PySem.W.Frag} {x qual : Str} {st : Stmt} {f c : Addr} {oc : Value} {od an : Option Addr} {osl : Array (Option Value)} {kV doc pm ct : Value} (l : K.lookup f = some ⟨oc, od, .func (PySem.W.fnOf x qual (defArgs st) (defBody st) (defScope st) .none kV doc pm an (.ref c) ct), osl⟩)
    (cd : PySem.W.codeIn K (.ref c) qual = true) (k : PySem.W.keepIn K (.ref f) = true) : FunL K x qual st f (PySem.W.fnOf x qual (defArgs st) (defBody st) (defScope st) .none kV doc pm an (.ref c) ct) c := ⟨⟨oc, od, kV, doc, pm, an, ct, osl, rfl, l, cd⟩, k⟩
section
variable {P : Program} {w : World} {K : PySem.W.Frag} {mg : Str → Option Value} {base : Heap}
variable {k : Nat} {f : Addr} {fd : FuncData} {ps : List Str} {sp : Sp}
theorem fnGL {x qual : Str} {st : Stmt} {N : List Str} {c : Addr} (F : FunL K x qual st f fd c)
    (S : FnScope N ps (defScope st)) (many : ∀ xs H Q E, sp xs H Q E → xs.length = ps.length)
    (body : ∀ (A : Around) (outer : List Env) (s : Shared) (H : Hp) (xs : List V)
      (Q : VK) (E : XK),
      Room k (A.deeper (envOfC qual (defScope st) s.heap.objs.size f (.ref c))) → A.guards = some [] →
      sp xs H Q E → ∃ t, PSs (cxOf L2.CX0 P w K mg base N qual (defScope st) f (.ref c) A outer s H E).nox (defBody st) t ∧
        t { nx := fun _ H' => Q .non H', rt := Q } (L2.start N xs) H) :
    FnG P w K mg base (k + 1) f fd ps sp := by
  obtain ⟨oc, od, kV, doc, pm, an, ct, osl, efd, lk, hcd⟩ := F.ex
  refine ⟨many, fun A outer s H args us xs Q E hr hgu e0 hb r hsp => ?_⟩
  subst efd
  have hlen := many _ _ _ _ hsp
  have KX : K.In s.heap := e0.mod.kin.keeps fun b o e => (e0.bs b o e).1
  have lim : s.heap.NoLimit := e0.mod.nolimit.keeps fun b o e => (e0.bs b o e).1
  have kinds : ∀ y ∈ ps.zip us, (defScope st).names.lookup y.1 = some .local ∨
      ((defScope st).names.lookup y.1 = some .cell ∧
        ((cellsFrom (s.heap.objs.size + 1) (defScope st).names []).lookup y.1).isSome = true) := by
    rintro ⟨n, v⟩ hy
    rcases S.par n (List.of_mem_zip hy).1 with q | q
    · exact Or.inl q
    · exact Or.inr ⟨q, PySem.W.cellsFrom_some _ _ _ (Or.inl q)⟩
  refine codeAny_call_function hr.depth (KX _ _ lk) rfl S.co S.gen rfl
    (PySem.W.codeRec_of KX hcd) (hb _ _ _ _ ?_)
  refine wpAny_newFunctionEnv_cells S.kind kinds fun env he s1 x => ?_
  subst he
  refine ⟨lim.keeps x.toInCall.keep, codeAny_func ?_⟩
  obtain ⟨t, ht, hq⟩ := body A outer s H xs Q E (hr.deeper _) hgu hsp
  have I : Inv (cxOf L2.CX0 P w K mg base N qual (defScope st) f (.ref c) A outer s H E) [] (L2.start N xs) H s1 :=
    inv_start S hr.hd e0 hlen r x
  refine wpAny_mono (ht.nox.run [] s1 (L2.start N xs) H _ I hq) (fun fl s' hs => ?_) fun e s' hs => hs
  cases fl with
  | ret u =>
    obtain ⟨v, σ', H', J, rv, q⟩ := hs
    exact ⟨v, H', J.os, J.bare, J.base, J.hok, rv, q⟩
  | next =>
    obtain ⟨σ', H', J, q⟩ := hs
    exact ⟨V.non, H', J.os, J.bare, J.base, J.hok, rfl, q⟩
  | brk =>
    obtain ⟨_, _, _, q⟩ := hs
    exact False.elim q
  | cont =>
    obtain ⟨_, _, _, q⟩ := hs
    exact False.elim q
end
def tDeed (n : Nat) (f c' : Addr) (q : Str) (tl : XK → Hp → VK → Prop) (W : WX) : TE := fun σ H Q =>
  ∃ E : XK, (∀ cls d σ' H', E cls d H' → σ'.length = n → W cls d σ' H') ∧ σ[0]? = some (some (.ref f)) ∧ H c' = some (CodeO c' q) ∧ tl E H Q
theorem Takes.len {X : Cx} {W : WX} (tk : L2.Takes X W) : L2.Takes X (fun cls d σ H => σ.length = X.N.length → W cls d σ H) :=
  fun u s' ⟨a, B, sI, pins, σ, H, cls, d, e, I, nb, up, sky, na, os, ag, w⟩ => tk u s' ⟨a, B, sI, pins, σ, H, cls, d, e, I, nb, up, sky, na, os, ag, w I.len⟩
theorem pe_deed {Z : Cx} (n : Nat) {a q : Str} {f c' : Addr} {tl : XK → Hp → VK → Prop} {p1 p2 : Pos} {W : WX}
    (act : ∀ (W : WX) (E : XK) (p1 p2 : Pos), L2.Takes Z W → (∀ cls d σ' H', E cls d H' → W cls d σ' H') →
      PE Z (.Call (.Name a p1) [] [] p2) (fun σZ HZ Q => σZ[0]? = some (some (.ref f)) ∧ HZ c' = some (CodeO c' q) ∧ tl E HZ Q)) (tk : L2.Takes Z W) (hn : Z.N.length = n := by rfl) :
    PE Z (.Call (.Name a p1) [] [] p2) (tDeed n f c' q tl W) := by
  subst hn
  refine ⟨fun pins s σ H Q I h => ?_⟩
  obtain ⟨E, hW, h1, h2, h3⟩ := h
  refine (act (fun cls d σ H => σ.length = Z.N.length → W cls d σ H) E p1 p2 (Takes.len tk) (fun cls d σ' H' e l => hW cls d σ' H' e l)).run pins s σ H Q I ⟨h1, h2, h3⟩
section
variable {X : Cx}
theorem pe_tell {T : List (Addr × Str)} {TT : (XK → Hp → VK → Prop) → Hp → VK → Prop} {x a : Str} {g c P : Addr} {k : Nat} {st : Stmt} {fd : FuncData} {Ng : List Str}
    {params : Arguments} {body : Expr} {scope : Scope} {t : XK → TE} {p lpos pos : Pos} (F : Fun X.K x x st g fd) (hb : L2.Binds X.K fd [a] []) (hg : Gl X x) (hm : X.mg x = some (.ref g))
    (Sg : FnScope Ng [a] (defScope st)) (hNg : Ng[0]? = some a) (hva : Vis (defScope st) a)
    (hG : ∀ cdv, GivesTo X Ng x (defScope st) g cdv (defBody st) a (X.env.qual ++ "<lambda>") TT)
    (TB : TabB X.base X.mg c P) (hcode : X.env.code = .ref c) (hmT : (P, X.env.qual ++ "<lambda>") ∈ T) (hu : ∀ p ∈ T, p.1 = P → p.2 = X.env.qual ++ "<lambda>") (hr : Room (k + 2) X.A) (L : LamS X.env.scope scope) (hdef : defaultsOf params X.env = ([], []))
    (hbind : ∀ (q : Str) (cl : List (Str × Addr)) (pm cv ctv : Value), bindArgs (PySem.W.kla_fn "<lambda>" q params body scope cl pm cv ctv) ⟨[], []⟩ = pure [])
    (hbody : ∀ (A : Around) (outer : List Env) (s : Shared) (H : Hp) (E : XK) (f c' : Addr), Room k (A.deeper (lamEnv X scope s.heap.objs.size f c')) → PE (lamCx X A outer s H E scope f c') body (t E))
    (hdb : (x == ("__debug__" : Str)) = false := by decide) (hd : (a == ("__debug__" : Str)) = false := by decide) (hcd : (a == ("__classdict__" : Str)) = false := by decide) :
    PE X (.Call (.Name x p) [.Lambda params body scope lpos] [] pos) (tLam T TT t) := by
  obtain ⟨oc, od, kV, doc, pm, an, cdv, ct, osl, rfl, lk, hcg⟩ := F.ex
  exact pe_lamcall hg hm F.kp lk hcg hb Sg hNg hva (hG cdv) TB hcode hmT hu hr L hdef hbind hbody hdb hd hcd
end
end MB
end
section
set_option maxRecDepth 100000
namespace MB
open PySem PySem.Spec PyProof.Rows L2
def TD (K : PySem.W.Frag) (d l : Addr) (H0 : Hp) (σ : L2.St) (t : TE) (dd : PyData) : Prop :=
  ∀ H Q, Same H0 H → (∀ v H', Same H H' → Dq K (hide d l H') v dd → Q v H') → t σ H Q
def TDs (K : PySem.W.Frag) (d l : Addr) (H0 : Hp) (σ : L2.St) (t : TA) (ds : List PyData) : Prop :=
  ∀ H Q, Same H0 H → (∀ vs H', Same H H' → DqAll K (hide d l H') vs ds → Q vs H') → t σ H Q
def TL (K : PySem.W.Frag) (d l : Addr) (H0 : Hp) (σ : L2.St) (t : TE) (ds : List PyData) : Prop :=
  ∀ H Q, Same H0 H → (∀ a xs H', Same H H' → a ≠ d → a ≠ l → H' a = some (.lst xs) → DqAll K (hide d l H') xs ds → Q (.ref a) H') → t σ H Q
theorem DqAll.app {K : PySem.W.Frag} {H : Hp} : ∀ {xs ys : List V} {ds es : List PyData}, DqAll K H xs ds → DqAll K H ys es → DqAll K H (xs ++ ys) (ds ++ es)
  | _, _, _, _, .nil, h => h
  | _, _, _, _, .cons h1 h2, h => .cons h1 (h2.app h)
theorem DqAll.drop {K : PySem.W.Frag} {H : Hp} : ∀ {xs : List V} {ds : List PyData} (n : Nat), DqAll K H xs ds → DqAll K H (xs.drop n) (ds.drop n)
  | _, _, 0, h => h
  | _, _, _ + 1, .nil => .nil
  | _, _, n + 1, .cons _ h2 => h2.drop n
theorem DqAll.take {K : PySem.W.Frag} {H : Hp} : ∀ {xs : List V} {ds : List PyData} (n : Nat), DqAll K H xs ds → DqAll K H (xs.take n) (ds.take n)
  | _, _, 0, _ => .nil
  | _, _, _ + 1, .nil => .nil
  | _, _, n + 1, .cons h1 h2 => .cons h1 (h2.take n)
theorem DqAll.rev {K : PySem.W.Frag} {H : Hp} : ∀ {xs : List V} {ds : List PyData}, DqAll K H xs ds → DqAll K H xs.reverse ds.reverse
  | _, _, .nil => .nil
  | _, _, .cons h1 h2 => by
    rw [List.reverse_cons, List.reverse_cons]
    exact h2.rev.app (.cons h1 .nil)
theorem DqAll.rep {K : PySem.W.Frag} {H : Hp} {xs : List V} {ds : List PyData} (h : DqAll K H xs ds) : ∀ n : Nat, DqAll K H (List.replicate n xs).flatten (List.replicate n ds).flatten
  | 0 => .nil
  | n + 1 => by
    rw [List.replicate_succ, List.replicate_succ, List.flatten_cons, List.flatten_cons]
    exact h.app (h.rep n)
theorem DqAll.mem {K : PySem.W.Frag} {H : Hp} : ∀ {xs : List V} {ds : List PyData} {x : V}, DqAll K H xs ds → x ∈ xs → ∃ dd ∈ ds, Dq K H x dd
  | _, _, _, .nil, hx => by cases hx
  | _, _, _, .cons h1 h2, hx => by
    rcases List.mem_cons.mp hx with rfl | hx
    · exact ⟨_, List.mem_cons_self, h1⟩
    · obtain ⟨dd, m, q⟩ := h2.mem hx
      exact ⟨dd, List.mem_cons_of_mem _ m, q⟩
theorem DqAll.at {K : PySem.W.Frag} {H : Hp} : ∀ {xs : List V} {ds : List PyData} {i : Nat} {dd : PyData}, DqAll K H xs ds → ds[i]? = some dd → ∃ x, xs[i]? = some x ∧ Dq K H x dd
  | _, _, _, _, .nil, e => by simp at e
  | _, _, 0, _, .cons h1 _, e => by
    obtain rfl := Option.some.inj e
    exact ⟨_, rfl, h1⟩
  | _, _, i + 1, _, .cons _ h2, e => h2.at (i := i) e
theorem same_upd' {H : Hp} {p : Addr} {o : HO} (h : H p = none) : Same H (upd H p o) := fun b u e => by
  rw [upd_ne (ne_of_none e h)]
  exact e
def cutD (ds : List PyData) (lo hi : Option Int) : List PyData := (ds.drop (HT.sIx ds.length 0 lo)).take (HT.sIx ds.length ds.length hi - HT.sIx ds.length 0 lo)
theorem DqAll.cut {K : PySem.W.Frag} {H : Hp} {xs : List V} {ds : List PyData} (h : DqAll K H xs ds) (lo hi : Option Int) : DqAll K H (cutV xs lo hi) (cutD ds lo hi) := by
  unfold cutV cutD
  rw [h.length]
  exact (h.drop _).take _
section
variable {K : PySem.W.Frag} {d l : Addr} {H0 : Hp} {σ : L2.St} {kL : Str}
theorem tds_nil : TDs K d l H0 σ tNil [] := fun H Q _ q => q [] H (Same.refl _) .nil
theorem tds_cons {t : TE} {ts : TA} {dd : PyData} {ds : List PyData} (h : TD K d l H0 σ t dd) (hs : TDs K d l H0 σ ts ds) : TDs K d l H0 σ (tCons t ts) (dd :: ds) :=
  fun H Q s q => h H _ s fun v H1 s1 hv => hs H1 _ (s.trans s1) fun vs H2 s2 hvs => q (v :: vs) H2 (s1.trans s2) (.cons (Dq.same (same_hide s2) _ _ hv) hvs)
theorem td_pure {t : TE} {v : V} {dd : PyData} (h : ∀ H Q, Q v H → t σ H Q) (hd : ∀ H, Dq K H v dd) : TD K d l H0 σ t dd :=
  fun H Q _ q => h H Q (q v H (Same.refl _) (hd _))
theorem td_none : TD K d l H0 σ (tC .non) .none := td_pure (fun _ _ q => q) fun _ => .non
theorem td_bool {b : Bool} : TD K d l H0 σ (tC (.bl b)) (.bool b) := td_pure (fun _ _ q => q) fun _ => .bl b
theorem td_int {i : Int} : TD K d l H0 σ (tC (.int i)) (.int i) := td_pure (fun _ _ q => q) fun _ => .int i
theorem td_str {x : Str} : TD K d l H0 σ (tC (.str x)) (.str x) := td_pure (fun _ _ q => q) fun _ => .str x
theorem td_pow {i j : Int} (h : CPow i j) : TD K d l H0 σ (tOp (rI CPow fun i j => .int (i ^ j.toNat)) (tC (.int i)) (tC (.int j))) (.int (i ^ j.toNat)) :=
  td_pure (fun _ _ q => ⟨i, j, rfl, rfl, h, q⟩) fun _ => .int _
theorem td_npow {i j : Int} (h : CPow i j) : TD K d l H0 σ (tUn (rU fun i => .int (-i)) (tOp (rI CPow fun i j => .int (i ^ j.toNat)) (tC (.int i)) (tC (.int j)))) (.int (-(i ^ j.toNat))) :=
  td_pure (fun _ _ q => ⟨i, j, rfl, rfl, h, _, rfl, q⟩) fun _ => .int _
theorem td_neg {i : Int} : TD K d l H0 σ (tUn (rU fun i => .int (-i)) (tC (.int i))) (.int (-i)) := td_pure (fun _ _ q => ⟨_, rfl, q⟩) fun _ => .int _
theorem td_var {i : Nat} {v : V} {dd : PyData} (e : σ[i]? = some (some v)) (h : Dq K (hide d l H0) v dd) : TD K d l H0 σ (tVar i) dd :=
  fun H Q s q => ⟨v, e, q v H (Same.refl _) (Dq.same (same_hide s) _ _ h)⟩
variable (D : Deck kL H0 d l)
include D
theorem td_tup {ts : TA} {ds : List PyData} (h : TDs K d l H0 σ ts ds) (hl : ds.length ≤ 100000 := by decide) : TD K d l H0 σ (tTup ts) (.tuple ds) :=
  fun H Q s q => h H _ s fun vs H1 s1 hv => ⟨by rw [hv.length]; exact Nat.le_trans hl (by rw [sizeLine_eq]; decide), fun p hp => by
    have D1 := D.same (s.trans s1)
    exact q _ _ (s1.trans (same_upd' hp)) (.tup (SqT.of (D1.at_new hp)) (DqAll.same (D1.same_new hp) _ _ hv))⟩
theorem td_lst {ts : TA} {ds : List PyData} (h : TDs K d l H0 σ ts ds) (hl : ds.length ≤ 100000 := by decide) : TD K d l H0 σ (tLst ts) (.list ds) :=
  fun H Q s q => h H _ s fun vs H1 s1 hv => ⟨by rw [hv.length]; exact Nat.le_trans hl (by rw [sizeLine_eq]; decide), fun p hp => by
    have D1 := D.same (s.trans s1)
    exact q _ _ (s1.trans (same_upd' hp)) (.lst (SqL.of (D1.at_new hp)) (DqAll.same (D1.same_new hp) _ _ hv))⟩
theorem td_dict0 : TD K d l H0 σ tDNewK (.dict []) := fun H Q s q p hp => by
  have D1 := D.same s
  exact q _ _ (same_upd' hp) (.dic (D1.at_new hp) .nil)
theorem tl_lst {ts : TA} {ds : List PyData} (h : TDs K d l H0 σ ts ds) (hl : ds.length ≤ 100000 := by decide) : TL K d l H0 σ (tLst ts) ds :=
  fun H Q s q => h H _ s fun vs H1 s1 hv => ⟨by rw [hv.length]; exact Nat.le_trans hl (by rw [sizeLine_eq]; decide), fun p hp => by
    have D1 := D.same (s.trans s1)
    exact q _ vs _ (s1.trans (same_upd' hp)) (D1.off hp).1 (D1.off hp).2 upd_same (DqAll.same (D1.same_new hp) _ _ hv)⟩
end
end MB
namespace MB
open PySem PySem.Spec PyProof.Rows L2
section
variable {K : PySem.W.Frag} {d l : Addr} {H0 : Hp} {σ : L2.St} {kL : Str}
theorem tl_var {i : Nat} {a : Addr} {xs : List V} {ds : List PyData} (e : σ[i]? = some (some (.ref a))) (h1 : a ≠ d) (h2 : a ≠ l) (hx : H0 a = some (.lst xs)) (h : DqAll K (hide d l H0) xs ds) : TL K d l H0 σ (tVar i) ds :=
  fun H Q s q => ⟨_, e, q a xs H (Same.refl _) h1 h2 (s _ _ hx) (DqAll.same (same_hide s) _ _ h)⟩
variable (D : Deck kL H0 d l)
include D
theorem tl_cat {ta tb : TE} {ds es : List PyData} (ha : TL K d l H0 σ ta ds) (hb : TL K d l H0 σ tb es) (hl : ds.length + es.length ≤ 100000 := by decide) : TL K d l H0 σ (tOp rCat ta tb) (ds ++ es) :=
  fun H Q s q => ha H _ s fun a xs H1 s1 a1 a2 hx hxs => hb H1 _ (s.trans s1) fun b ys H2 s2 b1 b2 hy hys => by
    refine ⟨a, b, xs, ys, rfl, rfl, s2 _ _ hx, hy, by rw [hxs.length, hys.length]; exact Nat.le_trans hl (by rw [sizeLine_eq]; decide), fun p hp => ?_⟩
    have D2 := D.same ((s.trans s1).trans s2)
    refine q p _ _ ((s1.trans s2).trans (same_upd' hp)) (D2.off hp).1 (D2.off hp).2 upd_same (DqAll.same (D2.same_new hp) _ _ ?_)
    exact DqAll.app (DqAll.same (same_hide s2) _ _ hxs) hys
theorem tl_rep {ta : TE} {ds : List PyData} {k : Int} (ha : TL K d l H0 σ ta ds) (h0 : 0 ≤ k := by decide) (hk : k ≤ 1000 := by decide) (hl : ds.length * k.toNat ≤ 100000 := by decide) :
    TL K d l H0 σ (tOp rRep ta (tC (.int k))) (List.replicate k.toNat ds).flatten :=
  fun H Q s q => ha H _ s fun a xs H1 s1 a1 a2 hx hxs => by
    refine ⟨a, k, xs, rfl, rfl, hx, by omega, by omega, by rw [hxs.length]; exact Nat.le_trans hl (by rw [sizeLine_eq]; decide), fun p hp => ?_⟩
    have D1 := D.same (s.trans s1)
    exact q p _ _ (s1.trans (same_upd' hp)) (D1.off hp).1 (D1.off hp).2 upd_same (DqAll.same (D1.same_new hp) _ _ (hxs.rep _))
theorem td_dict1 {k : Str} {i j : Int} : TD K d l H0 σ (tDisp [(tC (.str k), tTup (tCons (tC (.int i)) (tCons (tC (.int j)) tNil)))]) (.dict [(.str k, .tuple [.int i, .int j])]) := fun H Q s q p hp => by
  refine ⟨by rw [sizeLine_eq]; exact (by decide : 2 ≤ 16777216), fun t ht => ?_⟩
  have D1 := D.same s
  have h1 : (upd H p (.dK [])) p = some (.dK []) := upd_same
  have htp : t ≠ p := (ne_of_none h1 ht).symm
  have htH : H t = none := by
    rw [upd_ne htp] at ht
    exact ht
  refine ⟨(upd_ne htp.symm).trans h1, [(.inr k, .ref t)], rfl, (by decide : 1 ≤ 15), ?_⟩
  have e0 : Same H (upd (upd (upd H p (.dK [])) t (.tup [.int i, .int j])) p (.dK (mergeK [] [(.inr k, .ref t)]))) := fun b u z => by
    rw [upd_ne (ne_of_none z hp), upd_ne (ne_of_none z htH), upd_ne (ne_of_none z hp)]
    exact z
  refine q _ _ e0 (.dic (kvs := [(.inr k, .ref t)]) ?_ (.cons (k := .inr k) (.tup (xs := [.int i, .int j]) (SqT.of ?_) (.cons (.int i) (.cons (.int j) .nil))) .nil))
  · rw [hide_off (D1.off hp).1 (D1.off hp).2, upd_same]
    rfl
  · rw [hide_off (D1.off htH).1 (D1.off htH).2, upd_ne htp, upd_same]
theorem td_listOf {t : TE} {ds : List PyData} (h : TD K d l H0 σ t (.tuple ds)) :
    TD K d l H0 σ (tCB (fun xs H Q => ∃ p ys, xs = [V.ref p] ∧ (SqL K H p ys ∨ SqT K H p ys) ∧ ∀ l : Addr, H l = none → Q (V.ref l) (upd H l (.lst ys))) (tCons t tNil)) (.list ds) :=
  fun H Q s q => h H _ s fun v H1 s1 hv => by
    cases hv with
    | @tup a xs _ h1 h2 =>
      refine ⟨a, xs, rfl, .inr (sqT_same hide_sub h1), fun p hp => ?_⟩
      have D1 := D.same (s.trans s1)
      exact q _ _ (s1.trans (same_upd' hp)) (.lst (SqL.of (D1.at_new hp)) (DqAll.same (D1.same_new hp) _ _ h2))
theorem td_catT {ta tb : TE} {ds es : List PyData} (ha : TD K d l H0 σ ta (.tuple ds)) (hb : TD K d l H0 σ tb (.tuple es)) (hl : ds.length + es.length ≤ 100000) :
    TD K d l H0 σ (tOp (rCatA K) ta tb) (.tuple (ds ++ es)) :=
  fun H Q s q => ha H _ s fun v H1 s1 hv => hb H1 _ (s.trans s1) fun u H2 s2 hu => by
    cases hv with
    | @tup a xs _ h1 h2 =>
      cases hu with
      | @tup b ys _ h3 h4 =>
        have h1' := sqT_same (same_hide s2) h1
        have h2' := DqAll.same (same_hide s2) _ _ h2
        refine ⟨a, b, xs, ys, rfl, rfl, sqT_same hide_sub h1', sqT_same hide_sub h3, by rw [h2.length, h4.length]; exact Nat.le_trans hl (by rw [sizeLine_eq]; decide), ?_, ?_, ?_⟩
        · intro z
          subst z
          cases h2
          exact q _ _ (s1.trans s2) (.tup h3 h4)
        · intro _ z
          subst z
          cases h4
          exact q _ _ (s1.trans s2) (.tup h1' (by rw [List.append_nil]; exact h2'))
        · intro _ _ p hp
          have D2 := D.same ((s.trans s1).trans s2)
          exact q _ _ ((s1.trans s2).trans (same_upd' hp)) (.tup (SqT.of (D2.at_new hp)) (DqAll.same (D2.same_new hp) _ _ (h2'.app h4)))
theorem td_slice {t : TE} {ds : List PyData} {tl th : TO} {lo hi : Option Int} (h : TD K d l H0 σ t (.tuple ds)) (hlo : ∀ H Q, Q lo H → tl σ H Q) (hhi : ∀ H Q, Q hi H → th σ H Q) :
    TD K d l H0 σ (L2.tSl (rSlA K) t tl th) (.tuple (cutD ds lo hi)) :=
  fun H Q s q => h H _ s fun v H1 s1 hv => hlo H1 _ (hhi H1 _ (by
    cases hv with
    | @tup a xs _ h1 h2 =>
      refine ⟨a, xs, rfl, sqT_same hide_sub h1, fun hw => ?_, fun hw p hp => ?_⟩
      · have e : cutV xs lo hi = xs := by
          unfold cutV
          rw [hw.1, hw.2, List.drop_zero, Nat.sub_zero, List.take_length]
        have z := h2.cut lo hi
        rw [e] at z
        exact q _ _ s1 (.tup h1 z)
      · have D1 := D.same (s.trans s1)
        exact q _ _ (s1.trans (same_upd' hp)) (.tup (SqT.of (D1.at_new hp)) (DqAll.same (D1.same_new hp) _ _ (h2.cut lo hi)))))
theorem td_revT {t : TE} {ds : List PyData} (h : TD K d l H0 σ t (.tuple ds)) : TD K d l H0 σ (tRevT K t) (.tuple ds.reverse) :=
  fun H Q s q => h H _ s fun v H1 s1 hv => by
    cases hv with
    | @tup a xs _ h1 h2 =>
      refine ⟨a, xs, rfl, sqT_same hide_sub h1, fun p hp => ?_⟩
      have D1 := D.same (s.trans s1)
      exact q _ _ (s1.trans (same_upd' hp)) (.tup (SqT.of (D1.at_new hp)) (DqAll.same (D1.same_new hp) _ _ h2.rev))
end
theorem asg_tl {K : PySem.W.Frag} {d l : Addr} {H0 : Hp} {σ : L2.St} {te : TE} {ds : List PyData} {i : Nat} {D : Ends} {H : Hp} (h : TL K d l H0 σ te ds) (s : Same H0 H)
    (k : ∀ a xs H', Same H H' → a ≠ d → a ≠ l → H' a = some (.lst xs) → DqAll K (hide d l H') xs ds → D.nx (σ.set i (some (.ref a))) H') : tAsg te (gName i) D σ H :=
  h H _ s fun a xs H' s1 h1 h2 hx hq => k a xs H' s1 h1 h2 hx hq
theorem seq_tl {K : PySem.W.Frag} {d l : Addr} {H0 : Hp} {σ : L2.St} {te : TE} {ds : List PyData} {i : Nat} {rest : TS} {D : Ends} {H : Hp} (h : TL K d l H0 σ te ds) (s : Same H0 H)
    (k : ∀ a xs H', Same H H' → a ≠ d → a ≠ l → H' a = some (.lst xs) → DqAll K (hide d l H') xs ds → rest D (σ.set i (some (.ref a))) H') : tSeq (tAsg te (gName i)) rest D σ H :=
  h H _ s fun a xs H' s1 h1 h2 hx hq => k a xs H' s1 h1 h2 hx hq
theorem to_no {σ : L2.St} : ∀ H (Q : Option Int → Hp → Prop), Q none H → tNoPart σ H Q := fun _ _ q => q
theorem to_int {σ : L2.St} {i : Int} : ∀ H (Q : Option Int → Hp → Prop), Q (some i) H → tPart (tC (.int i)) σ H Q := fun _ _ q => ⟨i, rfl, q⟩
theorem to_neg {σ : L2.St} {i : Int} : ∀ H (Q : Option Int → Hp → Prop), Q (some (-i)) H → tPart (tUn (rU fun i => .int (-i)) (tC (.int i))) σ H Q := fun _ _ q => ⟨i, rfl, _, rfl, q⟩
end MB
end
section
set_option maxRecDepth 100000
namespace MB
open PySem PySem.Spec PyProof.Rows L2
structure Sz (b k : Nat) (dd : PyData) : Prop where
  sh : dd.showable = true
  lv : dd.leavesShort 60 = true
  bu : dd.bulk ≤ b
  de : dd.depth ≤ k
theorem Sz.told {b k : Nat} {dd : PyData} (h : Sz b k dd) (hb : b ≤ 200000 := by decide) (hk : k ≤ 40 := by decide) : Told dd := ⟨h.sh, h.lv, Nat.le_trans h.bu hb, Nat.le_trans h.de hk⟩
theorem Sz.mono {b k b' k' : Nat} {dd : PyData} (h : Sz b k dd) (hb : b ≤ b' := by decide) (hk : k ≤ k' := by decide) : Sz b' k' dd := ⟨h.sh, h.lv, Nat.le_trans h.bu hb, Nat.le_trans h.de hk⟩
structure SzAll (b k : Nat) (ds : List PyData) : Prop where
  sh : PyData.showableAll ds = true
  lv : PyData.leavesShortAll 60 ds = true
  bu : PyData.bulkAll ds ≤ b
  de : PyData.depthAll ds ≤ k
theorem szAll_nil {b k : Nat} : SzAll b k [] := ⟨rfl, rfl, Nat.zero_le _, Nat.zero_le _⟩
theorem szAll_cons {b b' k : Nat} {dd : PyData} {ds : List PyData} (h : Sz b k dd) (hs : SzAll b' k ds) : SzAll (b + 1 + b') k (dd :: ds) where
  sh := by
    simp only [PyData.showableAll, Bool.and_eq_true]
    exact ⟨h.sh, hs.sh⟩
  lv := by
    simp only [PyData.leavesShortAll, Bool.and_eq_true]
    exact ⟨h.lv, hs.lv⟩
  bu := by
    simp only [PyData.bulkAll]
    have := h.bu
    have := hs.bu
    omega
  de := by
    simp only [PyData.depthAll]
    exact Nat.max_le.mpr ⟨h.de, hs.de⟩
theorem sz_tup {b k : Nat} {ds : List PyData} (h : SzAll b k ds) : Sz b (k + 1) (.tuple ds) where
  sh := by simpa only [PyData.showable] using h.sh
  lv := by simpa only [PyData.leavesShort] using h.lv
  bu := by simpa only [PyData.bulk] using h.bu
  de := by
    simp only [PyData.depth]
    exact Nat.succ_le_succ h.de
theorem sz_lst {b k : Nat} {ds : List PyData} (h : SzAll b k ds) : Sz b (k + 1) (.list ds) where
  sh := by simpa only [PyData.showable] using h.sh
  lv := by simpa only [PyData.leavesShort] using h.lv
  bu := by simpa only [PyData.bulk] using h.bu
  de := by
    simp only [PyData.depth]
    exact Nat.succ_le_succ h.de
theorem sz_none {b k : Nat} : Sz b k .none := ⟨rfl, rfl, Nat.zero_le _, Nat.zero_le _⟩
theorem sz_bool {b k : Nat} {x : Bool} : Sz b k (.bool x) := ⟨rfl, rfl, Nat.zero_le _, Nat.zero_le _⟩
theorem sz_int {b k : Nat} {i : Int} (h : i.natAbs < 10 ^ 42) : Sz b k (.int i) where
  sh := by
    simp only [PyData.showable, decide_eq_true_eq]
    rcases Nat.eq_zero_or_pos i.natAbs with z | z
    · rw [z]
      decide
    · have h2 : i.natAbs < 2 ^ 140 := Nat.lt_trans h (by decide)
      have := (Nat.log2_lt (by omega)).mpr h2
      omega
  lv := by
    simp only [PyData.leavesShort, decide_eq_true_eq]
    have e := int_text_length_le10 (k := 42) (by decide) h
    show (Str.ofString (toString i)).length ≤ 60
    rw [PySem.ofString_length]
    omega
  bu := Nat.zero_le _
  de := Nat.zero_le _
theorem szAll_ints {k : Nat} : ∀ (ns : List Int), (∀ c ∈ ns, c.natAbs < 10 ^ 42) → SzAll ns.length k (ns.map PyData.int)
  | [], _ => szAll_nil
  | c :: r, h => by
    have z := szAll_cons (b := 0) (k := k) (sz_int (h c List.mem_cons_self)) (szAll_ints (k := k) r fun x hx => h x (List.mem_cons_of_mem _ hx))
    rw [List.map_cons, List.length_cons]
    have e : 0 + 1 + r.length = r.length + 1 := by omega
    rw [e] at z
    exact z
theorem SzAll.mono {b k b' k' : Nat} {ds : List PyData} (h : SzAll b k ds) (hb : b ≤ b') (hk : k ≤ k') : SzAll b' k' ds := ⟨h.sh, h.lv, Nat.le_trans h.bu hb, Nat.le_trans h.de hk⟩
theorem showableAll_app : ∀ ds es : List PyData, PyData.showableAll (ds ++ es) = (PyData.showableAll ds && PyData.showableAll es)
  | [], es => by simp only [List.nil_append, PyData.showableAll, Bool.true_and]
  | d :: r, es => by simp only [List.cons_append, PyData.showableAll, showableAll_app r es, Bool.and_assoc]
theorem leavesAll_app (B : Nat) : ∀ ds es : List PyData, PyData.leavesShortAll B (ds ++ es) = (PyData.leavesShortAll B ds && PyData.leavesShortAll B es)
  | [], es => by simp only [List.nil_append, PyData.leavesShortAll, Bool.true_and]
  | d :: r, es => by simp only [List.cons_append, PyData.leavesShortAll, leavesAll_app B r es, Bool.and_assoc]
theorem bulkAll_app : ∀ ds es : List PyData, PyData.bulkAll (ds ++ es) = PyData.bulkAll ds + PyData.bulkAll es
  | [], es => by simp only [List.nil_append, PyData.bulkAll, Nat.zero_add]
  | d :: r, es => by
    simp only [List.cons_append, PyData.bulkAll, bulkAll_app r es]
    omega
theorem depthAll_app : ∀ ds es : List PyData, PyData.depthAll (ds ++ es) = max (PyData.depthAll ds) (PyData.depthAll es)
  | [], es => by simp only [List.nil_append, PyData.depthAll, Nat.zero_max]
  | d :: r, es => by simp only [List.cons_append, PyData.depthAll, depthAll_app r es, Nat.max_assoc]
theorem szAll_app {b b' k : Nat} {ds es : List PyData} (h : SzAll b k ds) (g : SzAll b' k es) : SzAll (b + b') k (ds ++ es) where
  sh := by rw [showableAll_app, h.sh, g.sh]; rfl
  lv := by rw [leavesAll_app, h.lv, g.lv]; rfl
  bu := by
    rw [bulkAll_app]
    exact Nat.add_le_add h.bu g.bu
  de := by
    rw [depthAll_app]
    exact Nat.max_le.mpr ⟨h.de, g.de⟩
theorem cps_small (s : String) : (Str.ofString s).cps.toList.all (fun c => decide (c < 16 ^ 8)) = true := by
  rw [Str.ofString_eq_toList]
  show ((s.toList.map Char.toNat).toArray.toList).all _ = true
  rw [List.all_eq_true]
  intro c hc
  obtain ⟨ch, _, rfl⟩ := List.mem_map.mp (show c ∈ s.toList.map Char.toNat from hc)
  have h1 : ch.toNat < 0x110000 := by
    have := ch.valid
    have h2 : ch.val.toNat < 0x110000 := by
      rcases this with h | ⟨_, h⟩ <;> omega
    exact h2
  have e : (16 : Nat) ^ 8 = 4294967296 := by decide
  exact decide_eq_true (by omega)
theorem sz_text {b k : Nat} {s : String} (h : s.length ≤ b) : Sz b k (.str (Str.ofString s)) where
  sh := rfl
  lv := by
    simp only [PyData.leavesShort]
    exact cps_small s
  bu := by
    simp only [PyData.bulk]
    show (Str.ofString s).length ≤ b
    rw [PySem.ofString_length]
    exact h
  de := Nat.zero_le _
end MB
end
section
set_option maxRecDepth 100000
namespace MB
open PySem PySem.Spec PyProof.Rows L2 LamX
def newer (H H' : Hp) : Hp := fun b => match H b with
  | some _ => none
  | none => H' b
section
variable {H H0 H1 H' H2 : Hp} {d l p : Addr} {kL : Str} {K : PySem.W.Frag}
theorem newer_at {b : Addr} (h : H b = none) : newer H H' b = H' b := by
  unfold newer
  rw [h]
theorem newer_some {b : Addr} {o : HO} (h : newer H H' b = some o) : H b = none ∧ H' b = some o := by
  unfold newer at h
  split at h
  · cases h
  · rename_i e
    exact ⟨e, h⟩
theorem newer_sub : Same (newer H H') H' := fun b u e => (newer_some e).2
theorem newer_mono (f : ∀ p, H1 p = none → H0 p = none) : Same (newer H1 H') (newer H0 H') := fun b u e => by
  obtain ⟨e1, e2⟩ := newer_some e
  rw [newer_at (f b e1)]
  exact e2
theorem newer_step (k : ∀ b o, H b = none → H' b = some o → H2 b = some o) : Same (newer H H') (newer H H2) := fun b u e => by
  obtain ⟨e1, e2⟩ := newer_some e
  rw [newer_at e1]
  exact k b u e1 e2
theorem Deck.there (D : Deck kL H d l) : H d ≠ none ∧ H l ≠ none := by
  obtain ⟨m, n, cs, h1, h2, _⟩ := D.ex
  rw [h1, h2]
  exact ⟨(by intro z; cases z), (by intro z; cases z)⟩
theorem newer_but (D : Deck kL H d l) (e : But d l H' H2) : Same (newer H H') (newer H H2) := newer_step fun b o h1 h2 => e b o h2 (fun z => D.there.1 (z ▸ h1)) (fun z => D.there.2 (z ▸ h1))
theorem Deck.extN (D : Deck kL H d l) (e : ExtN H H') : Deck kL H' d l := by
  obtain ⟨m, n, cs, h1, h2, h3⟩ := D.ex
  exact ⟨m, n, cs, e _ _ h1 (by intro ps z; cases z), e _ _ h2 (by intro ps z; cases z), h3⟩
theorem codeO_form {c : Addr} {q : Str} : (∀ kvs, CodeO c q ≠ .dK kvs) ∧ ∀ xs, CodeO c q ≠ .lst xs := by
  unfold CodeO
  exact ⟨fun _ z => (by cases z), fun _ z => (by cases z)⟩
theorem tabs_but {T : List (Addr × Str)} (D : Deck kL H d l) (e : But d l H H') (t : Tabs T H) : Tabs T H' := fun p hp => by
  obtain ⟨m, n, cs, h1, h2, _⟩ := D.ex
  obtain ⟨ps, a1, a2, a3⟩ := t p hp
  refine ⟨ps, e _ _ a1 (ne_of a1 h1 (by intro z; cases z)) (ne_of a1 h2 (by intro z; cases z)), a2, fun pos cv hc => ?_⟩
  obtain ⟨c, e1, e2⟩ := a3 pos cv hc
  exact ⟨c, e1, e _ _ e2 (ne_of e2 h1 (codeO_form.1 _)) (ne_of e2 h2 (codeO_form.2 _))⟩
theorem tabs_same {T : List (Addr × Str)} (e : Same H H') (t : Tabs T H) : Tabs T H' := t.ext e
end
theorem mono_told {d : PyData} {b k : Nat} (h : Sz b k d) (hb : b ≤ 200000) (hk : k ≤ 40) : Told d := h.told hb hk
theorem sz_dict2 {b k : Nat} {s : String} {i j : Int} {x : PyData} (h : Sz b k x) (hs : s.length ≤ 20) (hi : i.natAbs < 10 ^ 42) (hj : j.natAbs < 10 ^ 42) : Sz (b + 30) (k + 1) (.dict [(.str (Str.ofString s), x), (.int i, .int j)]) where
  sh := by
    have a := (sz_int (b := 0) (k := 0) hi).sh
    have c := (sz_int (b := 0) (k := 0) hj).sh
    simp only [PyData.showable, PyData.showableKv, Bool.and_true, Bool.true_and] at a c ⊢
    rw [h.sh, a, c]
    rfl
  lv := by
    have a := (sz_int (b := 0) (k := 0) hi).lv
    have c := (sz_int (b := 0) (k := 0) hj).lv
    have t := (sz_text (k := 0) hs).lv
    simp only [PyData.leavesShort, PyData.leavesShortKv, Bool.and_true] at a c t ⊢
    rw [h.lv, a, c, t]
    rfl
  bu := by
    have t := (sz_text (k := 0) hs).bu
    have := h.bu
    simp only [PyData.bulk, PyData.bulkKv] at t ⊢
    omega
  de := by
    have := h.de
    simp only [PyData.depth, PyData.depthKv]
    omega
end MB
end
section
set_option maxRecDepth 100000
namespace MB
open PySem PySem.Spec PyProof.Rows L2
def rEqNil (K : PySem.W.Frag) : R2 := fun x y H Q => ∃ a b xs, x = .ref a ∧ y = .ref b ∧ SqL K H a xs ∧ SqL K H b [] ∧ Q (.bl xs.isEmpty) H
theorem op_eqNil {X : Cx} (hu : X.A.units + 64 < cLine) : OpR X (compareOp .Eq) (rEqNil X.K) := by
  intro pins s σ H x y v u Q I rx ry h
  obtain ⟨a, b, xs, rfl, rfl, ha, hb, q⟩ := h
  cases rx
  cases ry
  obtain ⟨its, rv, ⟨o, n, ho, hc, hn, hd⟩, _⟩ := I.list ha
  obtain ⟨its2, rv2, ⟨o2, n2, ho2, hc2, hn2, hd2⟩, _⟩ := I.list hb
  cases rv2
  have la : s.heap.IsList a its.toArray := by first | exact ⟨o, ho, hc, n, hd⟩ | exact ⟨o, ho, hc, hd⟩
  have lb : s.heap.IsList b ([] : List Value).toArray := by first | exact ⟨o2, ho2, hc2, n2, hd2⟩ | exact ⟨o2, ho2, hc2, hd2⟩
  show wpAny (model X.prog X.w) X.A (richCompare .Eq (.ref a) (.ref b)) (EP X pins σ Q) X.xe s
  have hu1 : X.A.units < cLine := by omega
  cases xs with
  | nil =>
    cases rv
    exact SeqAt.RcAt.lists (e := fun _ => true) la lb rfl hu1 (fun j h1 _ => absurd h1 (by simp)) X.prog X.w X.xe _ ⟨.bl _, H, I, rfl, q⟩
  | cons z r =>
    have l1 : (its.toArray.size != ([] : List Value).toArray.size) = true := by
      cases rv
      simp
    exact SeqAt.RcAt.lists_lengths la lb l1 hu1 X.prog X.w X.xe _ ⟨.bl _, H, I, rfl, q⟩
end MB
end
section
set_option maxRecDepth 100000
namespace MB
open PySem PySem.Spec PyProof.Rows L2
def rNeNil (K : PySem.W.Frag) : R2 := fun x y H Q => ∃ a b xs, x = .ref a ∧ y = .ref b ∧ SqL K H a xs ∧ SqL K H b [] ∧ Q (.bl (!xs.isEmpty)) H
theorem op_neNil {X : Cx} (hu : X.A.units + 64 < cLine) : OpR X (compareOp .NotEq) (rNeNil X.K) := by
  intro pins s σ H x y v u Q I rx ry h
  obtain ⟨a, b, xs, rfl, rfl, ha, hb, q⟩ := h
  cases rx
  cases ry
  obtain ⟨its, rv, ⟨o, n, ho, hc, hn, hd⟩, _⟩ := I.list ha
  obtain ⟨its2, rv2, ⟨o2, n2, ho2, hc2, hn2, hd2⟩, _⟩ := I.list hb
  cases rv2
  have la : s.heap.IsList a its.toArray := by first | exact ⟨o, ho, hc, n, hd⟩ | exact ⟨o, ho, hc, hd⟩
  have lb : s.heap.IsList b ([] : List Value).toArray := by first | exact ⟨o2, ho2, hc2, n2, hd2⟩ | exact ⟨o2, ho2, hc2, hd2⟩
  show wpAny (model X.prog X.w) X.A (richCompare .NotEq (.ref a) (.ref b)) (EP X pins σ Q) X.xe s
  have hu1 : X.A.units < cLine := by omega
  cases xs with
  | nil =>
    cases rv
    exact SeqAt.RcNeAt.lists (e := fun _ => true) la lb rfl hu1 (fun j h1 _ => absurd h1 (by simp)) X.prog X.w X.xe _ ⟨.bl _, H, I, rfl, q⟩
  | cons z r =>
    have l1 : (its.toArray.size != ([] : List Value).toArray.size) = true := by
      cases rv
      simp
    exact SeqAt.RcNeAt.lists_lengths la lb l1 hu1 X.prog X.w X.xe _ ⟨.bl _, H, I, rfl, q⟩
end MB
end
section
set_option maxRecDepth 100000
set_option maxHeartbeats 4000000
namespace MB
open PySem PySem.Spec PyProof.Rows L2
section
abbrev set0 (w : World) : Obj := { cls := .type "set", dict := none, data := .set #[] 0 (.fresh 0 0 (!w.params.followText "set-order")) }
abbrev setH (w : World) (h : Heap) : Heap := h.push (set0 w)
variable {P : Program} {w : World} {A : Around} {E : Value → Shared → Prop} {s : Shared}
def Filled (w : World) (s : Shared) (ns : List Int) (r : Value) (s2 : Shared) : Prop := r = .none ∧ ∃ (h' : Heap) (tk c : Nat), s2 = { s with heap := h', toks := tk } ∧ SetR w h' s.heap.objs.size (fun j => decide (j ∈ ns)) c ∧ c ≤ ns.length ∧ ∀ b o, s.heap.get? b = some o → h'.get? b = some o
set_option maxHeartbeats 3200000 in
theorem call_setL {l : Addr} {items : Array Value} (ns : List Int) {Q : Value → Shared → Prop} (hh : A.handled = none) (hl : s.heap.IsList l items) (hit : IntsAre items.toList ns) (hb : ns.length + 1 < scanBound)
    (h : ∀ (h' : Heap) (tk c : Nat), SetR w h' s.heap.objs.size (fun j => decide (j ∈ ns)) c → c ≤ ns.length → (∀ b o, s.heap.get? b = some o → h'.get? b = some o) → Q (.ref s.heap.objs.size) { s with heap := h', toks := tk }) :
    wpAny (model P w) A (call (.type "set") [.ref l]) Q E s := by
  have isz : items.size = ns.length := by rw [← Array.length_toList]; exact IntsAre.length hit
  obtain ⟨c, tl, hmro⟩ := F.called_set.mro
  have g1 := F.called_set.made; have g2 := F.called_set.sub; have g3 := F.called_set.notType; have g4 := F.called_set.canCreate; have g5 := F.typeCall_set_1 (.ref l)
  refine wpAny_call (codeAny_of_tree (?_)); show wpAny _ _ (callAny (.type "set") _) _ _ _
  refine wpAny_pure ⟨Code.quiet_builtin _ (by decide +kernel), codeAny_builtin F.entry_type_call (?_)⟩; rw [Around.under_plain (weight_type_call_type "set" [.ref l] []) rfl]
  repeat (any_goals (first | assumption | wp_step))
  refine codeAny_mono (code_set_led1 (.ref l) (E := E) (Q₁ := fun obj s₁ => obj = .ref s.heap.objs.size ∧ s₁ = { s with heap := setH w s.heap }) ⟨rfl, rfl⟩) (fun r s₁ hr => ?_)
  cases r with
  | error e => exact hr
  | ok fl =>
    cases fl with
    | ret obj =>
      obtain ⟨rfl, rfl⟩ := hr
      have hS : (setH w s.heap).get? s.heap.objs.size = some (set0 w) := Heap.get?_push_size _ rfl
      have hT : Shared.TypeIs { s with heap := setH w s.heap } (.ref s.heap.objs.size) "set" := ⟨_, hS, rfl⟩
      have g6 := F.called_set.init.lookup; have g7 := F.called_set.init.bind (.ref s.heap.objs.size)
      repeat (any_goals (first | assumption | wp_step))
      refine codeAny_mono (codeAny_call_builtin (R := wants (Filled w s ns) E) F.called_set.init.plain F.entry_set_init (check_set_init_1 hT (?_))) (fun r₂ s₂ hr₂ => ?_)
      · obtain ⟨⟨ocls, odict, odata, oslots⟩, hol, hcl, nl, hdl⟩ := hl
        simp only at hcl hdl
        subst hcl
        subst hdl
        have hol' : (setH w s.heap).get? l = some { cls := .type "list", dict := odict, data := .seq items nl, slots := oslots } := Heap.get?_push_of_some _ hol
        have k1 := F.sub_list_set
        have k2 := F.sub_list_frozenset
        have k3 : (Value.type "list" == Value.type "dict") = false := by decide
        have hl1 : (setH w s.heap).IsList l items := ⟨_, hol', rfl, nl, rfl⟩
        unfold Builtin.«set.__init__» noKeywords Builtin.Frozenset.updateFrom
        generalize hPI : pyIter = PI
        wp_walk
        subst hPI
        refine wpAny_pyIter_list hl1 (?_); refine wpAny_bind (wpAny_runValue (?_))
        have hlS : l < s.heap.objs.size := Heap.lt_size hol
        have hh3 : A.in1.in1.in1.handled = none := by rw [← hh] <;> rfl
        have zS : (setH w s.heap).objs.size = s.heap.objs.size + 1 := Heap.size_push ..
        have hneI : l ≠ (setH w s.heap).objs.size := zS ▸ Nat.ne_of_lt (Nat.lt_succ_of_lt hlS)
        have hSf : s.heap.objs.size ∉ [(setH w s.heap).objs.size, l] := by
          simp only [List.mem_cons, List.not_mem_nil, or_false, not_or, zS]
          exact ⟨fun z => absurd z (Nat.ne_of_lt (Nat.lt_succ_self _)), fun z => absurd z (Nat.ne_of_gt hlS)⟩
        have hval : ∀ (i : Nat) (v : Value), items[i]? = some v → ∃ k t, ns[i]? = some k ∧ v = .int k t := fun i v hv => by
          obtain ⟨hi, _⟩ := Array.getElem?_eq_some_iff.mp hv
          rw [isz] at hi
          obtain ⟨t, e⟩ := IntsAre.int_at hit i v (by rw [Array.getElem?_toList]; exact hv)
          rw [List.getD_eq_getElem?_getD, List.getElem?_eq_getElem hi] at e
          exact ⟨ns[i], t, List.getElem?_eq_getElem hi, e⟩
        refine set_update_ints ((Walks.list hh3 _ l hneI items).toS) s.heap.objs.size hSf ns isz hb hval (items.size - 0) 0 _ (by omega) (Nat.zero_le _) ⟨⟨_, Heap.get?_push_size _ rfl, rfl, rfl⟩, hl1.push _⟩ ⟨0, Nat.le_refl 0, setR_new_at (Heap.get?_push_of_some _ hS)⟩ ?_
        intro s' c' hm hc' hS'
        obtain ⟨h', g', d', tk', os'⟩ := s'
        obtain rfl : g' = s.gens := hm.gens
        obtain rfl : d' = s.drawn := hm.drawn
        obtain rfl : os' = s.os := hm.os
        refine wpAny_pure (?_); show wpAny _ _ (ret Value.none) _ _ _
        rw [isz] at hc'
        refine wpAny_pure ⟨rfl, h', tk', c', rfl, hS', hc', fun b o e => ?_⟩
        have hb0 : b < s.heap.objs.size := Heap.lt_size e
        exact hm.heap b o (by simp only [List.mem_cons, List.not_mem_nil, or_false, not_or, zS]; exact ⟨Nat.ne_of_lt hb0, Nat.ne_of_lt (Nat.lt_succ_of_lt hb0)⟩) (Heap.get?_push_of_some _ (Heap.get?_push_of_some _ e))
      · cases r₂ with
        | error e => exact hr₂
        | ok fl₂ =>
          cases fl₂ with
          | ret r =>
            obtain ⟨rfl, h', tk, c', rfl, hS', hc', hk'⟩ := hr₂
            repeat (any_goals (first | assumption | wp_step))
            exact h _ _ _ hS' hc' hk'
          | _ => exact hr₂.elim
    | _ => exact hr.elim
end
section
variable {X : Cx}
def rSetL (K : PySem.W.Frag) (w : World) : List V → Hp → VK → Prop := fun vs H Q => ∃ (a : Addr) (ns : List Int), vs = [V.ref a] ∧ SqL K H a (ns.map V.int) ∧ ns.length ≤ 1000 ∧
  ∀ (p : Addr) (n : Nat), H p = none → n ≤ ns.length → Q (.ref p) (upd H p (SetO w p (fun j => decide (j ∈ ns)) n))
theorem cr_setL (hc : X.calm = true) : CallR X (.type "set") (rSetL X.K X.w) := by
  intro pins s σ H vs us Q I r h
  obtain ⟨a, ns, rfl, hs, hl, q⟩ := h
  obtain ⟨its, rv, pl, hz⟩ := I.list hs
  rw [Vals.ref1 r]
  have hi := rv.ints
  refine call_setL ns (I.ok.hd hc) pl.isList (by simpa using hi) (by unfold scanBound; omega) fun h' tk c R hc' k => ?_
  have hn : H s.heap.objs.size = none := I.hok.fresh (Nat.le_refl _)
  exact ⟨.ref s.heap.objs.size, upd H s.heap.objs.size (SetO X.w s.heap.objs.size (fun j => decide (j ∈ ns)) c), I.laid (t' := tk) k (Nat.le_refl _) (setO_new R), rfl, q _ c hn hc'⟩
end
theorem asc_one : ∀ {as bs : List Int}, as.Pairwise (· < ·) → bs.Pairwise (· < ·) → (∀ k, k ∈ as ↔ k ∈ bs) → as = bs
  | [], [], _, _, _ => rfl
  | [], b :: bs, _, _, h => absurd ((h b).mpr List.mem_cons_self) (List.not_mem_nil)
  | a :: as, [], _, _, h => absurd ((h a).mp List.mem_cons_self) (List.not_mem_nil)
  | a :: as, b :: bs, ha, hb, h => by
    obtain ⟨a1, a2⟩ := List.pairwise_cons.mp ha
    obtain ⟨b1, b2⟩ := List.pairwise_cons.mp hb
    have e : a = b := by
      rcases List.mem_cons.mp ((h a).mp List.mem_cons_self) with e | e
      · exact e
      · rcases List.mem_cons.mp ((h b).mpr List.mem_cons_self) with f | f
        · exact f.symm
        · have := b1 a e
          have := a1 b f
          omega
    subst e
    rw [asc_one a2 b2 fun k => ⟨fun hk => ?_, fun hk => ?_⟩]
    · rcases List.mem_cons.mp ((h k).mp (List.mem_cons_of_mem _ hk)) with f | f
      · have := a1 k hk
        omega
      · exact f
    · rcases List.mem_cons.mp ((h k).mpr (List.mem_cons_of_mem _ hk)) with f | f
      · have := b1 k hk
        omega
      · exact f
end MB
end
section
set_option maxRecDepth 100000
namespace MB
open PySem PySem.Spec PyProof.Rows L2
def rNeNilT (K : PySem.W.Frag) : R2 := fun x y H Q => ∃ a b xs, x = .ref a ∧ y = .ref b ∧ SqT K H a xs ∧ SqT K H b [] ∧ Q (.bl (!xs.isEmpty)) H
theorem op_neNilT {X : Cx} (hu : X.A.units + 64 < cLine) : OpR X (compareOp .NotEq) (rNeNilT X.K) := by
  intro pins s σ H x y v u Q I rx ry h
  obtain ⟨a, b, xs, rfl, rfl, ha, hb, q⟩ := h
  cases rx
  cases ry
  obtain ⟨its, rv, p1, _⟩ := I.tuple ha
  obtain ⟨its2, rv2, p2, _⟩ := I.tuple hb
  cases rv2
  have la : s.heap.IsTuple a its.toArray := by first | exact p1.isTuple | exact p1
  have lb : s.heap.IsTuple b ([] : List Value).toArray := by first | exact p2.isTuple | exact p2
  show wpAny (model X.prog X.w) X.A (richCompare .NotEq (.ref a) (.ref b)) (EP X pins σ Q) X.xe s
  have hu1 : X.A.units < cLine := by omega
  refine SeqAt.RcNeAt.tuples (e := fun _ => true) la lb hu1 (fun j h1 h2 => absurd h2 (by simp)) X.prog X.w X.xe _ ?_
  have e : (!((List.range (min its.toArray.size ([] : List Value).toArray.size)).all (fun _ => true) && its.toArray.size == ([] : List Value).toArray.size)) = !xs.isEmpty := by
    cases xs with
    | nil => cases rv; rfl
    | cons z r => cases rv; simp
  rw [e]
  exact ⟨.bl _, H, I, rfl, q⟩
end MB
end
section
set_option maxRecDepth 100000
set_option maxHeartbeats 4000000
namespace MB
open PySem PySem.Spec PyProof.Rows L2
def rIsD (K : PySem.W.Frag) (D : Addr) (cls : Value) (d : Option Addr) (a : Addr) : List V → Hp → VK → Prop := fun xs H Q => ∃ (c : V) (cv : Value) (b : Bool) (dd : Addr) (fs : List (Str × V)), xs = [.ref a, c] ∧ (∀ u, RelV c u → u = cv) ∧ cls = .ref D ∧ d = some dd ∧ H dd = some (.xd fs) ∧ PySem.W.kitOne K (.ref D) cv = some b ∧ Q (.bl b) H
theorem call_isD {X : Cx} {a D : Addr} {cls : Value} {d : Option Addr} {oe : Obj} {pn : List (Addr × Obj)} (C : ExcC X.K D) (hz : Zc cls d oe) (hf : ∃ vs, oe.data = .fields vs) : CallR (X.suite a ((a, oe) :: pn)) (.builtin "isinstance") (rIsD X.K D cls d a) := by
  intro pins s σ H xs us Q I r h
  obtain ⟨c, cv, b, dd, fs, rfl, hcv, ec, ed, hx, e, q⟩ := h
  cases r with
  | cons rx rr =>
    cases rr with
    | cons rt rr =>
      cases rr
      cases rx
      have ec2 := hcv _ rt
      subst ec2
      subst ec
      subst ed
      obtain ⟨hget, _⟩ := I.pin (a, oe) (List.mem_append.mpr (.inl List.mem_cons_self))
      obtain ⟨vs, hv⟩ := hf
      have hx' : ObjOk X.prog X.w H s.heap dd (.xd fs) := I.hok dd _ hx
      obtain ⟨mA, hns, hr⟩ := hx'
      obtain ⟨od, ho, hl⟩ := lookIn_ns hns
      have J : PySem.W.InstAt s.heap a oe D (some od) := ⟨hget, hz.1, by unfold PySem.W.notCls; rw [hv] <;> rfl, by rw [hz.2]; exact ho⟩
      have hcl : (PySem.W.clsIn X.K D).isSome = true := by
        have h := C.hd
        unfold PySem.W.hasDictIn at h
        cases hc : PySem.W.clsIn X.K D with
        | none => rw [hc] at h; cases h
        | some _ => rfl
      exact PySem.W.kia_one (PySem.W.kitx_exc hcl C.hg C.hk C.hs C.ha C.hn C.ht C.hm) I.kIn J e (fun z => nomatch z) fun tk => ⟨.bl b, H, I.kept (t' := tk) fun _ _ z => z, rfl, q⟩
theorem Un.past {fs fs' : List Addr} {H H1 H2 : Hp} {h h1 h2 : Heap} (a : L2.Un fs [] H H1 h h1) (b : L2.Un fs' [] H1 H2 h1 h2) (hs : ∀ c ∈ fs', c ∈ fs ∨ h.objs.size ≤ c) : L2.Un fs [] H H2 h h2 where
  keep := fun c ob q n hc hx => b.keep c ob (a.keep c ob q n hc hx) (a.free c ob q n hx) (fun z => (hs c z).elim hc fun z2 => absurd (Heap.lt_size q) (Nat.not_lt_of_le z2)) hx
  slot := fun c ob q n hc hx => by
    obtain ⟨sl, e1⟩ := a.slot c ob q n hc hx
    obtain ⟨sl', e2⟩ := b.any e1 (a.free c ob q n hx) hx
    exact ⟨sl', e2⟩
  free := fun c ob q n hx => by
    obtain ⟨o', e1⟩ := a.there c ob q hx
    exact b.free c o' e1 (a.free c ob q n hx) hx
  there := fun c ob q hx => by
    obtain ⟨o', e1⟩ := a.there c ob q hx
    exact b.there c o' e1 hx
  tups := fun c xs q => b.tups c xs (a.tups c xs q)
  frzs := fun c ob xs q => b.frzs c ob xs (a.frzs c ob xs q)
  tbls := fun c ps q => by
    obtain ⟨m1, e1⟩ := a.tbls c ps q
    obtain ⟨m2, e2⟩ := b.tbls c _ e1
    exact ⟨m1 ++ m2, by rw [e2, Array.append_assoc]⟩
open LamX hiding takes0
section
variable {X : Cx} {pins : List (Addr × Obj)} {σ : L2.St} {H HZ : Hp} {s s1 : Shared}
theorem pe_act2 {CXg : CXT} {Eg : XK} {Ng : List Str} {qg : Str} {sg : Scope} {g f c' : Addr} {cdg pm ctv : Value} {params : Arguments} {body : Expr} {scope : Scope} {k i : Nat} {a : Str} {pn : List (Addr × Obj)} {xe : Value → Shared → Prop} {W : WX} {E : XK} {tb : TE} {p1 p2 : Pos}
    {A2 : Around} {st2 : List Env} {s2 : Shared} {H2 : Hp} (un2 : L2.Un (frs X.stack) [] H H2 s.heap s2.heap) (hst : ∀ c ∈ frs st2, c ∈ frs X.stack ∨ s.heap.objs.size ≤ c)
    (I : Inv X pins σ H s) (L : LamS X.env.scope scope) (hf : s.heap.get? f = some (PySem.W.kla_obj "<lambda>" (X.env.qual ++ "<lambda>") params body scope (cloFrom X.env.cells scope.names []) pm c' ctv)) (hfn : H f = none) (hfr : f ∉ frs X.stack)
    (hbind : bindArgs (PySem.W.kla_fn "<lambda>" (X.env.qual ++ "<lambda>") params body scope (cloFrom X.env.cells scope.names []) pm (.ref c') ctv) ⟨[], []⟩ = pure [])
    (tk : Takes ((cxOf CXg X.prog X.w X.K X.mg X.base Ng qg sg g cdg A2 st2 s2 H2 Eg).tr pn xe) W) (hW : ∀ cls d σ' H', E cls d H' → W cls d σ' H') (hr : Room (k + 1) (A2.deeper (envOfC qg sg s2.heap.objs.size g cdg)))
    (hbody : ∀ (A : Around) (outer : List Env) (s : Shared) (H : Hp), Room k (A.deeper (lamEnv X scope s.heap.objs.size f c')) → PE (lamCx X A outer s H E scope f c') body tb)
    (hN : Ng[i]? = some a) (hv : Vis sg a) (hd : (a == ("__debug__" : Str)) = false := by decide) (hcd : (a == ("__classdict__" : Str)) = false := by decide) :
    PE ((cxOf CXg X.prog X.w X.K X.mg X.base Ng qg sg g cdg A2 st2 s2 H2 Eg).tr pn xe) (.Call (.Name a p1) [] [] p2)
      (fun σZ HZ Q => σZ[i]? = some (some (.ref f)) ∧ HZ c' = some (CodeO c' (X.env.qual ++ "<lambda>")) ∧ tb σ HZ Q) := by
  refine ⟨fun pinsZ sZ σZ HZ Q IZ h => ?_⟩
  obtain ⟨hs, hc, ht⟩ := h
  refine wpAny_Call_Name_kw (thn ((pe_var (pos := p1) (i := i) hN hv hd hcd).run pinsZ sZ σZ HZ (fun v H1 => v = .ref f ∧ H1 = HZ) IZ ⟨.ref f, hs, rfl, rfl⟩) fun u s1 ⟨v, H1, I1, r1, q1⟩ => ?_)
  obtain ⟨ev, eH⟩ := q1
  subst ev
  rw [eH] at I1
  obtain rfl : u = Value.ref f := r1
  have unZ : L2.Un (frs st2) [] H2 HZ s2.heap s1.heap := I1.base
  have un : L2.Un (frs X.stack) [] H HZ s.heap s1.heap := Un.past un2 unZ hst
  have of1 : s1.heap.get? f = some (PySem.W.kla_obj "<lambda>" (X.env.qual ++ "<lambda>") params body scope (cloFrom X.env.cells scope.names []) pm c' ctv) := un.keep f _ hf hfn hfr (fun z => nomatch (show f ∈ ([] : List Addr) from z))
  refine PySem.W.callWith_F0 ⟨_, _, _, _, of1⟩ ?_
  obtain ⟨⟨oc, vs, t, hoc, hdc, hvc⟩, _, _⟩ := I1.hok c' _ hc
  have rc : codeAny (model X.prog X.w) (A2.deeper (envOfC qg sg s2.heap.objs.size g cdg)) (.call (.ref f) ⟨[], []⟩) (CR (L2.CX X.prog X.w) (envOfC qg sg s2.heap.objs.size g cdg :: st2) X.prog X.w HZ s1 Q E) s1 := by
    refine PySem.W.kla_callFunE hr.depth of1 rfl L.co L.gen rfl ⟨c', oc, vs, t, rfl, hoc, hdc, hvc⟩ ?_
    rw [hbind]
    refine wpAny_pure (wpAny_newFunctionEnv (fun y hy => (L.own y hy).2) (fun y hy => absurd hy (by simp)) (fun h₁ hns hsb => ⟨I1.nolimit.fresh _ hsb, ?_⟩) L.kind)
    show codeAny _ _ (.expr body (lamEnv X scope s1.heap.objs.size f c')) _ _
    have kp : ∀ b o, s1.heap.get? b = some o → h₁.get? b = some o := fun b o e => hsb.extBut b o (Nat.ne_of_lt (Heap.lt_size e)) (Heap.get?_push_of_some _ e)
    have J : Inv (lamCx X (A2.deeper (envOfC qg sg s2.heap.objs.size g cdg)) (envOfC qg sg s2.heap.objs.size g cdg :: st2) s1 HZ E scope f c') [] σ HZ { s1 with heap := h₁, toks := s1.toks + ([] : List (Str × Value)).length } :=
      lam_start2 I L I1.env0 hr.hd un hns kp
    refine PySem.W.kla_codeExpr (wpAny_mono ((hbody _ _ s1 HZ (hr.deeper _)).run [] _ _ HZ Q J ht) (fun v s' hq => ?_) fun e s' hq => hq)
    obtain ⟨w', H', J', rv, q⟩ := hq
    exact ⟨w', H', J'.os, J'.bare, J'.base, J'.hok, rv, q⟩
  have hx : Passes (L2.CX X.prog X.w) ((cxOf CXg X.prog X.w X.K X.mg X.base Ng qg sg g cdg A2 st2 s2 H2 Eg).tr pn xe) E := passes_call tk hW
  refine wpAny_call (codeAny_mono rc fun r s' hq => ?_)
  cases r with
  | error e => exact hx pinsZ σZ HZ s1 e s' I1 hq
  | ok fl =>
    cases fl with
    | ret u => exact I1.after hq
    | next => exact False.elim hq
    | brk => exact False.elim hq
    | cont => exact False.elim hq
end
def GivesTo3 (X : Cx) (Ng : List Str) (x : Str) (sg : Scope) (g : Addr) (cdg : Value) (bg : List Stmt) (b a : Str) (q : Str) (TT : (XK → Hp → VK → Prop) → Hp → VK → Prop) (T3 : V → V → (Hp → VK → Prop) → Hp → VK → Prop) : Prop :=
  ∀ (f c' : Addr) (s : Shared) (H : Hp) (Q : VK) (v1 v2 : V) (tl : XK → Hp → VK → Prop), Room 1 (cxOf C8.CX0 X.prog X.w X.K X.mg X.base Ng x sg g cdg X.A X.stack s H C8.E0).A →
    (∀ (p1 p2 p3 : Pos), PE (cxOf C8.CX0 X.prog X.w X.K X.mg X.base Ng x sg g cdg X.A X.stack s H C8.E0).nox (.Call (.Name b p1) [.Name a p2] [] p3) (fun σZ HZ Q => σZ[2]? = some (some (.ref f)) ∧ HZ c' = some (CodeO c' q) ∧ TT tl HZ Q)) →
    H c' = some (CodeO c' q) → T3 v1 v2 (TT tl) H Q →
    ∃ t, PSs (cxOf C8.CX0 X.prog X.w X.K X.mg X.base Ng x sg g cdg X.A X.stack s H C8.E0).nox bg t ∧ t { nx := fun _ H' => Q .non H', rt := Q } (L2.start Ng [v1, v2, .ref f]) H
def tLam3 (T : List (Addr × Str)) (TT : (XK → Hp → VK → Prop) → Hp → VK → Prop) (T3 : V → V → (Hp → VK → Prop) → Hp → VK → Prop) (te1 te2 : TE) (t : XK → TE) : TE := fun σ H Q =>
  te1 σ H fun v1 H1 => te2 σ H1 fun v2 H2 => Tabs T H2 ∧ ∀ H3, ExtN H2 H3 → Tabs T H3 → T3 v1 v2 (TT fun E H' Q' => t E σ H' Q') H3 Q
section
variable {X : Cx}
theorem pe_tell3 {T : List (Addr × Str)} {TT : (XK → Hp → VK → Prop) → Hp → VK → Prop} {T3 : V → V → (Hp → VK → Prop) → Hp → VK → Prop} {x a a1 a2 b ab : Str} {g h c P : Addr} {k : Nat} {st sth : Stmt} {fd fdh : FuncData} {Ng Nh : List Str}
    {e1 e2 : Expr} {te1 te2 : TE} {params : Arguments} {body : Expr} {scope : Scope} {t : XK → TE} {p lpos pos : Pos} (F : Fun X.K x x st g fd) (hb : L2.Binds X.K fd [a1, a2, a] []) (hg : Gl X x) (hm : X.mg x = some (.ref g))
    (Sg : FnScope Ng [a1, a2, a] (defScope st)) (hNg : Ng[2]? = some a) (hva : Vis (defScope st) a)
    (Fh : Fun X.K b b sth h fdh) (hbh : L2.Binds X.K fdh [ab] []) (hgh : (defScope st).names.lookup b = some .globalImplicit) (hmh : X.mg b = some (.ref h)) (Sh : FnScope Nh [ab] (defScope sth)) (hNh : Nh[0]? = some ab) (hvh : Vis (defScope sth) ab)
    (hGh : ∀ (cdg cdh : Value) (s : Shared) (H : Hp), GivesTo (cxOf C8.CX0 X.prog X.w X.K X.mg X.base Ng x (defScope st) g cdg X.A X.stack s H C8.E0).nox Nh b (defScope sth) h cdh (defBody sth) ab (X.env.qual ++ "<lambda>") TT)
    (hG : ∀ cdg, GivesTo3 X Ng x (defScope st) g cdg (defBody st) b a (X.env.qual ++ "<lambda>") TT T3)
    (he1 : PE X e1 te1) (he2 : PE X e2 te2)
    (TB : TabB X.base X.mg c P) (hcode : X.env.code = .ref c) (hmT : (P, X.env.qual ++ "<lambda>") ∈ T) (hu : ∀ p ∈ T, p.1 = P → p.2 = X.env.qual ++ "<lambda>") (hr : Room (k + 4) X.A) (L : LamS X.env.scope scope) (hdef : defaultsOf params X.env = ([], []))
    (hbind : ∀ (q : Str) (cl : List (Str × Addr)) (pm cv ctv : Value), bindArgs (PySem.W.kla_fn "<lambda>" q params body scope cl pm cv ctv) ⟨[], []⟩ = pure [])
    (hbody : ∀ (A : Around) (outer : List Env) (s : Shared) (H : Hp) (E : XK) (f c' : Addr), Room k (A.deeper (lamEnv X scope s.heap.objs.size f c')) → PE (lamCx X A outer s H E scope f c') body (t E))
    (hs : starEach [e1, e2, .Lambda params body scope lpos] X.env = [(false, eval e1 X.env), (false, eval e2 X.env), (false, eval (.Lambda params body scope lpos) X.env)] := by rfl) (hs2 : starEach [e2, .Lambda params body scope lpos] X.env = [(false, eval e2 X.env), (false, eval (.Lambda params body scope lpos) X.env)] := by rfl)
    (hdb : (x == ("__debug__" : Str)) = false := by decide) (hdbb : (b == ("__debug__" : Str)) = false := by decide) (hd : (a == ("__debug__" : Str)) = false := by decide) (hcd : (a == ("__classdict__" : Str)) = false := by decide) (hd' : (ab == ("__debug__" : Str)) = false := by decide) (hcd' : (ab == ("__classdict__" : Str)) = false := by decide) :
    PE X (.Call (.Name x p) [e1, e2, .Lambda params body scope lpos] [] pos) (tLam3 T TT T3 te1 te2 t) := by
  obtain ⟨oc, od, kV, doc, pm, an, cdg, ct, osl, rfl, lk, hcg⟩ := F.ex
  obtain ⟨och, odh, kVh, doch, pmh, anh, cdh, cth, oslh, rfl, lkh, hch⟩ := Fh.ex
  refine ⟨fun pins s σ H Q I hq => ?_⟩
  refine wpAny_Call_Name_kw (ld_glob I hg hm ?_ hdb)
  refine PySem.W.callWith_K (h₀ := X.base) I.ok.mod.kin F.kp ?_ (by rw [hs, hs2]) (by rw [hs2]; rfl)
  rw [hs]
  show wpAny _ _ (spliced [(false, eval e1 X.env), (false, eval e2 X.env), (false, eval (.Lambda params body scope lpos) X.env)]) _ _ s
  refine Calls.spliced_cons (thn (he1.run pins s σ H _ I hq) fun u1 s1 ⟨v1, H1, I1, r1, q1⟩ => ?_)
  refine Calls.spliced_cons (thn (he2.run pins s1 σ H1 _ I1 q1) fun u2 s2 ⟨v2, H2, I2, r2, ⟨hT, q2⟩⟩ => ?_)
  refine Calls.spliced_cons (lam_make2 I2 TB hcode hmT hu hT hdef (L.has I2.ok) fun f c' pm' ctv H3 s3 I3 eN T3' hf hfn hfr hco => ?_)
  refine Calls.spliced_nil ⟨I3.kIn, ?_⟩
  have rc : codeAny (model X.prog X.w) X.A (.call (.ref g) ⟨[u1, u2, .ref f], []⟩) (CR C8.CX0 X.stack X.prog X.w H3 s3 Q C8.E0) s3 := by
    refine run_ofS (N := Ng) (ps := [a1, a2, a]) (us := [u1, u2, .ref f]) (vs := [v1, v2, .ref f]) lk hcg Sg (hr.mono (by omega) : Room (k + 3 + 1) X.A) I3.env0 (hb s3 [u1, u2, .ref f] I3.kIn rfl) (.cons r1 (.cons r2 (.cons rfl .nil))) rfl fun hr' => ?_
    have pass : ∀ (p1 p2 p3 : Pos), PE (cxOf C8.CX0 X.prog X.w X.K X.mg X.base Ng x (defScope st) g cdg X.A X.stack s3 H3 C8.E0).nox (.Call (.Name b p1) [.Name a p2] [] p3)
        (fun σZ HZ Q => σZ[2]? = some (some (.ref f)) ∧ HZ c' = some (CodeO c' (X.env.qual ++ "<lambda>")) ∧ TT (fun E H' Q' => t E σ H' Q') HZ Q) := by
      intro p1 p2 p3
      refine ⟨fun pinsZ sZ σZ HZ QZ IZ hz => ?_⟩
      obtain ⟨hs0, hc, ht⟩ := hz
      have glb : Gl (cxOf C8.CX0 X.prog X.w X.K X.mg X.base Ng x (defScope st) g cdg X.A X.stack s3 H3 C8.E0).nox b := hgh
      refine wpAny_Call_Name_kw (ld_glob IZ glb hmh ?_ hdbb)
      refine PySem.W.callWith_K (h₀ := X.base) IZ.ok.mod.kin Fh.kp ?_ (by rfl) (by rfl)
      show wpAny _ _ (spliced [(false, eval (.Name a p2) _)]) _ _ sZ
      refine Calls.spliced_cons (thn ((pe_var (pos := p2) (i := 2) hNg hva hd hcd).run pinsZ sZ σZ HZ (fun v H1 => v = .ref f ∧ H1 = HZ) IZ ⟨.ref f, hs0, rfl, rfl⟩) fun u s4 ⟨v, H4, I4, r4, q4⟩ => ?_)
      obtain ⟨ev, eH⟩ := q4
      subst ev
      rw [eH] at I4
      obtain rfl : u = Value.ref f := r4
      refine Calls.spliced_nil ⟨I4.kIn, ?_⟩
      have un2 : L2.Un (frs X.stack) [] H3 HZ s3.heap s4.heap := I4.base
      have hst : ∀ c ∈ frs (envOfC x (defScope st) s3.heap.objs.size g cdg :: X.stack), c ∈ frs X.stack ∨ s3.heap.objs.size ≤ c := fun c hc => by
        unfold frs at hc
        rw [List.filterMap_cons] at hc
        split at hc
        · exact .inl hc
        · rename_i L0 hL0
          rcases List.mem_cons.mp hc with rfl | hc
          · have e : (envOfC x (defScope st) s3.heap.objs.size g cdg).frame = some s3.heap.objs.size := rfl
            rw [e] at hL0
            cases hL0
            exact .inr (Nat.le_refl _)
          · exact .inl hc
      have rch : codeAny (model X.prog X.w) (X.A.deeper (envOfC x (defScope st) s3.heap.objs.size g cdg)) (.call (.ref h) ⟨[.ref f], []⟩) (CR C8.CX0 (envOfC x (defScope st) s3.heap.objs.size g cdg :: X.stack) X.prog X.w HZ s4 QZ C8.E0) s4 := by
        refine run_ofS (N := Nh) (ps := [ab]) (us := [.ref f]) (vs := [.ref f]) lkh hch Sh (hr'.mono (by omega) : Room (k + 2 + 1) _) I4.env0 (hbh s4 [.ref f] I4.kIn rfl) (.cons rfl .nil) rfl fun hr2 => ?_
        have act : ∀ (W : WX) (pn : List (Addr × Obj)) (xe : Value → Shared → Prop) (E : XK) (p1 p2 : Pos), Takes ((cxOf C8.CX0 X.prog X.w X.K X.mg X.base Nh b (defScope sth) h cdh (X.A.deeper (envOfC x (defScope st) s3.heap.objs.size g cdg)) (envOfC x (defScope st) s3.heap.objs.size g cdg :: X.stack) s4 HZ C8.E0).tr pn xe) W → (∀ cls d σ' H', E cls d H' → W cls d σ' H') →
            PE ((cxOf C8.CX0 X.prog X.w X.K X.mg X.base Nh b (defScope sth) h cdh (X.A.deeper (envOfC x (defScope st) s3.heap.objs.size g cdg)) (envOfC x (defScope st) s3.heap.objs.size g cdg :: X.stack) s4 HZ C8.E0).tr pn xe) (.Call (.Name ab p1) [] [] p2) (fun σZ HZ Q => σZ[0]? = some (some (.ref f)) ∧ HZ c' = some (CodeO c' (X.env.qual ++ "<lambda>")) ∧ t E σ HZ Q) := fun W pn xe E p1 p2 tk hW =>
          pe_act2 (X := X) (CXg := C8.CX0) (Eg := C8.E0) (A2 := X.A.deeper (envOfC x (defScope st) s3.heap.objs.size g cdg)) (st2 := envOfC x (defScope st) s3.heap.objs.size g cdg :: X.stack) (s2 := s4) (H2 := HZ) (Ng := Nh) (qg := b) (sg := defScope sth) (g := h) (cdg := cdh) (i := 0) (k := k) (tb := t E) un2 hst I3 L hf hfn hfr (hbind _ _ _ _ _) tk hW (hr2.mono (by omega) : Room (k + 1) _) (fun A outer s H hr3 => hbody A outer s H E f c' hr3) hNh hvh hd' hcd'
        obtain ⟨t', ht', hq'⟩ := hGh cdg cdh s3 H3 f c' s4 HZ QZ (fun E H' Q' => t E σ H' Q') act hc ht
        exact ⟨t', ht'.nox, hq'⟩
      refine wpAny_call (codeAny_mono rch fun r s5 hq => ?_)
      cases r with
      | error e => exact (show False from hq).elim
      | ok fl =>
        cases fl with
        | ret u => exact I4.after hq
        | next => exact False.elim hq
        | brk => exact False.elim hq
        | cont => exact False.elim hq
    obtain ⟨t', ht', hq'⟩ := hG cdg f c' s3 H3 Q v1 v2 (fun E H' Q' => t E σ H' Q') (hr'.mono (by omega)) pass hco (q2 H3 eN T3')
    exact ⟨t', ht'.nox, hq'⟩
  refine wpAny_call (codeAny_mono rc fun r s5 hq => ?_)
  cases r with
  | error e => exact (show False from hq).elim
  | ok fl =>
    cases fl with
    | ret u => exact I3.after hq
    | next => exact False.elim hq
    | brk => exact False.elim hq
    | cont => exact False.elim hq
end
theorem pe_callG0 {X : Cx} {k : Nat} {f : Addr} {fd : FuncData} {sp : Sp} {x : Str} {p pos : Pos} (F : FnG X.prog X.w X.K X.mg X.base k f fd [] sp) (hr : Room k X.A) (hgu : X.A.guards = some [])
    (hg : Gl X x) (hm : X.mg x = some (.ref f)) (hk : PySem.W.keepIn X.K (.ref f) = true) (hb : L2.Binds X.K fd [] []) (hdb : (x == ("__debug__" : Str)) = false := by decide) :
    PE X (.Call (.Name x p) [] [] pos) (fun _ H Q => sp [] H Q E0) := by
  refine ⟨fun pins s σ H Q I h => ?_⟩
  refine wpAny_Call_Name_kw (ld_glob I hg hm ?_ hdb)
  refine PySem.W.callWith_K0 I.kIn hk ?_
  have bb := hb s [] I.kIn rfl
  exact runG F hr hgu bb I .nil h
theorem FnOk.quiet {P : Program} {w : World} {K : PySem.W.Frag} {mg : Str → Option Value} {base : Heap} {k : Nat} {f : Addr} {fd : FuncData} {ps : List Str} {sp : Sp} (F : FnOk P w K mg base (L2.CX P w) k f fd ps sp) :
    FnOk P w K mg base L2.CX0 k f fd ps (fun vs H Q _ => sp vs H Q fun _ _ _ => False) where
  len := fun vs H Q E h => F.len vs H Q _ h
  run := fun A outer s H args us vs Q E hr e0 hb r h => by
    refine codeAny_mono (F.run A outer s H args us vs Q (fun _ _ _ => False) hr e0 hb r h) fun r' s' hq => ?_
    cases r' with
    | error e =>
      obtain ⟨_, _, _, _, _, _, _, _, _, _, _, _, z⟩ := (show L2.CX P w outer H s (fun _ _ _ => False) e s' from hq)
      exact z.elim
    | ok fl => cases fl <;> exact hq
end MB
end
section
set_option maxRecDepth 100000
namespace MB
open PySem PySem.Spec PyProof.Rows L2
structure Ebare (K : PySem.W.Frag) (mg : Str → Option Value) (x : Str) (C : Addr) : Prop where
  xC : PySem.W.excIn K C [.type "Exception", .type "BaseException", .type "object"] "Exception.__new__" = true
  gC : mg x = some (.ref C)
  kC : PySem.W.keepIn K (.ref C) = true
  bC : PySem.W.subIn K (.ref C) (.type "BaseException") = some true
  tC : PySem.W.typeIn K (.ref C) = some (.type "type")
  iC : PySem.W.isClsIn K C = true
  sC : PySem.W.subIn K (.ref C) (.ref C) = some true
theorem Ebare.te {K : PySem.W.Frag} {mg : Str → Option Value} {x : Str} {C : Addr} (h : Ebare K mg x C) : PySem.W.exmOne K (.ref C) (.ref C) = some true := Er.meets_self h.bC h.iC h.tC h.sC
section
variable {X : Cx} {C : Addr} {bmB : List Value} {B newId initId : String}
theorem pmk_own0 {x : Str} {p pos : Pos} (F : ExcBaseFacts B newId initId bmB) (q : PySem.W.excIn X.K C bmB newId = true) (gC : X.mg x = some (.ref C)) (kC : PySem.W.keepIn X.K (.ref C) = true) (r : Raises X (.ref C)) (hg : Gl X x)
    (hdb : (x == ("__debug__" : Str)) = false := by decide) : PMk X (.Call (.Name x p) [] [] pos) (fun _ H Q => Q (.ref C) none H) := by
  intro pins s σ H Q I h
  refine wpAny_Call_Name_kw (ld_glob I hg gC ?_ hdb)
  refine PySem.W.callWith_K0 I.kIn kC ?_
  obtain ⟨bm, N, nm, qn, bs, hdct, sn, sub, ab, col, dd, k0, k1, k2, k3, k5, mN, hC, hN, hni, T⟩ := exc_obj I.kIn q
  refine wpAny_call_exc_subT F T hC hN hni (fun h' e hm => ?_) (Nat.zero_le _)
  exact mk_of I hm r h (I.hok.gone hm.new)
theorem ps_raiseBare {mg : Str → Option Value} {x : Str} {W : WX} {p pos pos2 : Pos} (hc : X.calm = true) (T : Ebare X.K X.mg x C) (tk : Takes X W) (hg : Gl X x) (hdb : (x == ("__debug__" : Str)) = false := by decide) :
    PS X (.Raise (some (.Call (.Name x p) [] [] pos)) none pos2) (fun _ σ H => W (.ref C) none σ H) := ps_raise hc tk (pmk_own0 PySem.F.excBase_Exception T.xC T.gC T.kC (raises_own T.bC T.tC) hg hdb)
end
end MB
end
section
set_option maxRecDepth 100000
namespace LM
open PySem
def four : List (List Int) := [[0, 0, 0, 0], [0, 1, 2, 3], [0, 2, 3, 1], [0, 3, 1, 2]]
def lsum (q a b : Int) : Int := if q = 4 then Builtin.bitXor a b else (a + b).fmod q
def lneg (q a : Int) : Int := if q = 4 then a else (0 - a).fmod q
def ltim (q a b : Int) : Int := if q = 4 then (four.getD a.toNat []).getD b.toNat 0 else (a * b).fmod q
structure LetQ (q : Int) : Prop where
  lo : 2 ≤ q
  hi : q ≤ 5
def linv (q a : Int) : Int := (((List.range q.toNat).map (fun n : Nat => (n : Int))).find? fun x => decide (ltim q a x = 1)).getD 0
def IsLet (q a : Int) : Prop := 0 ≤ a ∧ a < q
theorem invs_next (q a : Int) (i : Nat) : (((List.range (i + 1)).map (fun n : Nat => (n : Int))).filter fun x => decide (ltim q a x = 1)) =
    (((List.range i).map (fun n : Nat => (n : Int))).filter fun x => decide (ltim q a x = 1)) ++ (if decide (ltim q a (i : Int) = 1) = true then [(i : Int)] else []) := by
  rw [List.range_succ, List.map_append, List.filter_append]
  congr 1
  by_cases c : ltim q a (i : Int) = 1
  · simp [c]
  · simp [c]
theorem linv_some {q a : Int} (hq : LetQ q) (ha : IsLet q a) (a0 : a ≠ 0) : (((List.range q.toNat).map (fun n : Nat => (n : Int))).find? fun x => decide (ltim q a x = 1)).isSome = true := by
  obtain ⟨h1, h2⟩ := hq
  obtain ⟨h3, h4⟩ := ha
  have hc : q = 2 ∨ q = 3 ∨ q = 4 ∨ q = 5 := by omega
  have ac : a = 1 ∨ a = 2 ∨ a = 3 ∨ a = 4 := by omega
  rcases hc with rfl | rfl | rfl | rfl <;> rcases ac with rfl | rfl | rfl | rfl <;> first | (exfalso; omega) | decide
def IsRow (q : Int) (ns : List Int) : Prop := ∀ c ∈ ns, IsLet q c
theorem four_cases {q a : Int} (e : q = 4) (h : IsLet q a) : a = 0 ∨ a = 1 ∨ a = 2 ∨ a = 3 := by
  obtain ⟨h1, h2⟩ := h
  omega
theorem let_fmod {q : Int} (hq : LetQ q) (x : Int) : IsLet q (x.fmod q) := by
  have := hq.lo
  exact ⟨Int.fmod_nonneg_of_pos _ (by omega), Int.fmod_lt_of_pos _ (by omega)⟩
theorem let_sum {q a b : Int} (hq : LetQ q) (ha : IsLet q a) (hb : IsLet q b) : IsLet q (lsum q a b) := by
  unfold lsum
  split
  · rename_i e
    rcases four_cases e ha with rfl | rfl | rfl | rfl <;> rcases four_cases e hb with rfl | rfl | rfl | rfl <;> subst e <;> exact ⟨by decide, by decide⟩
  · exact let_fmod hq _
theorem let_neg {q a : Int} (hq : LetQ q) (ha : IsLet q a) : IsLet q (lneg q a) := by
  unfold lneg
  split
  · exact ha
  · exact let_fmod hq _
theorem let_tim {q a b : Int} (hq : LetQ q) (ha : IsLet q a) (hb : IsLet q b) : IsLet q (ltim q a b) := by
  unfold ltim
  split
  · rename_i e
    rcases four_cases e ha with rfl | rfl | rfl | rfl <;> rcases four_cases e hb with rfl | rfl | rfl | rfl <;> subst e <;> exact ⟨by decide, by decide⟩
  · exact let_fmod hq _
theorem let_inv {q a : Int} (hq : LetQ q) (ha : IsLet q a) (a0 : a ≠ 0) : IsLet q (linv q a) := by
  have hs := linv_some hq ha a0
  unfold linv
  cases hf : ((List.range q.toNat).map (fun n : Nat => (n : Int))).find? fun x => decide (ltim q a x = 1) with
  | none =>
    rw [hf] at hs
    cases hs
  | some x =>
    obtain ⟨n, hn, rfl⟩ := List.mem_map.mp (List.mem_of_find?_eq_some hf)
    rw [List.mem_range] at hn
    exact ⟨by simp, by simp; omega⟩
def wza (q : Int) (p : Nat) (row head : List Int) : List Int := List.zipWith (lsum q) row (head.map (ltim q (lneg q (row.getD p 0))))
theorem row_at {q : Int} {ns : List Int} (h : IsRow q ns) {p : Nat} (hp : p < ns.length) : IsLet q (ns.getD p 0) := by
  rw [List.getD_eq_getElem?_getD, List.getElem?_eq_getElem hp]
  exact h _ (List.getElem_mem hp)
theorem row_wza {q : Int} (hq : LetQ q) {p : Nat} {row head : List Int} (hr : IsRow q row) (hh : IsRow q head) (hp : p < row.length) : IsRow q (wza q p row head) := by
  intro c hc
  unfold wza at hc
  obtain ⟨i, hi, rfl⟩ := List.mem_iff_getElem.mp hc
  rw [List.getElem_zipWith, List.getElem_map]
  exact let_sum hq (hr _ (List.getElem_mem _)) (let_tim hq (let_neg hq (row_at hr hp)) (hh _ (List.getElem_mem _)))
def gstep (q : Int) (s : List (List Int) × List (List Int)) (p : Nat) : List (List Int) × List (List Int) :=
  match s.1.filter (fun r => r.getD p 0 != 0) with
  | [] => s
  | h :: _ => (s.1.map fun r => wza q p r (h.map (ltim q (linv q (h.getD p 0)))), (s.2.map fun r => wza q p r (h.map (ltim q (linv q (h.getD p 0))))) ++ [h.map (ltim q (linv q (h.getD p 0)))])
def gauss (q : Int) (n : Nat) (rows : List (List Int)) : List (List Int) := ((List.range n).foldl (gstep q) (rows, [])).2
def AllR (q : Int) (n : Nat) (Ls : List (List Int)) : Prop := ∀ r ∈ Ls, IsRow q r ∧ r.length = n
end LM
end
section
set_option maxRecDepth 100000
namespace LM
open PySem
def lets (q : Int) : List Int := (List.range q.toNat).map fun n : Nat => (n : Int)
theorem mem_lets {q a : Int} (h : IsLet q a) : a ∈ lets q := by
  obtain ⟨h1, h2⟩ := h
  exact List.mem_map.mpr ⟨a.toNat, List.mem_range.mpr (by omega), by omega⟩
theorem mem_q {q : Int} (h : LetQ q) : q ∈ ([2, 3, 4, 5] : List Int) := by
  obtain ⟨h1, h2⟩ := h
  have : q = 2 ∨ q = 3 ∨ q = 4 ∨ q = 5 := by omega
  rcases this with rfl | rfl | rfl | rfl <;> decide
theorem all1 {p : Int → Int → Bool} (h : (([2, 3, 4, 5] : List Int).all fun q => (lets q).all fun a => p q a) = true) {q a : Int} (hq : LetQ q) (ha : IsLet q a) : p q a = true :=
  List.all_eq_true.mp (List.all_eq_true.mp h q (mem_q hq)) a (mem_lets ha)
theorem all2 {p : Int → Int → Int → Bool} (h : (([2, 3, 4, 5] : List Int).all fun q => (lets q).all fun a => (lets q).all fun b => p q a b) = true) {q a b : Int} (hq : LetQ q) (ha : IsLet q a) (hb : IsLet q b) : p q a b = true :=
  List.all_eq_true.mp (List.all_eq_true.mp (List.all_eq_true.mp h q (mem_q hq)) a (mem_lets ha)) b (mem_lets hb)
theorem all3 {p : Int → Int → Int → Int → Bool} (h : (([2, 3, 4, 5] : List Int).all fun q => (lets q).all fun a => (lets q).all fun b => (lets q).all fun c => p q a b c) = true) {q a b c : Int} (hq : LetQ q) (ha : IsLet q a) (hb : IsLet q b) (hc : IsLet q c) : p q a b c = true :=
  List.all_eq_true.mp (List.all_eq_true.mp (List.all_eq_true.mp (List.all_eq_true.mp h q (mem_q hq)) a (mem_lets ha)) b (mem_lets hb)) c (mem_lets hc)
section
variable {q a b c : Int}
theorem let_zero (hq : LetQ q) : IsLet q 0 := ⟨Int.le_refl _, by have := hq.lo; omega⟩
theorem let_one (hq : LetQ q) : IsLet q 1 := ⟨by decide, by have := hq.lo; omega⟩
theorem sum_comm (hq : LetQ q) (ha : IsLet q a) (hb : IsLet q b) : lsum q a b = lsum q b a := of_decide_eq_true (all2 (p := fun q a b => decide (lsum q a b = lsum q b a)) (by decide +kernel) hq ha hb)
theorem sum_assoc (hq : LetQ q) (ha : IsLet q a) (hb : IsLet q b) (hc : IsLet q c) : lsum q (lsum q a b) c = lsum q a (lsum q b c) := of_decide_eq_true (all3 (p := fun q a b c => decide (lsum q (lsum q a b) c = lsum q a (lsum q b c))) (by decide +kernel) hq ha hb hc)
theorem sum_zero (hq : LetQ q) (ha : IsLet q a) : lsum q a 0 = a := of_decide_eq_true (all1 (p := fun q a => decide (lsum q a 0 = a)) (by decide +kernel) hq ha)
theorem zero_sum (hq : LetQ q) (ha : IsLet q a) : lsum q 0 a = a := of_decide_eq_true (all1 (p := fun q a => decide (lsum q 0 a = a)) (by decide +kernel) hq ha)
theorem sum_neg (hq : LetQ q) (ha : IsLet q a) : lsum q a (lneg q a) = 0 := of_decide_eq_true (all1 (p := fun q a => decide (lsum q a (lneg q a) = 0)) (by decide +kernel) hq ha)
theorem neg_zero (hq : LetQ q) : lneg q 0 = 0 := of_decide_eq_true (all1 (p := fun q _ => decide (lneg q 0 = 0)) (by decide +kernel) hq (let_zero hq))
theorem tim_comm (hq : LetQ q) (ha : IsLet q a) (hb : IsLet q b) : ltim q a b = ltim q b a := of_decide_eq_true (all2 (p := fun q a b => decide (ltim q a b = ltim q b a)) (by decide +kernel) hq ha hb)
theorem tim_assoc (hq : LetQ q) (ha : IsLet q a) (hb : IsLet q b) (hc : IsLet q c) : ltim q (ltim q a b) c = ltim q a (ltim q b c) := of_decide_eq_true (all3 (p := fun q a b c => decide (ltim q (ltim q a b) c = ltim q a (ltim q b c))) (by decide +kernel) hq ha hb hc)
theorem one_tim (hq : LetQ q) (ha : IsLet q a) : ltim q 1 a = a := of_decide_eq_true (all1 (p := fun q a => decide (ltim q 1 a = a)) (by decide +kernel) hq ha)
theorem tim_one (hq : LetQ q) (ha : IsLet q a) : ltim q a 1 = a := of_decide_eq_true (all1 (p := fun q a => decide (ltim q a 1 = a)) (by decide +kernel) hq ha)
theorem zero_tim (hq : LetQ q) (ha : IsLet q a) : ltim q 0 a = 0 := of_decide_eq_true (all1 (p := fun q a => decide (ltim q 0 a = 0)) (by decide +kernel) hq ha)
theorem tim_zero (hq : LetQ q) (ha : IsLet q a) : ltim q a 0 = 0 := of_decide_eq_true (all1 (p := fun q a => decide (ltim q a 0 = 0)) (by decide +kernel) hq ha)
theorem tim_sum (hq : LetQ q) (ha : IsLet q a) (hb : IsLet q b) (hc : IsLet q c) : ltim q a (lsum q b c) = lsum q (ltim q a b) (ltim q a c) := of_decide_eq_true (all3 (p := fun q a b c => decide (ltim q a (lsum q b c) = lsum q (ltim q a b) (ltim q a c))) (by decide +kernel) hq ha hb hc)
theorem neg_tim (hq : LetQ q) (ha : IsLet q a) (hb : IsLet q b) : ltim q (lneg q a) b = lneg q (ltim q a b) := of_decide_eq_true (all2 (p := fun q a b => decide (ltim q (lneg q a) b = lneg q (ltim q a b))) (by decide +kernel) hq ha hb)
theorem neg_sum (hq : LetQ q) (ha : IsLet q a) (hb : IsLet q b) : lneg q (lsum q a b) = lsum q (lneg q a) (lneg q b) := of_decide_eq_true (all2 (p := fun q a b => decide (lneg q (lsum q a b) = lsum q (lneg q a) (lneg q b))) (by decide +kernel) hq ha hb)
theorem neg_neg (hq : LetQ q) (ha : IsLet q a) : lneg q (lneg q a) = a := of_decide_eq_true (all1 (p := fun q a => decide (lneg q (lneg q a) = a)) (by decide +kernel) hq ha)
theorem diff_zero (hq : LetQ q) (ha : IsLet q a) (hb : IsLet q b) : lsum q a (lneg q b) = 0 ↔ a = b := of_decide_eq_true (all2 (p := fun q a b => decide (lsum q a (lneg q b) = 0 ↔ a = b)) (by decide +kernel) hq ha hb)
theorem inv_one (hq : LetQ q) : linv q 1 = 1 := of_decide_eq_true (all1 (p := fun q _ => decide (linv q 1 = 1)) (by decide +kernel) hq (let_zero hq))
theorem inv_tim (hq : LetQ q) (ha : IsLet q a) (a0 : a ≠ 0) : ltim q (linv q a) a = 1 := (of_decide_eq_true (all1 (p := fun q a => decide (a ≠ 0 → ltim q (linv q a) a = 1)) (by decide +kernel) hq ha)) a0
theorem tim_powers (hq : LetQ q) (ha : IsLet q a) (hb : IsLet q b) (e : q = 4) : ltim q a b = if a = 0 ∨ b = 0 then 0 else 1 + (a + b - 2).fmod 3 :=
  (of_decide_eq_true (all2 (p := fun q a b => decide (q = 4 → ltim q a b = if a = 0 ∨ b = 0 then 0 else 1 + (a + b - 2).fmod 3)) (by decide +kernel) hq ha hb)) e
end
section
variable {q : Int} {n : Nat}
theorem row_getD {ns : List Int} (hq : LetQ q) (h : IsRow q ns) (p : Nat) : IsLet q (ns.getD p 0) := by
  by_cases hp : p < ns.length
  · exact row_at h hp
  · rw [List.getD_eq_getElem?_getD, List.getElem?_eq_none (by omega)]
    exact let_zero hq
def zrow (n : Nat) : List Int := List.replicate n 0
theorem zrow_row (hq : LetQ q) : IsRow q (zrow n) := fun c hc => by
  rw [List.eq_of_mem_replicate hc]
  exact let_zero hq
theorem zrow_at (p : Nat) : (zrow n).getD p 0 = 0 := by
  unfold zrow
  rw [List.getD_eq_getElem?_getD, List.getElem?_replicate]
  split <;> rfl
theorem row_ext {as bs : List Int} (l : as.length = bs.length) (h : ∀ p, p < as.length → as.getD p 0 = bs.getD p 0) : as = bs := by
  apply List.ext_getElem l
  intro p h1 h2
  have := h p h1
  rw [List.getD_eq_getElem?_getD, List.getD_eq_getElem?_getD, List.getElem?_eq_getElem h1, List.getElem?_eq_getElem h2] at this
  exact this
def vsum (q : Int) (u v : List Int) : List Int := List.zipWith (lsum q) u v
def vtim (q a : Int) (u : List Int) : List Int := u.map (ltim q a)
theorem vsum_len {u v : List Int} (hu : u.length = n) (hv : v.length = n) : (vsum q u v).length = n := by
  unfold vsum
  rw [List.length_zipWith, hu, hv, Nat.min_self]
theorem vtim_len {a : Int} {u : List Int} : (vtim q a u).length = u.length := List.length_map _
theorem vsum_at (hq : LetQ q) {u v : List Int} (h : u.length = v.length) (p : Nat) : (vsum q u v).getD p 0 = lsum q (u.getD p 0) (v.getD p 0) := by
  unfold vsum
  simp only [List.getD_eq_getElem?_getD, List.getElem?_zipWith]
  by_cases hp : p < u.length
  · rw [List.getElem?_eq_getElem hp, List.getElem?_eq_getElem (h ▸ hp)]
    rfl
  · rw [List.getElem?_eq_none (by omega), List.getElem?_eq_none (by omega)]
    exact (sum_zero hq (let_zero hq)).symm
theorem vtim_at (hq : LetQ q) {a : Int} (ha : IsLet q a) {u : List Int} (p : Nat) : (vtim q a u).getD p 0 = ltim q a (u.getD p 0) := by
  unfold vtim
  simp only [List.getD_eq_getElem?_getD, List.getElem?_map]
  by_cases hp : p < u.length
  · rw [List.getElem?_eq_getElem hp]
    rfl
  · rw [List.getElem?_eq_none (by omega)]
    exact (tim_zero hq ha).symm
theorem vsum_row (hq : LetQ q) {u v : List Int} (hu : IsRow q u) (hv : IsRow q v) : IsRow q (vsum q u v) := by
  intro c hc
  unfold vsum at hc
  obtain ⟨i, hi, rfl⟩ := List.mem_iff_getElem.mp hc
  rw [List.getElem_zipWith]
  exact let_sum hq (hu _ (List.getElem_mem _)) (hv _ (List.getElem_mem _))
theorem vtim_row (hq : LetQ q) {a : Int} (ha : IsLet q a) {u : List Int} (hu : IsRow q u) : IsRow q (vtim q a u) := by
  intro c hc
  obtain ⟨x, hx, rfl⟩ := List.mem_map.mp hc
  exact let_tim hq ha (hu x hx)
def rowP (q : Int) (us vs : List Int) : Int := (us.zip vs).foldl (fun t p => lsum q t (ltim q p.1 p.2)) 0
def dot (q : Int) : List Int → List Int → Int
  | a :: u, b :: v => lsum q (ltim q a b) (dot q u v)
  | _, _ => 0
theorem dot_let (hq : LetQ q) : ∀ {u v : List Int}, IsRow q u → IsRow q v → IsLet q (dot q u v)
  | [], _, _, _ => let_zero hq
  | _ :: _, [], _, _ => let_zero hq
  | a :: u, b :: v, hu, hv => let_sum hq (let_tim hq (hu a List.mem_cons_self) (hv b List.mem_cons_self)) (dot_let hq (fun c hc => hu c (List.mem_cons_of_mem _ hc)) (fun c hc => hv c (List.mem_cons_of_mem _ hc)))
theorem fold_dot (hq : LetQ q) : ∀ {u v : List Int} {t : Int}, IsLet q t → IsRow q u → IsRow q v → (u.zip v).foldl (fun t p => lsum q t (ltim q p.1 p.2)) t = lsum q t (dot q u v)
  | [], _, t, ht, _, _ => (sum_zero hq ht).symm
  | _ :: _, [], t, ht, _, _ => (sum_zero hq ht).symm
  | a :: u, b :: v, t, ht, hu, hv => by
    have la := hu a List.mem_cons_self
    have lb := hv b List.mem_cons_self
    have hu' : IsRow q u := fun c hc => hu c (List.mem_cons_of_mem _ hc)
    have hv' : IsRow q v := fun c hc => hv c (List.mem_cons_of_mem _ hc)
    have lab := let_tim hq la lb
    show (u.zip v).foldl _ (lsum q t (ltim q a b)) = _
    rw [fold_dot hq (let_sum hq ht lab) hu' hv', sum_assoc hq ht lab (dot_let hq hu' hv')]
    rfl
theorem rowP_dot (hq : LetQ q) {u v : List Int} (hu : IsRow q u) (hv : IsRow q v) : rowP q u v = dot q u v := by
  unfold rowP
  rw [fold_dot hq (let_zero hq) hu hv, zero_sum hq (dot_let hq hu hv)]
theorem dot_comm (hq : LetQ q) : ∀ {u v : List Int}, IsRow q u → IsRow q v → dot q u v = dot q v u
  | [], [], _, _ => rfl
  | [], _ :: _, _, _ => rfl
  | _ :: _, [], _, _ => rfl
  | a :: u, b :: v, hu, hv => by
    show lsum q (ltim q a b) (dot q u v) = lsum q (ltim q b a) (dot q v u)
    rw [tim_comm hq (hu a List.mem_cons_self) (hv b List.mem_cons_self), dot_comm hq (fun c hc => hu c (List.mem_cons_of_mem _ hc)) (fun c hc => hv c (List.mem_cons_of_mem _ hc))]
theorem dot_zero (hq : LetQ q) : ∀ {v : List Int} (m : Nat), IsRow q v → dot q (zrow m) v = 0
  | _, 0, _ => by unfold zrow; rw [List.replicate_zero]; rfl
  | [], m + 1, _ => by unfold zrow; rw [List.replicate_succ]; rfl
  | b :: v, m + 1, hv => by
    have ih := dot_zero hq m (v := v) fun c hc => hv c (List.mem_cons_of_mem _ hc)
    unfold zrow at ih ⊢
    rw [List.replicate_succ]
    show lsum q (ltim q 0 b) (dot q (List.replicate m 0) v) = 0
    rw [ih, zero_tim hq (hv b List.mem_cons_self), sum_zero hq (let_zero hq)]
theorem set_row {u : List Int} {a : Int} (hu : IsRow q u) (ha : IsLet q a) (k : Nat) : IsRow q (u.set k a) := fun c hc => by
  rcases List.mem_or_eq_of_mem_set hc with h | h
  · exact hu c h
  · rw [h]
    exact ha
theorem dot_set (hq : LetQ q) {a : Int} (ha : IsLet q a) : ∀ {u v : List Int} (k : Nat), k < u.length → u.length = v.length → u.getD k 0 = 0 → IsRow q u → IsRow q v → dot q (u.set k a) v = lsum q (dot q u v) (ltim q a (v.getD k 0))
  | [], _, k, hk, _, _, _, _ => absurd hk (Nat.not_lt_zero _)
  | c :: u, [], k, _, hl, _, _, _ => by cases hl
  | c :: u, b :: v, 0, _, _, h0, hu, hv => by
    obtain rfl : c = 0 := h0
    have hu' : IsRow q u := fun c hc => hu c (List.mem_cons_of_mem _ hc)
    have hv' : IsRow q v := fun c hc => hv c (List.mem_cons_of_mem _ hc)
    have lb := hv b List.mem_cons_self
    show lsum q (ltim q a b) (dot q u v) = lsum q (lsum q (ltim q 0 b) (dot q u v)) (ltim q a b)
    rw [zero_tim hq lb, zero_sum hq (dot_let hq hu' hv'), sum_comm hq (let_tim hq ha lb) (dot_let hq hu' hv')]
  | c :: u, b :: v, k + 1, hk, hl, h0, hu, hv => by
    have hu' : IsRow q u := fun c hc => hu c (List.mem_cons_of_mem _ hc)
    have hv' : IsRow q v := fun c hc => hv c (List.mem_cons_of_mem _ hc)
    have lb := hv b List.mem_cons_self
    have lc := hu c List.mem_cons_self
    have ih := dot_set hq ha k (u := u) (v := v) (by simpa using hk) (by simpa using hl) (by simpa using h0) hu' hv'
    show lsum q (ltim q c b) (dot q (u.set k a) v) = lsum q (lsum q (ltim q c b) (dot q u v)) (ltim q a (v.getD k 0))
    rw [ih, ← sum_assoc hq (let_tim hq lc lb) (dot_let hq hu' hv') (let_tim hq ha (row_getD hq hv' k))]
end
end LM
end
section
set_option maxRecDepth 100000
namespace LM
structure RR (q : Int) (n : Nat) (Ps : List (Nat × List Int)) : Prop where
  one : ∀ x ∈ Ps, IsRow q x.2 ∧ x.2.length = n ∧ x.1 < n ∧ (∀ p, p < x.1 → x.2.getD p 0 = 0) ∧ x.2.getD x.1 0 = 1
  two : Ps.Pairwise fun a b => a.1 < b.1 ∧ a.2.getD b.1 0 = 0
theorem zrow_len {n : Nat} : (zrow n).length = n := List.length_replicate
section
variable {q : Int} {n : Nat} {Ps : List (Nat × List Int)}
theorem RR.nil : RR q n [] := ⟨(fun x hx => by cases hx), List.Pairwise.nil⟩
theorem RR.tail {x : Nat × List Int} (h : RR q n (x :: Ps)) : RR q n Ps := ⟨fun y hy => h.one y (List.mem_cons_of_mem _ hy), (List.pairwise_cons.mp h.two).2⟩
theorem RR.same (h : RR q n Ps) {x y : Nat × List Int} (hx : x ∈ Ps) (hy : y ∈ Ps) (e : x.1 = y.1) : x = y := by
  induction Ps with
  | nil => cases hx
  | cons z r ih =>
    have hp := (List.pairwise_cons.mp h.two).1
    rcases List.mem_cons.mp hx with rfl | hx
    · rcases List.mem_cons.mp hy with rfl | hy
      · rfl
      · have := (hp y hy).1
        omega
    · rcases List.mem_cons.mp hy with e' | hy
      · have := (hp x hx).1
        rw [e'] at e
        omega
      · exact ih h.tail hx hy
theorem RR.other (h : RR q n Ps) {x y : Nat × List Int} (hx : x ∈ Ps) (hy : y ∈ Ps) (e : x.1 ≠ y.1) : x.2.getD y.1 0 = 0 := by
  rcases Nat.lt_or_ge y.1 x.1 with hlt | hge
  · exact (h.one x hx).2.2.2.1 _ hlt
  · have hlt : x.1 < y.1 := by omega
    induction Ps with
    | nil => cases hx
    | cons z r ih =>
      have hp := (List.pairwise_cons.mp h.two).1
      rcases List.mem_cons.mp hx with rfl | hx'
      · rcases List.mem_cons.mp hy with rfl | hy'
        · omega
        · exact (hp y hy').2
      · rcases List.mem_cons.mp hy with rfl | hy'
        · have := (hp x hx').1
          omega
        · exact ih h.tail hx' hy'
theorem wza_eq {p : Nat} {row head : List Int} : wza q p row head = vsum q row (vtim q (lneg q (row.getD p 0)) head) := rfl
theorem wza_keep (hq : LetQ q) {p : Nat} {row head : List Int} (hr : IsRow q row) (hh : IsRow q head) (l : row.length = n) (lh : head.length = n) (e : row.getD p 0 = 0) : wza q p row head = row := by
  rw [wza_eq, e, neg_zero hq]
  have l2 : (vtim q 0 head).length = n := by rw [vtim_len, lh]
  refine row_ext (by rw [vsum_len l l2, l]) fun i _ => ?_
  rw [vsum_at hq (by rw [l, l2]), vtim_at hq (let_zero hq), zero_tim hq (row_getD hq hh i), sum_zero hq (row_getD hq hr i)]
theorem wza_self (hq : LetQ q) {p : Nat} {row : List Int} (hr : IsRow q row) (l : row.length = n) (e : row.getD p 0 = 1) : wza q p row row = zrow n := by
  rw [wza_eq, e]
  have l1 := let_neg hq (let_one hq)
  have l2 : (vtim q (lneg q 1) row).length = n := by rw [vtim_len, l]
  refine row_ext (by rw [vsum_len l l2]; unfold zrow; rw [List.length_replicate]) fun i _ => ?_
  rw [vsum_at hq (by rw [l, l2]), vtim_at hq l1, neg_tim hq (let_one hq) (row_getD hq hr i), one_tim hq (row_getD hq hr i), sum_neg hq (row_getD hq hr i), zrow_at]
theorem wza_zero (hq : LetQ q) {p : Nat} {head : List Int} (hh : IsRow q head) (lh : head.length = n) : wza q p (zrow n) head = zrow n :=
  wza_keep hq (zrow_row hq) hh (by unfold zrow; rw [List.length_replicate]) lh (zrow_at p)
theorem vtim_one (hq : LetQ q) {u : List Int} (hu : IsRow q u) : vtim q 1 u = u := by
  unfold vtim
  conv => rhs; rw [← List.map_id u]
  exact List.map_congr_left fun c hc => one_tim hq (hu c hc)
def leftAt (n p : Nat) (Qs : List (Nat × List Int)) : List (List Int) := Qs.map fun x => if x.1 < p then zrow n else x.2
def doneAt (p : Nat) (Ps : List (Nat × List Int)) : List (List Int) := (Ps.filter fun x => decide (x.1 < p)).map (·.2)
theorem filter_next (h : RR q n Ps) (p : Nat) : (Ps.filter fun x => decide (x.1 < p + 1)) = (Ps.filter fun x => decide (x.1 < p)) ++ Ps.filter fun x => decide (x.1 = p) := by
  induction Ps with
  | nil => rfl
  | cons x r ih =>
    have hp := (List.pairwise_cons.mp h.two).1
    have ih := ih h.tail
    by_cases c1 : x.1 < p
    · rw [List.filter_cons_of_pos (by simp; omega), List.filter_cons_of_pos (by simp; omega), List.filter_cons_of_neg (by simp; omega), ih]
      rfl
    · have e0 : (r.filter fun y => decide (y.1 < p)) = [] := List.filter_eq_nil_iff.mpr fun y hy => by
        have := (hp y hy).1
        simp
        omega
      rw [e0, List.nil_append] at ih
      by_cases c2 : x.1 = p
      · rw [List.filter_cons_of_pos (by simp; omega), List.filter_cons_of_neg (by simp; omega), List.filter_cons_of_pos (by simp; omega), e0, ih]
        rfl
      · rw [List.filter_cons_of_neg (by simp; omega), List.filter_cons_of_neg (by simp; omega), List.filter_cons_of_neg (by simp; omega), e0, ih]
        rfl
theorem filter_one (h : RR q n Ps) {x : Nat × List Int} (hx : x ∈ Ps) : (Ps.filter fun y => decide (y.1 = x.1)) = [x] := by
  induction Ps with
  | nil => cases hx
  | cons z r ih =>
    have hp := (List.pairwise_cons.mp h.two).1
    rcases List.mem_cons.mp hx with rfl | hx'
    · rw [List.filter_cons_of_pos (by simp)]
      have e0 : (r.filter fun y => decide (y.1 = x.1)) = [] := List.filter_eq_nil_iff.mpr fun y hy => by
        have := (hp y hy).1
        simp
        omega
      rw [e0]
    · have := (hp x hx').1
      rw [List.filter_cons_of_neg (by simp; omega)]
      exact ih h.tail hx'
theorem gstep_red (hq : LetQ q) (h : RR q n Ps) {Qs : List (Nat × List Int)} (hm : ∀ x, x ∈ Qs ↔ x ∈ Ps) (p : Nat) : gstep q (leftAt n p Qs, doneAt p Ps) p = (leftAt n (p + 1) Qs, doneAt (p + 1) Ps) := by
  have tail : ∀ y ∈ Ps, y.1 > p → y.2.getD p 0 = 0 := fun y hy hlt => (h.one y hy).2.2.2.1 _ hlt
  have member : ∀ r ∈ leftAt n p Qs, r.getD p 0 ≠ 0 → ∃ y ∈ Ps, y.1 = p ∧ r = y.2 := fun r hr r0 => by
    obtain ⟨y, hy, rfl⟩ := List.mem_map.mp hr
    have hy' := (hm y).mp hy
    split at r0
    · exact absurd (zrow_at p) r0
    · rename_i c
      by_cases e : y.1 = p
      · exact ⟨y, hy', e, by rw [if_neg c]⟩
      · exact absurd (tail y hy' (by omega)) r0
  unfold gstep
  cases hf : (leftAt n p Qs).filter (fun r => r.getD p 0 != 0) with
  | nil =>
    have none : ∀ y ∈ Ps, y.1 ≠ p := fun y hy e => by
      have hin : y.2 ∈ leftAt n p Qs := List.mem_map.mpr ⟨y, (hm y).mpr hy, by rw [if_neg (by omega)]⟩
      have h1 := (h.one y hy).2.2.2.2
      rw [e] at h1
      exact absurd h1 (by
        have := List.filter_eq_nil_iff.mp hf y.2 hin
        simp at this
        simp [this])
    have e1 : leftAt n (p + 1) Qs = leftAt n p Qs := List.map_congr_left fun y hy => by
      have := none y ((hm y).mp hy)
      by_cases c : y.1 < p
      · rw [if_pos c, if_pos (by omega)]
      · rw [if_neg c, if_neg (by omega)]
    have e2 : doneAt (p + 1) Ps = doneAt p Ps := by
      unfold doneAt
      rw [filter_next h, (List.filter_eq_nil_iff.mpr (fun y hy => by simpa using none y hy) : (Ps.filter fun y => decide (y.1 = p)) = []), List.append_nil]
    rw [e1, e2]
  | cons r0 rs =>
    have hr0 : r0 ∈ (leftAt n p Qs).filter (fun r => r.getD p 0 != 0) := by rw [hf]; exact List.mem_cons_self
    obtain ⟨m1, m2⟩ := List.mem_filter.mp hr0
    obtain ⟨x, hx, ex, rfl⟩ := member r0 m1 (by simpa using m2)
    obtain ⟨xr, xl, xn, x0, x1⟩ := h.one x hx
    rw [ex] at x1
    have eh : x.2.map (ltim q (linv q (x.2.getD p 0))) = x.2 := by
      rw [x1, inv_one hq]
      exact vtim_one hq xr
    show ((leftAt n p Qs).map (fun r => wza q p r (x.2.map (ltim q (linv q (x.2.getD p 0))))), (doneAt p Ps).map (fun r => wza q p r (x.2.map (ltim q (linv q (x.2.getD p 0))))) ++ [x.2.map (ltim q (linv q (x.2.getD p 0)))]) = _
    rw [eh]
    have e1 : (leftAt n p Qs).map (fun r => wza q p r x.2) = leftAt n (p + 1) Qs := by
      unfold leftAt
      rw [List.map_map]
      refine List.map_congr_left fun y hy => ?_
      have hy' := (hm y).mp hy
      obtain ⟨yr, yl, yn, y0, y1⟩ := h.one y hy'
      show wza q p (if y.1 < p then zrow n else y.2) x.2 = _
      by_cases c : y.1 < p
      · rw [if_pos c, if_pos (by omega)]
        exact wza_zero hq xr xl
      · rw [if_neg c]
        by_cases c2 : y.1 = p
        · rw [if_pos (by omega)]
          obtain rfl : y = x := h.same hy' hx (by omega)
          exact wza_self hq xr xl x1
        · rw [if_neg (by omega)]
          exact wza_keep hq yr xr yl xl (y0 p (by omega))
    have e2 : (doneAt p Ps).map (fun r => wza q p r x.2) ++ [x.2] = doneAt (p + 1) Ps := by
      unfold doneAt
      rw [filter_next h, ← ex, filter_one h hx, List.map_append]
      congr 1
      rw [List.map_map]
      refine List.map_congr_left fun y hy => ?_
      obtain ⟨hy1, hy2⟩ := List.mem_filter.mp hy
      have hlt : y.1 < x.1 := by simpa using hy2
      obtain ⟨yr, yl, _⟩ := h.one y hy1
      exact wza_keep hq yr xr yl xl (h.other hy1 hx (by omega))
    rw [e1, e2]
theorem gauss_red (hq : LetQ q) (h : RR q n Ps) {Qs : List (Nat × List Int)} (hm : ∀ x, x ∈ Qs ↔ x ∈ Ps) : gauss q n (Qs.map (·.2)) = Ps.map (·.2) := by
  have st : ∀ p, (List.range p).foldl (gstep q) (Qs.map (·.2), []) = (leftAt n p Qs, doneAt p Ps) := fun p => by
    induction p with
    | zero =>
      show (Qs.map (·.2), []) = _
      have e1 : leftAt n 0 Qs = Qs.map (·.2) := List.map_congr_left fun y _ => by rw [if_neg (Nat.not_lt_zero _)]
      have e2 : doneAt 0 Ps = [] := by
        unfold doneAt
        rw [List.filter_eq_nil_iff.mpr (fun y _ => by simp)]
        rfl
      rw [e1, e2]
    | succ p ih => rw [List.range_succ, List.foldl_append, ih, List.foldl_cons, List.foldl_nil, gstep_red hq h hm]
  unfold gauss
  rw [st n]
  unfold doneAt
  rw [List.filter_eq_self.mpr fun y hy => by simpa using (h.one y hy).2.2.1]
def comb (q : Int) (n : Nat) : List Int → List (List Int) → List Int
  | a :: as, r :: Rs => vsum q (vtim q a r) (comb q n as Rs)
  | _, _ => zrow n
theorem comb_len : ∀ {as : List Int} {Rs : List (List Int)}, (∀ r ∈ Rs, r.length = n) → (comb q n as Rs).length = n
  | [], _, _ => List.length_replicate
  | _ :: _, [], _ => List.length_replicate
  | a :: as, r :: Rs, h => vsum_len (by rw [vtim_len]; exact h r List.mem_cons_self) (comb_len fun r hr => h r (List.mem_cons_of_mem _ hr))
theorem comb_row (hq : LetQ q) : ∀ {as : List Int} {Rs : List (List Int)}, IsRow q as → (∀ r ∈ Rs, IsRow q r) → IsRow q (comb q n as Rs)
  | [], _, _, _ => zrow_row hq
  | _ :: _, [], _, _ => zrow_row hq
  | a :: as, r :: Rs, ha, h => vsum_row hq (vtim_row hq (ha a List.mem_cons_self) (h r List.mem_cons_self)) (comb_row hq (fun c hc => ha c (List.mem_cons_of_mem _ hc)) fun r hr => h r (List.mem_cons_of_mem _ hr))
theorem fold_comb (hq : LetQ q) : ∀ {as : List Int} {Rs : List (List Int)} {t : List Int}, IsRow q t → t.length = n → IsRow q as → (∀ r ∈ Rs, IsRow q r ∧ r.length = n) →
    (as.zip Rs).foldl (fun t p => vsum q t (vtim q p.1 p.2)) t = vsum q t (comb q n as Rs)
  | [], _, t, ht, lt, _, _ => by
    show t = vsum q t (zrow n)
    refine row_ext (by rw [vsum_len lt zrow_len, lt]) fun i _ => ?_
    rw [vsum_at hq (by rw [lt]; exact List.length_replicate.symm), zrow_at, sum_zero hq (row_getD hq ht i)]
  | _ :: _, [], t, ht, lt, _, _ => by
    show t = vsum q t (zrow n)
    refine row_ext (by rw [vsum_len lt zrow_len, lt]) fun i _ => ?_
    rw [vsum_at hq (by rw [lt]; exact List.length_replicate.symm), zrow_at, sum_zero hq (row_getD hq ht i)]
  | a :: as, r :: Rs, t, ht, lt, ha, h => by
    obtain ⟨hr, lr⟩ := h r List.mem_cons_self
    have la := ha a List.mem_cons_self
    have ha' : IsRow q as := fun c hc => ha c (List.mem_cons_of_mem _ hc)
    have h' : ∀ r ∈ Rs, IsRow q r ∧ r.length = n := fun r hr => h r (List.mem_cons_of_mem _ hr)
    have l1 : (vtim q a r).length = n := by rw [vtim_len, lr]
    have lc := comb_len (q := q) (n := n) (as := as) (Rs := Rs) fun r hr => (h' r hr).2
    have hc := comb_row (n := n) hq ha' fun r hr => (h' r hr).1
    have h1 := vtim_row hq la hr
    show (as.zip Rs).foldl _ (vsum q t (vtim q a r)) = vsum q t (vsum q (vtim q a r) (comb q n as Rs))
    rw [fold_comb hq (vsum_row hq ht h1) (vsum_len lt l1) ha' h']
    refine row_ext (by rw [vsum_len (vsum_len lt l1) lc, vsum_len lt (vsum_len l1 lc)]) fun i _ => ?_
    rw [vsum_at hq (by rw [vsum_len lt l1, lc]), vsum_at hq (by rw [lt, l1]), vsum_at hq (by rw [lt, vsum_len l1 lc]), vsum_at hq (by rw [l1, lc]), sum_assoc hq (row_getD hq ht i) (row_getD hq h1 i) (row_getD hq hc i)]
theorem fold_comb0 (hq : LetQ q) {as : List Int} {Rs : List (List Int)} (ha : IsRow q as) (h : ∀ r ∈ Rs, IsRow q r ∧ r.length = n) :
    (as.zip Rs).foldl (fun t p => vsum q t (vtim q p.1 p.2)) (zrow n) = comb q n as Rs := by
  rw [fold_comb hq (zrow_row hq) List.length_replicate ha h]
  have lc := comb_len (q := q) (n := n) (as := as) (Rs := Rs) fun r hr => (h r hr).2
  have hc := comb_row (n := n) hq ha fun r hr => (h r hr).1
  refine row_ext (by rw [vsum_len zrow_len lc, lc]) fun i _ => ?_
  rw [vsum_at hq (by rw [lc]; exact List.length_replicate), zrow_at, zero_sum hq (row_getD hq hc i)]
def csum (q : Int) (p : Nat) : List Int → List (List Int) → Int
  | a :: as, r :: Rs => lsum q (ltim q a (r.getD p 0)) (csum q p as Rs)
  | _, _ => 0
theorem comb_at (hq : LetQ q) (p : Nat) : ∀ {as : List Int} {Rs : List (List Int)}, IsRow q as → (∀ r ∈ Rs, IsRow q r ∧ r.length = n) → (comb q n as Rs).getD p 0 = csum q p as Rs
  | [], _, _, _ => zrow_at p
  | _ :: _, [], _, _ => zrow_at p
  | a :: as, r :: Rs, ha, h => by
    obtain ⟨hr, lr⟩ := h r List.mem_cons_self
    have h' : ∀ r ∈ Rs, IsRow q r ∧ r.length = n := fun r hr => h r (List.mem_cons_of_mem _ hr)
    have lc := comb_len (q := q) (n := n) (as := as) (Rs := Rs) fun r hr => (h' r hr).2
    show (vsum q (vtim q a r) (comb q n as Rs)).getD p 0 = lsum q (ltim q a (r.getD p 0)) (csum q p as Rs)
    rw [vsum_at hq (by rw [vtim_len, lr, lc]), vtim_at hq (ha a List.mem_cons_self), comb_at hq p (fun c hc => ha c (List.mem_cons_of_mem _ hc)) h']
theorem csum_let (hq : LetQ q) (p : Nat) : ∀ {as : List Int} {Rs : List (List Int)}, IsRow q as → (∀ r ∈ Rs, IsRow q r) → IsLet q (csum q p as Rs)
  | [], _, _, _ => let_zero hq
  | _ :: _, [], _, _ => let_zero hq
  | a :: as, r :: Rs, ha, h => let_sum hq (let_tim hq (ha a List.mem_cons_self) (row_getD hq (h r List.mem_cons_self) p)) (csum_let hq p (fun c hc => ha c (List.mem_cons_of_mem _ hc)) fun r hr => h r (List.mem_cons_of_mem _ hr))
theorem csum_zero (hq : LetQ q) (p : Nat) : ∀ {as : List Int} {Rs : List (List Int)}, IsRow q as → (∀ r ∈ Rs, r.getD p 0 = 0) → csum q p as Rs = 0
  | [], _, _, _ => rfl
  | _ :: _, [], _, _ => rfl
  | a :: as, r :: Rs, ha, h => by
    show lsum q (ltim q a (r.getD p 0)) (csum q p as Rs) = 0
    rw [h r List.mem_cons_self, tim_zero hq (ha a List.mem_cons_self), csum_zero hq p (fun c hc => ha c (List.mem_cons_of_mem _ hc)) fun r hr => h r (List.mem_cons_of_mem _ hr), sum_zero hq (let_zero hq)]
theorem csum_lead (hq : LetQ q) : ∀ {Ps : List (Nat × List Int)} {as : List Int} (i : Nat) {x : Nat × List Int}, RR q n Ps → IsRow q as → as.length = Ps.length → Ps[i]? = some x → csum q x.1 as (Ps.map (·.2)) = as.getD i 0
  | [], _, i, x, _, _, _, e => by cases e
  | y :: Ps, [], i, x, _, _, l, _ => by cases l
  | y :: Ps, a :: as, 0, x, h, ha, l, e => by
    obtain rfl : y = x := Option.some.inj e
    have la := ha a List.mem_cons_self
    show lsum q (ltim q a (y.2.getD y.1 0)) (csum q y.1 as (Ps.map (·.2))) = a
    rw [(h.one y List.mem_cons_self).2.2.2.2, tim_one hq la, csum_zero hq y.1 (fun c hc => ha c (List.mem_cons_of_mem _ hc)), sum_zero hq la]
    intro r hr
    obtain ⟨z, hz, rfl⟩ := List.mem_map.mp hr
    have hp := (List.pairwise_cons.mp h.two).1 z hz
    exact h.other (List.mem_cons_of_mem _ hz) List.mem_cons_self (by omega)
  | y :: Ps, a :: as, i + 1, x, h, ha, l, e => by
    have ha' : IsRow q as := fun c hc => ha c (List.mem_cons_of_mem _ hc)
    have e' : Ps[i]? = some x := by simpa using e
    have hx := List.mem_of_getElem? e'
    have hp := (List.pairwise_cons.mp h.two).1 x hx
    have ih := csum_lead hq i h.tail ha' (by simpa using l) e'
    show lsum q (ltim q a (y.2.getD x.1 0)) (csum q x.1 as (Ps.map (·.2))) = as.getD i 0
    rw [hp.2, tim_zero hq (ha a List.mem_cons_self), ih, zero_sum hq (row_getD hq ha' i)]
def atLeads (Ps : List (Nat × List Int)) (w : List Int) : List Int := Ps.map fun x => w.getD x.1 0
theorem RR.rows (h : RR q n Ps) : ∀ r ∈ Ps.map (·.2), IsRow q r ∧ r.length = n := fun r hr => by
  obtain ⟨x, hx, rfl⟩ := List.mem_map.mp hr
  exact ⟨(h.one x hx).1, (h.one x hx).2.1⟩
theorem leads_comb (hq : LetQ q) (h : RR q n Ps) {as : List Int} (ha : IsRow q as) (l : as.length = Ps.length) : atLeads Ps (comb q n as (Ps.map (·.2))) = as := by
  refine row_ext (by unfold atLeads; rw [List.length_map, l]) fun i hi => ?_
  unfold atLeads at hi ⊢
  rw [List.length_map] at hi
  rw [List.getD_eq_getElem?_getD, List.getElem?_map, List.getElem?_eq_getElem hi]
  show (comb q n as (Ps.map (·.2))).getD Ps[i].1 0 = _
  rw [comb_at hq _ ha h.rows, csum_lead hq i h ha l (List.getElem?_eq_getElem hi)]
theorem atLeads_row (hq : LetQ q) {w : List Int} (hw : IsRow q w) : IsRow q (atLeads Ps w) := fun c hc => by
  obtain ⟨x, _, rfl⟩ := List.mem_map.mp hc
  exact row_getD hq hw _
def InB (q : Int) (n : Nat) (Ps : List (Nat × List Int)) (w : List Int) : Prop := comb q n (atLeads Ps w) (Ps.map (·.2)) = w
instance : Decidable (InB q n Ps w) := inferInstanceAs (Decidable (_ = _))
theorem made_in (hq : LetQ q) (h : RR q n Ps) {as : List Int} (ha : IsRow q as) (l : as.length = Ps.length) : InB q n Ps (comb q n as (Ps.map (·.2))) := by
  unfold InB
  rw [leads_comb hq h ha l]
theorem made_iff (hq : LetQ q) (h : RR q n Ps) {as w : List Int} (ha : IsRow q as) (l : as.length = Ps.length) : comb q n as (Ps.map (·.2)) = w ↔ InB q n Ps w ∧ as = atLeads Ps w := by
  constructor
  · rintro rfl
    exact ⟨made_in hq h ha l, (leads_comb hq h ha l).symm⟩
  · rintro ⟨h1, rfl⟩
    exact h1
def chk (q : Int) (n p : Nat) (Ps : List (Nat × List Int)) : List Int := Ps.foldl (fun c x => c.set x.1 (lneg q (x.2.getD p 0))) ((zrow n).set p 1)
theorem fold_chk (hq : LetQ q) {p : Nat} {w : List Int} (hw : IsRow q w) (lw : w.length = n) : ∀ {Ps : List (Nat × List Int)} {c : List Int}, RR q n Ps → IsRow q c → c.length = n → (∀ x ∈ Ps, c.getD x.1 0 = 0) →
    dot q (Ps.foldl (fun c x => c.set x.1 (lneg q (x.2.getD p 0))) c) w = lsum q (dot q c w) (lneg q (csum q p (atLeads Ps w) (Ps.map (·.2))))
  | [], c, _, hc, lc, _ => by
    show dot q c w = lsum q (dot q c w) (lneg q 0)
    rw [neg_zero hq, sum_zero hq (dot_let hq hc hw)]
  | x :: Ps, c, h, hc, lc, h0 => by
    obtain ⟨xr, xl, xn, _, _⟩ := h.one x List.mem_cons_self
    have hp := (List.pairwise_cons.mp h.two).1
    have lx := row_getD hq xr p
    have lnx := let_neg hq lx
    have lwx := row_getD hq hw x.1
    show dot q (Ps.foldl _ (c.set x.1 (lneg q (x.2.getD p 0)))) w = lsum q (dot q c w) (lneg q (lsum q (ltim q (w.getD x.1 0) (x.2.getD p 0)) (csum q p (atLeads Ps w) (Ps.map (·.2)))))
    have lcs := csum_let hq p (as := atLeads Ps w) (Rs := Ps.map (·.2)) (atLeads_row hq hw) fun r hr => (h.tail.rows r hr).1
    rw [fold_chk hq hw lw h.tail (set_row hc lnx x.1) (by rw [List.length_set, lc]) fun y hy => ?_, dot_set hq lnx x.1 (by omega) (by omega) (h0 x List.mem_cons_self) hc hw,
      neg_tim hq lx lwx, tim_comm hq lx lwx, neg_sum hq (let_tim hq lwx lx) lcs, sum_assoc hq (dot_let hq hc hw) (let_neg hq (let_tim hq lwx lx)) (let_neg hq lcs)]
    have := (hp y hy).1
    rw [List.getD_eq_getElem?_getD, List.getElem?_set_ne (by omega), ← List.getD_eq_getElem?_getD]
    exact h0 y (List.mem_cons_of_mem _ hy)
theorem zset_at (p i : Nat) (h : i ≠ p) : ((zrow n).set p 1).getD i 0 = 0 := by
  rw [List.getD_eq_getElem?_getD, List.getElem?_set_ne (by omega), ← List.getD_eq_getElem?_getD, zrow_at]
theorem zset_row (hq : LetQ q) (p : Nat) : IsRow q ((zrow n).set p 1) := set_row (zrow_row hq) (let_one hq) p
theorem dot_unit (hq : LetQ q) {p : Nat} (hp : p < n) {w : List Int} (hw : IsRow q w) (lw : w.length = n) : dot q ((zrow n).set p 1) w = w.getD p 0 := by
  have lz : (zrow n).length = n := List.length_replicate
  rw [dot_set hq (let_one hq) p (by omega) (by omega) (zrow_at p) (zrow_row hq) hw, dot_zero hq n hw, one_tim hq (row_getD hq hw p), zero_sum hq (row_getD hq hw p)]
theorem dot_chk (hq : LetQ q) (h : RR q n Ps) {p : Nat} (hp : p < n) (hl : ∀ x ∈ Ps, x.1 ≠ p) {w : List Int} (hw : IsRow q w) (lw : w.length = n) :
    dot q (chk q n p Ps) w = lsum q (w.getD p 0) (lneg q (csum q p (atLeads Ps w) (Ps.map (·.2)))) := by
  unfold chk
  rw [fold_chk hq hw lw h (zset_row hq p) (by rw [List.length_set]; exact List.length_replicate) (fun x hx => zset_at p x.1 (hl x hx)), dot_unit hq hp hw lw]
theorem chk_row (hq : LetQ q) (p : Nat) : ∀ {Ps : List (Nat × List Int)} {c : List Int}, (∀ x ∈ Ps, IsRow q x.2) → IsRow q c → IsRow q (Ps.foldl (fun c x => c.set x.1 (lneg q (x.2.getD p 0))) c)
  | [], c, _, hc => hc
  | x :: Ps, c, h, hc => chk_row hq p (Ps := Ps) (fun y hy => h y (List.mem_cons_of_mem _ hy)) (set_row hc (let_neg hq (row_getD hq (h x List.mem_cons_self) p)) x.1)
theorem chk_len (p : Nat) : ∀ {Ps : List (Nat × List Int)} {c : List Int}, (Ps.foldl (fun c x => c.set x.1 (lneg q (x.2.getD p 0))) c).length = c.length
  | [], c => rfl
  | x :: Ps, c => by
    show (Ps.foldl _ (c.set x.1 _)).length = _
    rw [chk_len p, List.length_set]
theorem in_iff (hq : LetQ q) (h : RR q n Ps) {w : List Int} (hw : IsRow q w) (lw : w.length = n) : InB q n Ps w ↔ ∀ p, p < n → (∀ x ∈ Ps, x.1 ≠ p) → dot q (chk q n p Ps) w = 0 := by
  have ha : IsRow q (atLeads Ps w) := atLeads_row hq hw
  have la : (atLeads Ps w).length = Ps.length := List.length_map _
  have lc : ∀ p, IsLet q (csum q p (atLeads Ps w) (Ps.map (·.2))) := fun p => csum_let hq p ha fun r hr => (h.rows r hr).1
  constructor
  · intro hin p hp hl
    rw [dot_chk hq h hp hl hw lw, diff_zero hq (row_getD hq hw p) (lc p), ← comb_at hq p ha h.rows]
    exact (congrArg (fun l => l.getD p 0) hin).symm
  · intro hall
    refine row_ext (by rw [comb_len fun r hr => (h.rows r hr).2, lw]) fun p hp => ?_
    rw [comb_len fun r hr => (h.rows r hr).2] at hp
    rw [comb_at hq p ha h.rows]
    by_cases hl : ∀ x ∈ Ps, x.1 ≠ p
    · have z := hall p hp hl
      rw [dot_chk hq h hp hl hw lw, diff_zero hq (row_getD hq hw p) (lc p)] at z
      exact z.symm
    · obtain ⟨x, hx⟩ := Classical.not_forall.mp hl
      obtain ⟨hx, ex⟩ := Classical.not_imp.mp hx
      have ex : x.1 = p := Classical.not_not.mp ex
      obtain ⟨i, hi, rfl⟩ := List.mem_iff_getElem.mp hx
      have z := csum_lead hq i h ha la (List.getElem?_eq_getElem hi)
      rw [ex] at z
      rw [z]
      unfold atLeads
      rw [List.getD_eq_getElem?_getD, List.getElem?_map, List.getElem?_eq_getElem hi]
      show w.getD Ps[i].1 0 = _
      rw [ex]
theorem row_in (hq : LetQ q) (h : RR q n Ps) {x : Nat × List Int} (hx : x ∈ Ps) {p : Nat} (hp : p < n) (hl : ∀ x ∈ Ps, x.1 ≠ p) : dot q (chk q n p Ps) x.2 = 0 := by
  obtain ⟨xr, xl, xn, x0, x1⟩ := h.one x hx
  rw [dot_chk hq h hp hl xr xl]
  have key : ∀ {Ps : List (Nat × List Int)}, RR q n Ps → x ∈ Ps → csum q p (atLeads Ps x.2) (Ps.map (·.2)) = x.2.getD p 0 := by
    intro Ps h hx
    induction Ps with
    | nil => cases hx
    | cons y r ih =>
      have hp := (List.pairwise_cons.mp h.two).1
      have ly := row_getD hq (h.one y List.mem_cons_self).1 p
      show lsum q (ltim q (x.2.getD y.1 0) (y.2.getD p 0)) (csum q p (atLeads r x.2) (r.map (·.2))) = _
      rcases List.mem_cons.mp hx with rfl | hx'
      · have z0 : ∀ {r : List (Nat × List Int)}, RR q n r → (∀ z ∈ r, x.2.getD z.1 0 = 0) → csum q p (atLeads r x.2) (r.map (·.2)) = 0 := by
          intro r hr hz
          induction r with
          | nil => rfl
          | cons z t iht =>
            show lsum q (ltim q (x.2.getD z.1 0) (z.2.getD p 0)) (csum q p (atLeads t x.2) (t.map (·.2))) = 0
            rw [hz z List.mem_cons_self, zero_tim hq (row_getD hq (hr.one z List.mem_cons_self).1 p), iht hr.tail fun y hy => hz y (List.mem_cons_of_mem _ hy), sum_zero hq (let_zero hq)]
        rw [x1, one_tim hq ly, z0 h.tail fun z hz => (hp z hz).2, sum_zero hq ly]
      · have := (hp x hx').1
        rw [h.other (List.mem_cons_of_mem _ hx') List.mem_cons_self (by omega), zero_tim hq ly, ih h.tail hx', zero_sum hq (row_getD hq xr p)]
  rw [key h hx]
  exact sum_neg hq (row_getD hq xr p)
end
end LM
end
section
set_option maxRecDepth 100000
namespace LM
def Wd (q : Int) (n : Nat) (u : List Int) : Prop := IsRow q u ∧ u.length = n
section
variable {q : Int} {n : Nat} {u v w r : List Int} {a b : Int} {Ls Ms : List (List Int)} {Ps Qs Ks : List (Nat × List Int)}
theorem wd_zero (hq : LetQ q) : Wd q n (zrow n) := ⟨zrow_row hq, zrow_len⟩
theorem wd_sum (hq : LetQ q) (hu : Wd q n u) (hv : Wd q n v) : Wd q n (vsum q u v) := ⟨vsum_row hq hu.1 hv.1, vsum_len hu.2 hv.2⟩
theorem wd_tim (hq : LetQ q) (ha : IsLet q a) (hu : Wd q n u) : Wd q n (vtim q a u) := ⟨vtim_row hq ha hu.1, by rw [vtim_len, hu.2]⟩
theorem wd_at (hq : LetQ q) (hu : Wd q n u) (p : Nat) : IsLet q (u.getD p 0) := row_getD hq hu.1 p
theorem wd_ext (hu : Wd q n u) (hv : Wd q n v) (h : ∀ p, u.getD p 0 = v.getD p 0) : u = v := row_ext (by rw [hu.2, hv.2]) fun p _ => h p
theorem at_sum (hq : LetQ q) (hu : Wd q n u) (hv : Wd q n v) (p : Nat) : (vsum q u v).getD p 0 = lsum q (u.getD p 0) (v.getD p 0) := vsum_at hq (by rw [hu.2, hv.2]) p
theorem tim_ne (hq : LetQ q) (ha : IsLet q a) (hb : IsLet q b) (a0 : a ≠ 0) (b0 : b ≠ 0) : ltim q a b ≠ 0 := (of_decide_eq_true (all2 (p := fun q a b => decide (a ≠ 0 → b ≠ 0 → ltim q a b ≠ 0)) (by decide +kernel) hq ha hb)) a0 b0
theorem neg_sum_self (hq : LetQ q) (ha : IsLet q a) : lsum q (lneg q a) a = 0 := of_decide_eq_true (all1 (p := fun q a => decide (lsum q (lneg q a) a = 0)) (by decide +kernel) hq ha)
theorem inv_ne (hq : LetQ q) (ha : IsLet q a) (a0 : a ≠ 0) : linv q a ≠ 0 := (of_decide_eq_true (all1 (p := fun q a => decide (a ≠ 0 → linv q a ≠ 0)) (by decide +kernel) hq ha)) a0
theorem sum_zrow (hq : LetQ q) (hu : Wd q n u) : vsum q u (zrow n) = u := wd_ext (wd_sum hq hu (wd_zero hq)) hu fun p => by rw [at_sum hq hu (wd_zero hq), zrow_at, sum_zero hq (wd_at hq hu p)]
theorem zrow_sum (hq : LetQ q) (hu : Wd q n u) : vsum q (zrow n) u = u := wd_ext (wd_sum hq (wd_zero hq) hu) hu fun p => by rw [at_sum hq (wd_zero hq) hu, zrow_at, zero_sum hq (wd_at hq hu p)]
theorem vsum_assoc (hq : LetQ q) (hu : Wd q n u) (hv : Wd q n v) (hw : Wd q n w) : vsum q (vsum q u v) w = vsum q u (vsum q v w) :=
  wd_ext (wd_sum hq (wd_sum hq hu hv) hw) (wd_sum hq hu (wd_sum hq hv hw)) fun p => by
    rw [at_sum hq (wd_sum hq hu hv) hw, at_sum hq hu hv, at_sum hq hu (wd_sum hq hv hw), at_sum hq hv hw, sum_assoc hq (wd_at hq hu p) (wd_at hq hv p) (wd_at hq hw p)]
theorem vsum_comm (hq : LetQ q) (hu : Wd q n u) (hv : Wd q n v) : vsum q u v = vsum q v u :=
  wd_ext (wd_sum hq hu hv) (wd_sum hq hv hu) fun p => by rw [at_sum hq hu hv, at_sum hq hv hu, sum_comm hq (wd_at hq hu p) (wd_at hq hv p)]
theorem tim_zrow (hq : LetQ q) (ha : IsLet q a) : vtim q a (zrow n) = zrow n := wd_ext (wd_tim hq ha (wd_zero hq)) (wd_zero hq) fun p => by rw [vtim_at hq ha, zrow_at, tim_zero hq ha]
theorem zero_vtim (hq : LetQ q) (hu : Wd q n u) : vtim q 0 u = zrow n := wd_ext (wd_tim hq (let_zero hq) hu) (wd_zero hq) fun p => by rw [vtim_at hq (let_zero hq), zrow_at, zero_tim hq (wd_at hq hu p)]
theorem tim_vsum (hq : LetQ q) (ha : IsLet q a) (hu : Wd q n u) (hv : Wd q n v) : vtim q a (vsum q u v) = vsum q (vtim q a u) (vtim q a v) :=
  wd_ext (wd_tim hq ha (wd_sum hq hu hv)) (wd_sum hq (wd_tim hq ha hu) (wd_tim hq ha hv)) fun p => by
    rw [vtim_at hq ha, at_sum hq hu hv, at_sum hq (wd_tim hq ha hu) (wd_tim hq ha hv), vtim_at hq ha, vtim_at hq ha, tim_sum hq ha (wd_at hq hu p) (wd_at hq hv p)]
theorem tim_vtim (hq : LetQ q) (ha : IsLet q a) (hb : IsLet q b) (hu : Wd q n u) : vtim q a (vtim q b u) = vtim q (ltim q a b) u :=
  wd_ext (wd_tim hq ha (wd_tim hq hb hu)) (wd_tim hq (let_tim hq ha hb) hu) fun p => by
    rw [vtim_at hq ha, vtim_at hq hb, vtim_at hq (let_tim hq ha hb), tim_assoc hq ha hb (wd_at hq hu p)]
theorem sum_vtim (hq : LetQ q) (ha : IsLet q a) (hb : IsLet q b) (hu : Wd q n u) : vsum q (vtim q a u) (vtim q b u) = vtim q (lsum q a b) u :=
  wd_ext (wd_sum hq (wd_tim hq ha hu) (wd_tim hq hb hu)) (wd_tim hq (let_sum hq ha hb) hu) fun p => by
    have h := wd_at hq hu p
    rw [at_sum hq (wd_tim hq ha hu) (wd_tim hq hb hu), vtim_at hq ha, vtim_at hq hb, vtim_at hq (let_sum hq ha hb), tim_comm hq (let_sum hq ha hb) h, tim_sum hq h ha hb, tim_comm hq h ha, tim_comm hq h hb]
inductive Sp (q : Int) (n : Nat) (Ls : List (List Int)) : List Int → Prop
  | zero : Sp q n Ls (zrow n)
  | add {u r : List Int} {a : Int} : Sp q n Ls u → r ∈ Ls → IsLet q a → Sp q n Ls (vsum q u (vtim q a r))
theorem Sp.wd (hq : LetQ q) (hL : AllR q n Ls) (h : Sp q n Ls u) : Wd q n u := by
  induction h with
  | zero => exact wd_zero hq
  | add _ hr ha ih => exact wd_sum hq ih (wd_tim hq ha (hL _ hr))
theorem Sp.sum (hq : LetQ q) (hL : AllR q n Ls) (hu : Sp q n Ls u) (hv : Sp q n Ls v) : Sp q n Ls (vsum q u v) := by
  have wu := hu.wd hq hL
  induction hv with
  | zero => rw [sum_zrow hq wu]; exact hu
  | add h hr ha ih =>
    rw [← vsum_assoc hq wu (h.wd hq hL) (wd_tim hq ha (hL _ hr))]
    exact .add ih hr ha
theorem Sp.tim (hq : LetQ q) (hL : AllR q n Ls) (ha : IsLet q a) (hu : Sp q n Ls u) : Sp q n Ls (vtim q a u) := by
  induction hu with
  | zero => rw [tim_zrow hq ha]; exact .zero
  | add h hr hb ih =>
    rw [tim_vsum hq ha (h.wd hq hL) (wd_tim hq hb (hL _ hr)), tim_vtim hq ha hb (hL _ hr)]
    exact .add ih hr (let_tim hq ha hb)
theorem Sp.row (hq : LetQ q) (hL : AllR q n Ls) (h : r ∈ Ls) : Sp q n Ls r := by
  have e := Sp.add (q := q) (n := n) .zero h (let_one hq)
  rw [vtim_one hq (hL _ h).1, zrow_sum hq (hL _ h)] at e
  exact e
theorem Sp.sub (hq : LetQ q) (hM : AllR q n Ms) (h : ∀ r ∈ Ls, Sp q n Ms r) (hu : Sp q n Ls u) : Sp q n Ms u := by
  induction hu with
  | zero => exact .zero
  | add _ hr ha ih => exact ih.sum hq hM ((h _ hr).tim hq hM ha)
theorem Sp.mono (h : ∀ r ∈ Ls, r ∈ Ms) (hu : Sp q n Ls u) : Sp q n Ms u := by
  induction hu with
  | zero => exact .zero
  | add _ hr ha ih => exact .add ih (h _ hr) ha
def SpE (q : Int) (n : Nat) (Ls Ms : List (List Int)) : Prop := (∀ r ∈ Ls, Sp q n Ms r) ∧ ∀ r ∈ Ms, Sp q n Ls r
theorem SpE.refl (hq : LetQ q) (hL : AllR q n Ls) : SpE q n Ls Ls := ⟨fun _ h => .row hq hL h, fun _ h => .row hq hL h⟩
theorem SpE.symm (h : SpE q n Ls Ms) : SpE q n Ms Ls := ⟨h.2, h.1⟩
theorem SpE.trans (hq : LetQ q) {Ns : List (List Int)} (hL : AllR q n Ls) (hN : AllR q n Ns) (h : SpE q n Ls Ms) (k : SpE q n Ms Ns) : SpE q n Ls Ns :=
  ⟨fun r hr => (h.1 r hr).sub hq hN k.1, fun r hr => (k.2 r hr).sub hq hL h.2⟩
theorem SpE.mem (hq : LetQ q) (hL : AllR q n Ls) (hM : AllR q n Ms) (h : ∀ r, r ∈ Ls ↔ r ∈ Ms) : SpE q n Ls Ms := ⟨fun r hr => .row hq hM ((h r).mp hr), fun r hr => .row hq hL ((h r).mpr hr)⟩
theorem Sp.zero_at (hq : LetQ q) (hL : AllR q n Ls) {i : Nat} (h : ∀ r ∈ Ls, r.getD i 0 = 0) (hu : Sp q n Ls u) : u.getD i 0 = 0 := by
  induction hu with
  | zero => exact zrow_at i
  | add k hr ha ih => rw [at_sum hq (k.wd hq hL) (wd_tim hq ha (hL _ hr)), ih, vtim_at hq ha, h _ hr, tim_zero hq ha, sum_zero hq (let_zero hq)]
theorem dot_vsum (hq : LetQ q) : ∀ {c u v : List Int}, IsRow q c → IsRow q u → IsRow q v → u.length = v.length → dot q c (vsum q u v) = lsum q (dot q c u) (dot q c v)
  | [], u, v, _, _, _, _ => by
    have : ∀ x, dot q [] x = 0 := fun x => by cases x <;> rfl
    rw [this, this, this, sum_zero hq (let_zero hq)]
  | c :: cs, [], [], _, _, _, _ => (sum_zero hq (let_zero hq)).symm
  | c :: cs, [], _ :: _, _, _, _, l => by cases l
  | c :: cs, _ :: _, [], _, _, _, l => by cases l
  | c :: cs, a :: u, b :: v, hc, hu, hv, l => by
    have lc := hc c List.mem_cons_self
    have la := hu a List.mem_cons_self
    have lb := hv b List.mem_cons_self
    have hc' : IsRow q cs := fun x hx => hc x (List.mem_cons_of_mem _ hx)
    have hu' : IsRow q u := fun x hx => hu x (List.mem_cons_of_mem _ hx)
    have hv' : IsRow q v := fun x hx => hv x (List.mem_cons_of_mem _ hx)
    have ih := dot_vsum hq hc' hu' hv' (by simpa using l)
    show lsum q (ltim q c (lsum q a b)) (dot q cs (vsum q u v)) = lsum q (lsum q (ltim q c a) (dot q cs u)) (lsum q (ltim q c b) (dot q cs v))
    have d1 := dot_let hq hc' hu'
    have d2 := dot_let hq hc' hv'
    have t1 := let_tim hq lc la
    have t2 := let_tim hq lc lb
    rw [ih, tim_sum hq lc la lb, sum_assoc hq t1 t2 (let_sum hq d1 d2), sum_assoc hq t1 d1 (let_sum hq t2 d2), ← sum_assoc hq t2 d1 d2, sum_comm hq t2 d1, sum_assoc hq d1 t2 d2]
theorem dot_vtim (hq : LetQ q) (ha : IsLet q a) : ∀ {c u : List Int}, IsRow q c → IsRow q u → dot q c (vtim q a u) = ltim q a (dot q c u)
  | [], u, _, _ => by
    have : ∀ x, dot q [] x = 0 := fun x => by cases x <;> rfl
    rw [this, this, tim_zero hq ha]
  | c :: cs, [], _, _ => (tim_zero hq ha).symm
  | c :: cs, b :: u, hc, hu => by
    have lc := hc c List.mem_cons_self
    have lb := hu b List.mem_cons_self
    have hc' : IsRow q cs := fun x hx => hc x (List.mem_cons_of_mem _ hx)
    have hu' : IsRow q u := fun x hx => hu x (List.mem_cons_of_mem _ hx)
    show lsum q (ltim q c (ltim q a b)) (dot q cs (vtim q a u)) = ltim q a (lsum q (ltim q c b) (dot q cs u))
    rw [dot_vtim hq ha hc' hu', tim_sum hq ha (let_tim hq lc lb) (dot_let hq hc' hu'), ← tim_assoc hq lc ha lb, ← tim_assoc hq ha lc lb, tim_comm hq lc ha]
theorem sp_dot (hq : LetQ q) (hL : AllR q n Ls) {c : List Int} (hc : IsRow q c) (h : ∀ r ∈ Ls, dot q c r = 0) (hu : Sp q n Ls u) : dot q c u = 0 := by
  induction hu with
  | zero => rw [dot_comm hq hc (zrow_row hq), dot_zero hq n hc]
  | add k hr ha ih =>
    have w1 := k.wd hq hL
    have w2 := wd_tim hq ha (hL _ hr)
    rw [dot_vsum hq hc w1.1 w2.1 (by rw [w1.2, w2.2]), ih, dot_vtim hq ha hc (hL _ hr).1, h _ hr, tim_zero hq ha, sum_zero hq (let_zero hq)]
theorem sp_in (hq : LetQ q) (h : RR q n Ps) (hw : Sp q n (Ps.map (·.2)) w) : InB q n Ps w := by
  have wd := hw.wd hq h.rows
  refine (in_iff hq h wd.1 wd.2).mpr fun p hp hl => sp_dot hq h.rows (chk_row hq p (fun x hx => (h.one x hx).1) (zset_row hq p)) (fun r hr => ?_) hw
  obtain ⟨x, hx, rfl⟩ := List.mem_map.mp hr
  exact row_in hq h hx hp hl
theorem comb_sp (hq : LetQ q) (hL : AllR q n Ls) : ∀ {as : List Int} {Rs : List (List Int)}, IsRow q as → (∀ r ∈ Rs, Sp q n Ls r) → Sp q n Ls (comb q n as Rs)
  | [], _, _, _ => .zero
  | _ :: _, [], _, _ => .zero
  | a :: as, r :: Rs, ha, h => ((h r List.mem_cons_self).tim hq hL (ha a List.mem_cons_self)).sum hq hL (comb_sp hq hL (fun c hc => ha c (List.mem_cons_of_mem _ hc)) fun r hr => h r (List.mem_cons_of_mem _ hr))
theorem in_sp (hq : LetQ q) (h : RR q n Ps) (hw : IsRow q w) (hi : InB q n Ps w) : Sp q n (Ps.map (·.2)) w := by
  have e : comb q n (atLeads Ps w) (Ps.map (·.2)) = w := hi
  rw [← e]
  exact comb_sp hq h.rows (atLeads_row hq hw) fun r hr => .row hq h.rows hr
def Lead (w : List Int) (p : Nat) : Prop := (∀ i, i < p → w.getD i 0 = 0) ∧ w.getD p 0 ≠ 0
theorem csum_all (hq : LetQ q) {p : Nat} : ∀ {Ps : List (Nat × List Int)}, (∀ x ∈ Ps, ltim q (w.getD x.1 0) (x.2.getD p 0) = 0) → csum q p (atLeads Ps w) (Ps.map (·.2)) = 0
  | [], _ => rfl
  | x :: Ps, h => by
    show lsum q (ltim q (w.getD x.1 0) (x.2.getD p 0)) (csum q p (atLeads Ps w) (Ps.map (·.2))) = 0
    rw [h x List.mem_cons_self, csum_all hq fun y hy => h y (List.mem_cons_of_mem _ hy), sum_zero hq (let_zero hq)]
theorem lead_in (hq : LetQ q) (h : RR q n Ps) (wd : Wd q n w) (hi : InB q n Ps w) {p : Nat} (hl : Lead w p) : ∃ x ∈ Ps, x.1 = p := by
  refine Classical.byContradiction fun no => hl.2 ?_
  have e : comb q n (atLeads Ps w) (Ps.map (·.2)) = w := hi
  have e2 := comb_at hq (n := n) p (atLeads_row (Ps := Ps) hq wd.1) h.rows
  rw [e] at e2
  rw [e2]
  refine csum_all hq fun x hx => ?_
  rcases Nat.lt_trichotomy x.1 p with c | c | c
  · rw [hl.1 _ c, zero_tim hq (row_getD hq (h.one x hx).1 p)]
  · exact absurd ⟨x, hx, c⟩ no
  · rw [(h.one x hx).2.2.2.1 p c, tim_zero hq (wd_at hq wd _)]
theorem rr_lead (hq : LetQ q) (h : RR q n Ps) {x : Nat × List Int} (hx : x ∈ Ps) : Lead x.2 x.1 := ⟨(h.one x hx).2.2.2.1, by rw [(h.one x hx).2.2.2.2]; decide⟩
theorem rr_wd (h : RR q n Ps) {x : Nat × List Int} (hx : x ∈ Ps) : Wd q n x.2 := ⟨(h.one x hx).1, (h.one x hx).2.1⟩
theorem rr_mem (hq : LetQ q) (h : RR q n Ps) (k : RR q n Qs) (e : SpE q n (Ps.map (·.2)) (Qs.map (·.2))) {x : Nat × List Int} (hx : x ∈ Ps) : x ∈ Qs := by
  have ix := sp_in hq k (e.1 _ (List.mem_map_of_mem (f := (·.2)) hx))
  obtain ⟨y, hy, e1⟩ := lead_in hq k (rr_wd h hx) ix (rr_lead hq h hx)
  have iy := sp_in hq k (Sp.row hq k.rows (List.mem_map_of_mem (f := (·.2)) hy))
  have ea : atLeads Qs x.2 = atLeads Qs y.2 := by
    refine List.map_congr_left fun z hz => ?_
    have iz := sp_in hq h (e.2 _ (List.mem_map_of_mem (f := (·.2)) hz))
    obtain ⟨z', hz', e2⟩ := lead_in hq h (rr_wd k hz) iz (rr_lead hq k hz)
    by_cases c : z.1 = x.1
    · rw [c, (h.one x hx).2.2.2.2, ← e1, (k.one y hy).2.2.2.2]
    · rw [k.other hy hz (by omega), ← e2, h.other hx hz' (by omega)]
  have e3 : x.2 = y.2 := by
    have h1 : comb q n (atLeads Qs x.2) (Qs.map (·.2)) = x.2 := ix
    have h2 : comb q n (atLeads Qs y.2) (Qs.map (·.2)) = y.2 := iy
    rw [← h1, ea, h2]
  have e4 : x = y := Prod.ext e1.symm e3
  rw [e4]
  exact hy
theorem rr_one (hq : LetQ q) (h : RR q n Ps) (k : RR q n Qs) (e : SpE q n (Ps.map (·.2)) (Qs.map (·.2))) : Ps.map (·.2) = Qs.map (·.2) := by
  rw [← gauss_red hq h (Qs := Qs) fun x => ⟨fun hx => rr_mem hq k h e.symm hx, fun hx => rr_mem hq h k e hx⟩]
  exact gauss_red hq k (Qs := Qs) fun x => Iff.rfl
structure GInv (q : Int) (n p : Nat) (Ls : List (List Int)) (s : List (List Int) × List (List Int)) (Ds : List (Nat × List Int)) : Prop where
  l : AllR q n s.1
  z : ∀ r ∈ s.1, ∀ i, i < p → r.getD i 0 = 0
  d : RR q n Ds
  e : s.2 = Ds.map (·.2)
  h : ∀ x ∈ Ds, x.1 < p
  sp : SpE q n Ls (s.1 ++ s.2)
theorem wza_sum {p : Nat} {head : List Int} : wza q p r head = vsum q r (vtim q (lneg q (r.getD p 0)) head) := rfl
theorem rr_snoc {x : Nat × List Int} (h : RR q n Ps) (hx : IsRow q x.2 ∧ x.2.length = n ∧ x.1 < n ∧ (∀ p, p < x.1 → x.2.getD p 0 = 0) ∧ x.2.getD x.1 0 = 1) (hb : ∀ y ∈ Ps, y.1 < x.1 ∧ y.2.getD x.1 0 = 0) : RR q n (Ps ++ [x]) := by
  refine ⟨fun y hy => ?_, List.pairwise_append.mpr ⟨h.two, List.pairwise_singleton _ _, fun y hy z hz => ?_⟩⟩
  · rcases List.mem_append.mp hy with hy | hy
    · exact h.one y hy
    · rw [List.mem_singleton.mp hy]; exact hx
  · rw [List.mem_singleton.mp hz]; exact hb y hy
theorem gstep_inv (hq : LetQ q) {p : Nat} (hp : p < n) {s : List (List Int) × List (List Int)} {Ds : List (Nat × List Int)} (hL : AllR q n Ls) (h : GInv q n p Ls s Ds) : ∃ Ds', GInv q n (p + 1) Ls (gstep q s p) Ds' := by
  obtain ⟨left, done⟩ := s
  obtain ⟨hl, hz, hd, rfl, hh, sp⟩ := h
  dsimp only at hl hz sp
  unfold gstep
  cases hf : left.filter (fun r => r.getD p 0 != 0) with
  | nil =>
    dsimp only
    refine ⟨Ds, hl, fun r hr i hi => ?_, hd, rfl, fun x hx => by have := hh x hx; omega, sp⟩
    rcases Nat.lt_succ_iff_lt_or_eq.mp hi with hi | rfl
    · exact hz r hr i hi
    · have := List.filter_eq_nil_iff.mp hf r hr
      simpa using this
  | cons h0 rest =>
    dsimp only
    have hm0 : h0 ∈ left.filter (fun r => r.getD p 0 != 0) := by rw [hf]; exact List.mem_cons_self
    obtain ⟨m0, c0⟩ := List.mem_filter.mp hm0
    have c0' : h0.getD p 0 ≠ 0 := by simpa using c0
    have w0 : Wd q n h0 := hl h0 m0
    have la := wd_at hq w0 p
    have li := let_inv hq la c0'
    change ∃ Ds', GInv q n (p + 1) Ls (left.map (fun r => wza q p r (vtim q (linv q (h0.getD p 0)) h0)), (Ds.map (·.2)).map (fun r => wza q p r (vtim q (linv q (h0.getD p 0)) h0)) ++ [vtim q (linv q (h0.getD p 0)) h0]) Ds'
    have wh : Wd q n (vtim q (linv q (h0.getD p 0)) h0) := wd_tim hq li w0
    have h1 : (vtim q (linv q (h0.getD p 0)) h0).getD p 0 = 1 := by rw [vtim_at hq li, inv_tim hq la c0']
    have h2 : ∀ i, i < p → (vtim q (linv q (h0.getD p 0)) h0).getD i 0 = 0 := fun i hi => by rw [vtim_at hq li, hz h0 m0 i hi, tim_zero hq li]
    have s1 : Sp q n (left ++ Ds.map (·.2)) (vtim q (linv q (h0.getD p 0)) h0) := by
      have hA : AllR q n (left ++ Ds.map (·.2)) := fun r hr => (List.mem_append.mp hr).elim (hl r) (hd.rows r)
      exact (Sp.row hq hA (List.mem_append_left _ m0)).tim hq hA li
    generalize vtim q (linv q (h0.getD p 0)) h0 = hd0 at wh h1 h2 s1 ⊢
    have hA : AllR q n (left ++ Ds.map (·.2)) := fun r hr => (List.mem_append.mp hr).elim (hl r) (hd.rows r)
    have wz : ∀ r, Wd q n r → Wd q n (wza q p r hd0) := fun r hr => by rw [wza_sum]; exact wd_sum hq hr (wd_tim hq (let_neg hq (wd_at hq hr p)) wh)
    have az : ∀ r, Wd q n r → ∀ i, (wza q p r hd0).getD i 0 = lsum q (r.getD i 0) (ltim q (lneg q (r.getD p 0)) (hd0.getD i 0)) := fun r hr i => by
      have ln := let_neg hq (wd_at hq hr p)
      rw [wza_sum, at_sum hq hr (wd_tim hq ln wh), vtim_at hq ln]
    have ap : ∀ r, Wd q n r → (wza q p r hd0).getD p 0 = 0 := fun r hr => by
      rw [az r hr p, h1, tim_one hq (let_neg hq (wd_at hq hr p)), sum_neg hq (wd_at hq hr p)]
    have ai : ∀ r, Wd q n r → ∀ i, i < p → (wza q p r hd0).getD i 0 = r.getD i 0 := fun r hr i hi => by
      rw [az r hr i, h2 i hi, tim_zero hq (let_neg hq (wd_at hq hr p)), sum_zero hq (wd_at hq hr i)]
    have back : ∀ r, Wd q n r → r = vsum q (wza q p r hd0) (vtim q (r.getD p 0) hd0) := fun r hr => by
      have lr := wd_at hq hr p
      have ln := let_neg hq lr
      rw [wza_sum, vsum_assoc hq hr (wd_tim hq ln wh) (wd_tim hq lr wh), sum_vtim hq ln lr wh, neg_sum_self hq lr, zero_vtim hq wh, sum_zrow hq hr]
    have hN : AllR q n (left.map (fun r => wza q p r hd0) ++ ((Ds.map (·.2)).map (fun r => wza q p r hd0) ++ [hd0])) := fun r hr => by
      rcases List.mem_append.mp hr with hr | hr
      · obtain ⟨x, hx, rfl⟩ := List.mem_map.mp hr
        exact wz x (hl x hx)
      · rcases List.mem_append.mp hr with hr | hr
        · obtain ⟨x, hx, rfl⟩ := List.mem_map.mp hr
          exact wz x (hd.rows x hx)
        · rw [List.mem_singleton.mp hr]; exact wh
    refine ⟨Ds.map (fun x => (x.1, wza q p x.2 hd0)) ++ [(p, hd0)], ?_, ?_, ?_, ?_, ?_, ?_⟩
    · intro r hr
      obtain ⟨x, hx, rfl⟩ := List.mem_map.mp hr
      exact wz x (hl x hx)
    · intro r hr i hi
      obtain ⟨x, hx, rfl⟩ := List.mem_map.mp hr
      rcases Nat.lt_succ_iff_lt_or_eq.mp hi with hi | rfl
      · rw [ai x (hl x hx) i hi, hz x hx i hi]
      · exact ap x (hl x hx)
    · refine rr_snoc ⟨fun x hx => ?_, List.pairwise_map.mpr (hd.two.imp_of_mem fun {a b} ha hb e => ⟨e.1, ?_⟩)⟩ ⟨wh.1, wh.2, hp, h2, h1⟩ fun y hy => ?_
      · obtain ⟨y, hy, rfl⟩ := List.mem_map.mp hx
        have o := hd.one y hy
        have lp := hh y hy
        refine ⟨(wz _ (rr_wd hd hy)).1, (wz _ (rr_wd hd hy)).2, o.2.2.1, fun i hi => ?_, ?_⟩
        · exact (ai _ (rr_wd hd hy) i (Nat.lt_trans hi lp)).trans (o.2.2.2.1 i hi)
        · exact (ai _ (rr_wd hd hy) _ lp).trans o.2.2.2.2
      · exact (ai _ (rr_wd hd ha) _ (hh b hb)).trans e.2
      · obtain ⟨x, hx, rfl⟩ := List.mem_map.mp hy
        exact ⟨hh x hx, ap _ (rr_wd hd hx)⟩
    · rw [List.map_append, List.map_map, List.map_map]
      rfl
    · intro x hx
      rcases List.mem_append.mp hx with hx | hx
      · obtain ⟨y, hy, rfl⟩ := List.mem_map.mp hx
        have := hh y hy
        show y.1 < p + 1
        omega
      · rw [List.mem_singleton.mp hx]; exact Nat.lt_succ_self p
    · refine sp.trans hq hL hN ⟨fun r hr => ?_, fun r hr => ?_⟩
      · have wr : Wd q n r := hA r hr
        rw [back r wr]
        refine (Sp.row hq hN ?_).sum hq hN ((Sp.row hq hN ?_).tim hq hN (wd_at hq wr p))
        · rcases List.mem_append.mp hr with hr | hr
          · exact List.mem_append_left _ (List.mem_map_of_mem (f := fun r => wza q p r hd0) hr)
          · exact List.mem_append_right _ (List.mem_append_left _ (List.mem_map_of_mem (f := fun r => wza q p r hd0) hr))
        · exact List.mem_append_right _ (List.mem_append_right _ (List.mem_singleton.mpr rfl))
      · have key : ∀ x ∈ left ++ Ds.map (·.2), Sp q n (left ++ Ds.map (·.2)) (wza q p x hd0) := fun x hx => by
          have wx : Wd q n x := hA x hx
          rw [wza_sum]
          exact (Sp.row hq hA hx).sum hq hA (s1.tim hq hA (let_neg hq (wd_at hq wx p)))
        rcases List.mem_append.mp hr with hr | hr
        · obtain ⟨x, hx, rfl⟩ := List.mem_map.mp hr
          exact key x (List.mem_append_left _ hx)
        · rcases List.mem_append.mp hr with hr | hr
          · obtain ⟨x, hx, rfl⟩ := List.mem_map.mp hr
            exact key x (List.mem_append_right _ hx)
          · rw [List.mem_singleton.mp hr]; exact s1
theorem gauss_inv (hq : LetQ q) (hL : AllR q n Ls) : ∀ k, k ≤ n → ∃ Ds, GInv q n k Ls ((List.range k).foldl (gstep q) (Ls, [])) Ds
  | 0, _ => ⟨[], hL, (fun _ _ i hi => absurd hi (Nat.not_lt_zero _)), RR.nil, rfl, (fun x hx => by cases hx), by
      show SpE q n Ls (Ls ++ [])
      rw [List.append_nil]
      exact SpE.refl hq hL⟩
  | k + 1, hk => by
    obtain ⟨Ds, h⟩ := gauss_inv hq hL k (by omega)
    rw [List.range_succ, List.foldl_append]
    exact gstep_inv hq (by omega) hL h
theorem gauss_gen (hq : LetQ q) (hL : AllR q n Ls) : ∃ Ps, RR q n Ps ∧ gauss q n Ls = Ps.map (·.2) ∧ SpE q n Ls (Ps.map (·.2)) := by
  obtain ⟨Ds, h⟩ := gauss_inv hq hL n (Nat.le_refl _)
  refine ⟨Ds, h.d, h.e, ?_⟩
  have sp := h.sp
  rw [h.e] at sp
  refine ⟨fun r hr => (sp.1 r hr).sub hq h.d.rows fun x hx => ?_, fun r hr => sp.2 r (List.mem_append_right _ hr)⟩
  rcases List.mem_append.mp hx with hx | hx
  · have wx : Wd q n x := h.l x hx
    have e : x = zrow n := row_ext (by rw [wx.2, zrow_len]) fun p hp => by
      rw [zrow_at]
      exact h.z x hx p (by rw [wx.2] at hp; exact hp)
    rw [e]
    exact .zero
  · exact .row hq h.d.rows hx
theorem gauss_same (hq : LetQ q) (hL : AllR q n Ls) (hM : AllR q n Ms) (e : SpE q n Ls Ms) : gauss q n Ls = gauss q n Ms := by
  obtain ⟨Ps, p1, p2, p3⟩ := gauss_gen hq hL
  obtain ⟨Qs, q1, q2, q3⟩ := gauss_gen hq hM
  rw [p2, q2]
  exact rr_one hq p1 q1 ((p3.symm.trans hq p1.rows hM e).trans hq p1.rows q1.rows q3)
theorem gauss_rr (hq : LetQ q) (h : RR q n Ps) (hM : AllR q n Ms) (e : SpE q n (Ps.map (·.2)) Ms) : gauss q n Ms = Ps.map (·.2) := by
  rw [← gauss_same hq h.rows hM e]
  exact gauss_red hq h fun x => Iff.rfl
def crs (q : Int) (row : List Int) (k : Nat × List Int) : List Int := if 0 < row.getD k.1 0 then vsum q (vtim q (k.2.getD k.1 0) row) (vtim q (lneg q (row.getD k.1 0)) k.2) else row
def headL (row : List Int) : Option Nat := (List.range row.length).find? fun p => decide (0 < row.getD p 0)
def rstep (q : Int) (kept : List (Nat × List Int)) (row : List Int) : List (Nat × List Int) :=
  match headL (kept.foldl (crs q) row) with
  | some h => kept ++ [(h, kept.foldl (crs q) row)]
  | none => kept
def rankL (q : Int) (Ls : List (List Int)) : Nat := (Ls.foldl (rstep q) []).length
structure Ech (q : Int) (n : Nat) (Ks : List (Nat × List Int)) : Prop where
  one : ∀ x ∈ Ks, Wd q n x.2 ∧ x.1 < n ∧ Lead x.2 x.1
  two : Ks.Pairwise fun a b => b.2.getD a.1 0 = 0
theorem Ech.tail {x : Nat × List Int} (h : Ech q n (x :: Ks)) : Ech q n Ks := ⟨fun y hy => h.one y (List.mem_cons_of_mem _ hy), (List.pairwise_cons.mp h.two).2⟩
theorem Ech.rows (h : Ech q n Ks) : AllR q n (Ks.map (·.2)) := fun r hr => by
  obtain ⟨x, hx, rfl⟩ := List.mem_map.mp hr
  exact (h.one x hx).1
theorem crs_wd (hq : LetQ q) {k : Nat × List Int} (hr : Wd q n r) (hk : Wd q n k.2) : Wd q n (crs q r k) := by
  unfold crs
  split
  · exact wd_sum hq (wd_tim hq (wd_at hq hk _) hr) (wd_tim hq (let_neg hq (wd_at hq hr _)) hk)
  · exact hr
theorem crs_sp (hq : LetQ q) (hL : AllR q n Ls) {k : Nat × List Int} (hr : Wd q n r) (hk : Wd q n k.2) (k0 : k.2.getD k.1 0 ≠ 0) (sk : Sp q n Ls k.2) : Sp q n Ls (crs q r k) ↔ Sp q n Ls r := by
  unfold crs
  split
  · have lr := wd_at hq hr k.1
    have ln := let_neg hq lr
    have lk := wd_at hq hk k.1
    constructor
    · intro h
      have li := let_inv hq lk k0
      have s2 := ((h.sum hq hL (sk.tim hq hL lr))).tim hq hL li
      rw [vsum_assoc hq (wd_tim hq lk hr) (wd_tim hq ln hk) (wd_tim hq lr hk), sum_vtim hq ln lr hk, neg_sum_self hq lr, zero_vtim hq hk, sum_zrow hq (wd_tim hq lk hr), tim_vtim hq li lk hr, inv_tim hq lk k0, vtim_one hq hr.1] at s2
      exact s2
    · intro h
      exact (h.tim hq hL lk).sum hq hL (sk.tim hq hL ln)
  · exact Iff.rfl
theorem crs_zero (hq : LetQ q) {k : Nat × List Int} (hr : Wd q n r) (hk : Wd q n k.2) : (crs q r k).getD k.1 0 = 0 := by
  have lr := wd_at hq hr k.1
  have ln := let_neg hq lr
  have lk := wd_at hq hk k.1
  unfold crs
  split
  · rw [at_sum hq (wd_tim hq lk hr) (wd_tim hq ln hk), vtim_at hq lk, vtim_at hq ln, neg_tim hq lr lk, tim_comm hq lk lr, sum_neg hq (let_tim hq lr lk)]
  · have := lr.1
    omega
theorem crs_keep (hq : LetQ q) {k : Nat × List Int} {i : Nat} (hr : Wd q n r) (hk : Wd q n k.2) (r0 : r.getD i 0 = 0) (k0 : k.2.getD i 0 = 0) : (crs q r k).getD i 0 = 0 := by
  have lr := wd_at hq hr k.1
  have ln := let_neg hq lr
  have lk := wd_at hq hk k.1
  unfold crs
  split
  · rw [at_sum hq (wd_tim hq lk hr) (wd_tim hq ln hk), vtim_at hq lk, vtim_at hq ln, r0, k0, tim_zero hq lk, tim_zero hq ln, sum_zero hq (let_zero hq)]
  · exact r0
theorem fold_crs (hq : LetQ q) : ∀ {Ks : List (Nat × List Int)} {r : List Int}, Ech q n Ks → Wd q n r → Wd q n (Ks.foldl (crs q) r) ∧ (∀ x ∈ Ks, (Ks.foldl (crs q) r).getD x.1 0 = 0) ∧
    (∀ i, r.getD i 0 = 0 → (∀ x ∈ Ks, x.2.getD i 0 = 0) → (Ks.foldl (crs q) r).getD i 0 = 0) ∧
    ∀ Ls, AllR q n Ls → (∀ x ∈ Ks, Sp q n Ls x.2) → (Sp q n Ls (Ks.foldl (crs q) r) ↔ Sp q n Ls r)
  | [], r, _, hr => ⟨hr, (fun x hx => by cases hx), fun _ h _ => h, fun _ _ _ => Iff.rfl⟩
  | k :: Ks, r, h, hr => by
    have hk := h.one k List.mem_cons_self
    have hp := (List.pairwise_cons.mp h.two).1
    obtain ⟨i1, i2, i3, i4⟩ := fold_crs hq h.tail (crs_wd hq hr hk.1)
    refine ⟨i1, fun x hx => ?_, fun i r0 hi => ?_, fun Ls hL hs => ?_⟩
    · rcases List.mem_cons.mp hx with rfl | hx
      · exact i3 _ (crs_zero hq hr hk.1) fun y hy => hp y hy
      · exact i2 x hx
    · exact i3 i (crs_keep hq hr hk.1 r0 (hi k List.mem_cons_self)) fun y hy => hi y (List.mem_cons_of_mem _ hy)
    · exact (i4 Ls hL fun x hx => hs x (List.mem_cons_of_mem _ hx)).trans (crs_sp hq hL hr hk.1 hk.2.2.2 (hs k List.mem_cons_self))
theorem headL_some (hq : LetQ q) {h : Nat} (hr : Wd q n r) (e : headL r = some h) : h < n ∧ Lead r h := by
  unfold headL at e
  have h1 := List.find?_some e
  have h2 := List.mem_of_find?_eq_some e
  rw [List.mem_range, hr.2] at h2
  have h3 : 0 < r.getD h 0 := by simpa using h1
  refine ⟨h2, fun i hi => ?_, by omega⟩
  have h4 := (List.find?_eq_some_iff_append.mp e).2
  obtain ⟨as, bs, e2, h5⟩ := h4
  have h6 : i ∈ as := by
    have l1 : as.length = h := by
      have g := congrArg (fun l => l[as.length]?) e2
      simp only [List.getElem?_append_right (Nat.le_refl _), Nat.sub_self, List.getElem?_cons_zero] at g
      rw [List.getElem?_eq_some_iff] at g
      obtain ⟨g1, g2⟩ := g
      rw [List.getElem_range] at g2
      exact g2
    have g := congrArg (fun l => l[i]?) e2
    simp only [List.getElem?_append_left (show i < as.length by omega)] at g
    rw [List.getElem?_range (by rw [hr.2]; omega)] at g
    exact List.mem_of_getElem? g.symm
  have h7 := h5 i h6
  have h8 := (wd_at hq hr i).1
  simp only [Bool.not_eq_true', decide_eq_false_iff_not] at h7
  omega
theorem headL_none (hq : LetQ q) (hr : Wd q n r) (e : headL r = none) : r = zrow n := by
  unfold headL at e
  refine row_ext (by rw [hr.2, zrow_len]) fun p hp => ?_
  have h1 := List.find?_eq_none.mp e p (List.mem_range.mpr hp)
  have h2 := (wd_at hq hr p).1
  rw [zrow_at]
  simp only [decide_eq_true_eq] at h1
  omega
theorem rstep_inv (hq : LetQ q) (hL : AllR q n Ls) (hk : Ech q n Ks) (e : SpE q n (Ks.map (·.2)) Ls) (hr : Wd q n r) : Ech q n (rstep q Ks r) ∧ SpE q n ((rstep q Ks r).map (·.2)) (Ls ++ [r]) := by
  obtain ⟨i1, i2, _, i4⟩ := fold_crs hq hk hr
  have hA : AllR q n (Ls ++ [r]) := fun x hx => (List.mem_append.mp hx).elim (hL x) fun h => by rw [List.mem_singleton.mp h]; exact hr
  unfold rstep
  cases hh : headL (Ks.foldl (crs q) r) with
  | none =>
    dsimp only
    refine ⟨hk, fun x hx => (e.1 x hx).mono fun y hy => List.mem_append_left _ hy, fun x hx => ?_⟩
    rcases List.mem_append.mp hx with hx | hx
    · exact e.2 x hx
    · rw [List.mem_singleton.mp hx]
      refine (i4 (Ks.map (·.2)) hk.rows fun y hy => .row hq hk.rows (List.mem_map_of_mem (f := (·.2)) hy)).mp ?_
      rw [headL_none hq i1 hh]
      exact .zero
  | some h =>
    dsimp only
    obtain ⟨l1, l2⟩ := headL_some hq i1 hh
    generalize Ks.foldl (crs q) r = r' at i1 i2 i4 l2 hh
    have hE : Ech q n (Ks ++ [(h, r')]) := by
      refine ⟨fun x hx => ?_, List.pairwise_append.mpr ⟨hk.two, List.pairwise_singleton _ _, fun x hx y hy => ?_⟩⟩
      · rcases List.mem_append.mp hx with hx | hx
        · exact hk.one x hx
        · rw [List.mem_singleton.mp hx]; exact ⟨i1, l1, l2⟩
      · rw [List.mem_singleton.mp hy]; exact i2 x hx
    refine ⟨hE, fun x hx => ?_, fun x hx => ?_⟩
    · obtain ⟨y, hy, rfl⟩ := List.mem_map.mp hx
      rcases List.mem_append.mp hy with hy | hy
      · exact (e.1 _ (List.mem_map_of_mem (f := (·.2)) hy)).mono fun z hz => List.mem_append_left _ hz
      · rw [List.mem_singleton.mp hy]
        exact (i4 (Ls ++ [r]) hA fun z hz => (e.1 _ (List.mem_map_of_mem (f := (·.2)) hz)).mono fun z hz => List.mem_append_left _ hz).mpr (.row hq hA (List.mem_append_right _ (List.mem_singleton.mpr rfl)))
    · rcases List.mem_append.mp hx with hx | hx
      · exact (e.2 x hx).mono fun z hz => by rw [List.map_append]; exact List.mem_append_left _ hz
      · rw [List.mem_singleton.mp hx]
        refine (i4 _ hE.rows fun z hz => .row hq hE.rows (by rw [List.map_append]; exact List.mem_append_left _ (List.mem_map_of_mem (f := (·.2)) hz))).mp (.row hq hE.rows ?_)
        rw [List.map_append]
        exact List.mem_append_right _ (List.mem_singleton.mpr rfl)
theorem rank_inv (hq : LetQ q) : ∀ (Ms : List (List Int)) {Ls : List (List Int)} {Ks : List (Nat × List Int)}, AllR q n Ls → AllR q n Ms → Ech q n Ks → SpE q n (Ks.map (·.2)) Ls → Ech q n (Ms.foldl (rstep q) Ks) ∧ SpE q n ((Ms.foldl (rstep q) Ks).map (·.2)) (Ls ++ Ms)
  | [], Ls, Ks, _, _, hk, e => by rw [List.append_nil]; exact ⟨hk, e⟩
  | r :: Ms, Ls, Ks, hL, hM, hk, e => by
    have hr : Wd q n r := hM r List.mem_cons_self
    obtain ⟨k1, e1⟩ := rstep_inv hq hL hk e hr
    have hA : AllR q n (Ls ++ [r]) := fun x hx => (List.mem_append.mp hx).elim (hL x) fun h => by rw [List.mem_singleton.mp h]; exact hr
    have z := rank_inv hq Ms hA (fun x hx => hM x (List.mem_cons_of_mem _ hx)) k1 e1
    rw [List.append_assoc] at z
    exact z
theorem sp_cons (hq : LetQ q) {k : List Int} (hk : Wd q n k) (hL : AllR q n Ls) (hw : Sp q n (k :: Ls) w) : ∃ c v, IsLet q c ∧ Sp q n Ls v ∧ w = vsum q (vtim q c k) v := by
  induction hw with
  | zero => exact ⟨0, zrow n, let_zero hq, .zero, by rw [zero_vtim hq hk, sum_zrow hq (wd_zero hq)]⟩
  | @add u r a _ hr ha ih =>
    obtain ⟨c, v, hc, hv, rfl⟩ := ih
    have wv := hv.wd hq hL
    have wc := wd_tim hq hc hk
    rcases List.mem_cons.mp hr with rfl | hr
    · refine ⟨lsum q c a, v, let_sum hq hc ha, hv, ?_⟩
      have wa := wd_tim hq ha hk
      rw [vsum_assoc hq wc wv wa, vsum_comm hq wv wa, ← vsum_assoc hq wc wa wv, sum_vtim hq hc ha hk]
    · exact ⟨c, _, hc, .add hv hr ha, vsum_assoc hq wc wv (wd_tim hq ha (hL r hr))⟩
theorem ech_lead (hq : LetQ q) : ∀ {Ks : List (Nat × List Int)} {w : List Int} {p : Nat}, Ech q n Ks → Sp q n (Ks.map (·.2)) w → Lead w p → ∃ x ∈ Ks, x.1 = p
  | [], w, p, _, hw, hl => by
    have e : w.getD p 0 = 0 := hw.zero_at hq (fun r hr => by cases hr) fun r hr => by cases hr
    exact absurd e hl.2
  | k :: Ks, w, p, h, hw, hl => by
    have hk := h.one k List.mem_cons_self
    have hp := (List.pairwise_cons.mp h.two).1
    obtain ⟨c, v, hc, hv, rfl⟩ := sp_cons hq hk.1 h.tail.rows hw
    have wv := hv.wd hq h.tail.rows
    have wc := wd_tim hq hc hk.1
    have ats : ∀ i, (vsum q (vtim q c k.2) v).getD i 0 = lsum q (ltim q c (k.2.getD i 0)) (v.getD i 0) := fun i => by rw [at_sum hq wc wv, vtim_at hq hc]
    have fin : Lead v p → ∃ x ∈ k :: Ks, x.1 = p := fun z => by
      obtain ⟨x, hx, e⟩ := ech_lead hq h.tail hv z
      exact ⟨x, List.mem_cons_of_mem _ hx, e⟩
    rcases Nat.lt_trichotomy p k.1 with z | z | z
    · have at0 : ∀ i, i ≤ p → v.getD i 0 = (vsum q (vtim q c k.2) v).getD i 0 := fun i hi => by
        rw [ats i, hk.2.2.1 i (by omega), tim_zero hq hc, zero_sum hq (wd_at hq wv i)]
      exact fin ⟨fun i hi => by rw [at0 i (by omega)]; exact hl.1 i hi, by rw [at0 p (Nat.le_refl _)]; exact hl.2⟩
    · exact ⟨k, List.mem_cons_self, z.symm⟩
    · have v0 : v.getD k.1 0 = 0 := hv.zero_at hq h.tail.rows fun r hr => by
        obtain ⟨y, hy, rfl⟩ := List.mem_map.mp hr
        exact hp y hy
      have e1 := hl.1 k.1 z
      rw [ats, v0, sum_zero hq (let_tim hq hc (wd_at hq hk.1 _))] at e1
      have c0 : c = 0 := Classical.byContradiction fun c0 => tim_ne hq hc (wd_at hq hk.1 k.1) c0 hk.2.2.2 e1
      have e2 : vsum q (vtim q c k.2) v = v := by rw [c0, zero_vtim hq hk.1, zrow_sum hq wv]
      rw [e2] at hl
      exact fin hl
theorem le_of_sub : ∀ {as bs : List Nat}, as.Nodup → (∀ x ∈ as, x ∈ bs) → as.length ≤ bs.length
  | [], bs, _, _ => Nat.zero_le _
  | a :: as, bs, h, k => by
    obtain ⟨h1, h2⟩ := List.nodup_cons.mp h
    have ha := k a List.mem_cons_self
    have ih := le_of_sub (bs := bs.erase a) h2 fun x hx => (List.mem_erase_of_ne (fun e => h1 (by rw [← e]; exact hx))).mpr (k x (List.mem_cons_of_mem _ hx))
    rw [List.length_erase_of_mem ha] at ih
    have : 0 < bs.length := List.length_pos_of_mem ha
    rw [List.length_cons]
    omega
theorem ech_nodup (hq : LetQ q) : ∀ {Ks : List (Nat × List Int)}, Ech q n Ks → (Ks.map (·.1)).Nodup
  | [], _ => List.nodup_nil
  | k :: Ks, h => by
    refine List.nodup_cons.mpr ⟨fun hm => ?_, ech_nodup hq h.tail⟩
    obtain ⟨x, hx, e⟩ := List.mem_map.mp hm
    have h1 := (List.pairwise_cons.mp h.two).1 x hx
    have h2 := (h.one x (List.mem_cons_of_mem _ hx)).2.2.2
    rw [e] at h2
    exact h2 h1
theorem rr_nodup : ∀ {Ps : List (Nat × List Int)}, RR q n Ps → (Ps.map (·.1)).Nodup
  | [], _ => List.nodup_nil
  | k :: Ps, h => by
    refine List.nodup_cons.mpr ⟨fun hm => ?_, rr_nodup h.tail⟩
    obtain ⟨x, hx, e⟩ := List.mem_map.mp hm
    have h1 := ((List.pairwise_cons.mp h.two).1 x hx).1
    have e' : x.1 = k.1 := e
    omega
theorem rank_eq (hq : LetQ q) (hL : AllR q n Ls) : rankL q Ls = (gauss q n Ls).length := by
  obtain ⟨Ps, p1, p2, p3⟩ := gauss_gen hq hL
  obtain ⟨k1, k2⟩ := rank_inv hq Ls (Ls := []) (Ks := []) (fun r hr => by cases hr) hL ⟨(fun x hx => by cases hx), List.Pairwise.nil⟩ ⟨(fun r hr => by cases hr), fun r hr => by cases hr⟩
  rw [List.nil_append] at k2
  unfold rankL
  rw [p2, List.length_map]
  generalize Ls.foldl (rstep q) [] = Ks at k1 k2
  have h1 : ∀ x ∈ Ks.map (·.1), x ∈ Ps.map (·.1) := fun x hx => by
    obtain ⟨y, hy, rfl⟩ := List.mem_map.mp hx
    have s1 := (k2.1 _ (List.mem_map_of_mem (f := (·.2)) hy)).sub hq p1.rows p3.1
    obtain ⟨z, hz, e⟩ := lead_in hq p1 (k1.one y hy).1 (sp_in hq p1 s1) (k1.one y hy).2.2
    rw [← e]
    exact List.mem_map_of_mem (f := (·.1)) hz
  have h2 : ∀ x ∈ Ps.map (·.1), x ∈ Ks.map (·.1) := fun x hx => by
    obtain ⟨y, hy, rfl⟩ := List.mem_map.mp hx
    have s1 := (p3.2 _ (List.mem_map_of_mem (f := (·.2)) hy)).sub hq k1.rows k2.2
    obtain ⟨z, hz, e⟩ := ech_lead hq k1 s1 (rr_lead hq p1 hy)
    rw [← e]
    exact List.mem_map_of_mem (f := (·.1)) hz
  have l1 := le_of_sub (ech_nodup hq k1) h1
  have l2 := le_of_sub (rr_nodup p1) h2
  rw [List.length_map, List.length_map] at l1 l2
  omega
end
end LM
end
section
set_option maxRecDepth 100000
set_option maxHeartbeats 4000000
namespace LM
section
variable {q : Int} {n : Nat} {Ls Ms Cs : List (List Int)} {Ps Qs Rs Ss : List (Nat × List Int)} {u v w r : List Int} {a : Int}
theorem allR_app (hL : AllR q n Ls) (hM : AllR q n Ms) : AllR q n (Ls ++ Ms) := fun r hr => (List.mem_append.mp hr).elim (hL r) (hM r)
theorem allR_one (hr : Wd q n r) : AllR q n [r] := fun x hx => by rw [List.mem_singleton.mp hx]; exact hr
theorem sp_app (hq : LetQ q) (hL : AllR q n Ls) (hM : AllR q n Ms) (h : Sp q n (Ls ++ Ms) w) : ∃ u v, Sp q n Ls u ∧ Sp q n Ms v ∧ w = vsum q u v := by
  induction h with
  | zero => exact ⟨_, _, .zero, .zero, by rw [sum_zrow hq (wd_zero hq)]⟩
  | @add x r a _ hr ha ih =>
    obtain ⟨u, v, hu, hv, rfl⟩ := ih
    have wu := hu.wd hq hL
    have wv := hv.wd hq hM
    rcases List.mem_append.mp hr with hr | hr
    · have wr := wd_tim hq ha (hL r hr)
      refine ⟨_, v, .add hu hr ha, hv, ?_⟩
      rw [vsum_assoc hq wu wv wr, vsum_comm hq wv wr, ← vsum_assoc hq wu wr wv]
    · have wr := wd_tim hq ha (hM r hr)
      exact ⟨u, _, hu, .add hv hr ha, by rw [vsum_assoc hq wu wv wr]⟩
theorem let_m1 (hq : LetQ q) : IsLet q (lneg q 1) := let_neg hq (let_one hq)
theorem sum_back (hq : LetQ q) (hu : Wd q n u) (hv : Wd q n v) : vsum q (vsum q u v) (vtim q (lneg q 1) v) = u := by
  have h1 : vsum q v (vtim q (lneg q 1) v) = zrow n := by
    have e : vtim q 1 v = v := vtim_one hq hv.1
    have z : vsum q (vtim q 1 v) (vtim q (lneg q 1) v) = vtim q (lsum q 1 (lneg q 1)) v := sum_vtim hq (let_one hq) (let_m1 hq) hv
    rw [e, sum_neg hq (let_one hq), zero_vtim hq hv] at z
    exact z
  rw [vsum_assoc hq hu hv (wd_tim hq (let_m1 hq) hv), h1, sum_zrow hq hu]
theorem rank_of (hq : LetQ q) (hL : AllR q n Ls) (hM : AllR q n Ms) (e : SpE q n Ls Ms) : rankL q Ls = rankL q Ms := by
  rw [rank_eq hq hL, rank_eq hq hM, gauss_same hq hL hM e]
theorem rank_snoc (hq : LetQ q) (hL : AllR q n Ls) (hr : Wd q n r) : (Sp q n Ls r → rankL q (Ls ++ [r]) = rankL q Ls) ∧ (¬ Sp q n Ls r → rankL q (Ls ++ [r]) = rankL q Ls + 1) := by
  obtain ⟨k1, k2⟩ := rank_inv hq Ls (Ls := []) (Ks := []) (fun r hr => by cases hr) hL ⟨(fun x hx => by cases hx), List.Pairwise.nil⟩ ⟨(fun r hr => by cases hr), fun r hr => by cases hr⟩
  rw [List.nil_append] at k2
  refine ⟨fun h => rank_of hq (allR_app hL (allR_one hr)) hL ⟨fun x hx => ?_, fun x hx => .row hq (allR_app hL (allR_one hr)) (List.mem_append_left _ hx)⟩, fun h => ?_⟩
  · rcases List.mem_append.mp hx with hx | hx
    · exact .row hq hL hx
    · rw [List.mem_singleton.mp hx]
      exact h
  · unfold rankL
    rw [List.foldl_append]
    generalize Ls.foldl (rstep q) [] = Ks at k1 k2
    show (rstep q Ks r).length = _
    obtain ⟨i1, _, _, i4⟩ := fold_crs hq k1 hr
    unfold rstep
    cases hh : headL (Ks.foldl (crs q) r) with
    | none =>
      refine absurd ?_ h
      refine (i4 Ls hL fun x hx => k2.1 _ (List.mem_map_of_mem (f := (·.2)) hx)).mp ?_
      rw [headL_none hq i1 hh]
      exact .zero
    | some p => exact List.length_append
theorem rank_rr (hq : LetQ q) (h : RR q n Ps) : rankL q (Ps.map (·.2)) = Ps.length := by
  rw [rank_eq hq h.rows, gauss_red hq h fun x => Iff.rfl, List.length_map]
theorem rank_more (hq : LetQ q) : ∀ (Ms : List (List Int)) {Ls : List (List Int)}, AllR q n Ls → AllR q n Ms → rankL q Ls ≤ rankL q (Ls ++ Ms) ∧ (rankL q (Ls ++ Ms) = rankL q Ls ↔ ∀ r ∈ Ms, Sp q n Ls r)
  | [], Ls, hL, _ => by
    rw [List.append_nil]
    exact ⟨Nat.le_refl _, fun _ r hr => (by cases hr), fun _ => rfl⟩
  | r :: Ms, Ls, hL, hM => by
    have hr : Wd q n r := hM r List.mem_cons_self
    have hM' : AllR q n Ms := fun x hx => hM x (List.mem_cons_of_mem _ hx)
    have hA := allR_app hL (allR_one hr)
    obtain ⟨i1, i2⟩ := rank_more hq Ms hA hM'
    rw [List.append_assoc] at i1 i2
    change rankL q (Ls ++ [r]) ≤ rankL q (Ls ++ r :: Ms) at i1
    change rankL q (Ls ++ r :: Ms) = rankL q (Ls ++ [r]) ↔ _ at i2
    obtain ⟨s1, s2⟩ := rank_snoc hq hL hr
    by_cases c : Sp q n Ls r
    · rw [s1 c] at i1 i2
      refine ⟨i1, i2.trans ⟨fun h x hx => ?_, fun h x hx => (h x (List.mem_cons_of_mem _ hx)).mono fun y hy => List.mem_append_left _ hy⟩⟩
      rcases List.mem_cons.mp hx with rfl | hx
      · exact c
      · refine (h x hx).sub hq hL fun y hy => ?_
        rcases List.mem_append.mp hy with hy | hy
        · exact .row hq hL hy
        · rw [List.mem_singleton.mp hy]
          exact c
    · rw [s2 c] at i1
      exact ⟨by omega, fun h => by omega, fun h => absurd (h r List.mem_cons_self) c⟩
theorem rank_free (hq : LetQ q) : ∀ (Ms : List (List Int)) {Ls : List (List Int)}, AllR q n Ls → AllR q n Ms → (∀ as r bs, Ms = as ++ r :: bs → ¬ Sp q n (Ls ++ as) r) → rankL q (Ls ++ Ms) = rankL q Ls + Ms.length
  | [], Ls, hL, _, _ => by rw [List.append_nil]; rfl
  | r :: Ms, Ls, hL, hM, h => by
    have hr : Wd q n r := hM r List.mem_cons_self
    have hA := allR_app hL (allR_one hr)
    have e := rank_free hq Ms hA (fun x hx => hM x (List.mem_cons_of_mem _ hx)) fun as x bs e => by
      have z := h (r :: as) x bs (by rw [e]; rfl)
      rw [List.append_assoc]
      exact z
    rw [List.append_assoc] at e
    have s := (rank_snoc hq hL hr).2 (by have z := h [] r Ms rfl; rw [List.append_nil] at z; exact z)
    rw [s] at e
    show rankL q (Ls ++ r :: Ms) = rankL q Ls + (Ms.length + 1)
    have e' : rankL q (Ls ++ r :: Ms) = rankL q Ls + 1 + Ms.length := e
    omega
theorem rank_common (hq : LetQ q) (hA : AllR q n Ls) (hB : AllR q n Ms) (hC : AllR q n Cs) (ca : ∀ r ∈ Cs, Sp q n Ls r) (cb : ∀ r ∈ Cs, Sp q n Ms r) (cc : ∀ w, Sp q n Ls w → Sp q n Ms w → Sp q n Cs w) :
    rankL q Cs + rankL q (Ms ++ Ls) = rankL q Ls + rankL q Ms := by
  have key : ∀ (Xs : List (List Int)) (Ys : List (List Int)), (∀ r ∈ Ys, Sp q n Ls r) → (∀ r ∈ Xs, Sp q n Ls r) → AllR q n Ys → AllR q n Xs →
      rankL q ((Cs ++ Ys) ++ Xs) + rankL q (Ms ++ Ys) = rankL q (Cs ++ Ys) + rankL q ((Ms ++ Ys) ++ Xs) := by
    intro Xs
    induction Xs with
    | nil =>
      intro Ys _ _ _ _
      rw [List.append_nil, List.append_nil]
    | cons x Xs ih =>
      intro Ys hy hx wy wx
      have wx0 : Wd q n x := wx x List.mem_cons_self
      have z := ih (Ys ++ [x]) (fun r hr => (List.mem_append.mp hr).elim (hy r) fun h => by rw [List.mem_singleton.mp h]; exact hx x List.mem_cons_self) (fun r hr => hx r (List.mem_cons_of_mem _ hr))
        (allR_app wy (allR_one wx0)) fun r hr => wx r (List.mem_cons_of_mem _ hr)
      have e : ∀ Zs : List (List Int), (Zs ++ (Ys ++ [x])) ++ Xs = (Zs ++ Ys) ++ x :: Xs := fun Zs => by simp
      rw [e, e, ← List.append_assoc, ← List.append_assoc] at z
      have wC := allR_app hC wy
      have wM := allR_app hB wy
      obtain ⟨c1, c2⟩ := rank_snoc hq wC wx0
      obtain ⟨m1, m2⟩ := rank_snoc hq wM wx0
      have iff : Sp q n (Cs ++ Ys) x ↔ Sp q n (Ms ++ Ys) x := by
        constructor
        · intro h
          refine h.sub hq wM fun r hr => ?_
          rcases List.mem_append.mp hr with hr | hr
          · exact (cb r hr).mono fun y hy => List.mem_append_left _ hy
          · exact .row hq wM (List.mem_append_right _ hr)
        · intro h
          obtain ⟨u, v, hu, hv, rfl⟩ := sp_app hq hB wy h
          have wu := hu.wd hq hB
          have wv := hv.wd hq wy
          have sv : Sp q n Ls v := hv.sub hq hA hy
          have su : Sp q n Ls u := by
            have t := (hx _ List.mem_cons_self).sum hq hA (sv.tim hq hA (let_m1 hq))
            rw [sum_back hq wu wv] at t
            exact t
          exact ((cc u su hu).mono fun y hy => List.mem_append_left _ hy).sum hq wC (hv.mono fun y hy => List.mem_append_right _ hy)
      by_cases c : Sp q n (Cs ++ Ys) x
      · rw [c1 c, m1 (iff.mp c)] at z
        exact z
      · rw [c2 c, m2 (fun h => c (iff.mpr h))] at z
        omega
  have k := key Ls [] (fun r hr => by cases hr) (fun r hr => .row hq hA hr) (fun r hr => by cases hr) hA
  rw [List.append_nil, List.append_nil] at k
  have e : rankL q (Cs ++ Ls) = rankL q Ls := rank_of hq (allR_app hC hA) hA ⟨fun r hr => (List.mem_append.mp hr).elim (ca r) fun h => .row hq hA h, fun r hr => .row hq (allR_app hC hA) (List.mem_append_right _ hr)⟩
  rw [e] at k
  omega
def frees (n : Nat) (Ps : List (Nat × List Int)) : List Nat := (List.range n).filter fun p => !(Ps.any fun x => x.1 == p)
def chks (q : Int) (n : Nat) (Ps : List (Nat × List Int)) : List (List Int) := (frees n Ps).map fun p => chk q n p Ps
theorem mem_frees {p : Nat} : p ∈ frees n Ps ↔ p < n ∧ ∀ x ∈ Ps, x.1 ≠ p := by
  unfold frees
  rw [List.mem_filter, List.mem_range]
  refine and_congr Iff.rfl ?_
  rw [Bool.not_eq_true', List.any_eq_false]
  constructor
  · intro h x hx e
    exact h x hx (beq_iff_eq.mpr e)
  · intro h x hx e
    exact h x hx (beq_iff_eq.mp e)
theorem chk_wd (hq : LetQ q) (h : RR q n Ps) (p : Nat) : Wd q n (chk q n p Ps) := ⟨chk_row hq p (fun x hx => (h.one x hx).1) (zset_row hq p), by
  unfold chk
  rw [chk_len, List.length_set, zrow_len]⟩
theorem chks_rows (hq : LetQ q) (h : RR q n Ps) : AllR q n (chks q n Ps) := fun r hr => by
  obtain ⟨p, _, rfl⟩ := List.mem_map.mp hr
  exact chk_wd hq h p
theorem sp_iff (hq : LetQ q) (h : RR q n Ps) (hw : Wd q n w) : Sp q n (Ps.map (·.2)) w ↔ ∀ c ∈ chks q n Ps, dot q c w = 0 := by
  constructor
  · intro k c hc
    obtain ⟨p, hp, rfl⟩ := List.mem_map.mp hc
    obtain ⟨p1, p2⟩ := mem_frees.mp hp
    exact (in_iff hq h hw.1 hw.2).mp (sp_in hq h k) p p1 p2
  · intro k
    refine in_sp hq h hw.1 ((in_iff hq h hw.1 hw.2).mpr fun p p1 p2 => k _ ?_)
    exact List.mem_map_of_mem (f := fun p => chk q n p Ps) (mem_frees.mpr ⟨p1, p2⟩)
theorem chks_iff (hq : LetQ q) (h : RR q n Ps) (hw : Wd q n w) : Sp q n (chks q n Ps) w ↔ ∀ r ∈ Ps.map (·.2), dot q r w = 0 := by
  constructor
  · intro k r hr
    refine sp_dot hq (chks_rows hq h) (h.rows r hr).1 (fun c hc => ?_) k
    rw [dot_comm hq (h.rows r hr).1 (chks_rows hq h c hc).1]
    exact (sp_iff hq h (h.rows r hr)).mp (.row hq h.rows hr) c hc
  · intro k
    obtain ⟨Qs, g1, _, g3⟩ := gauss_gen hq (chks_rows hq h)
    refine Sp.sub hq (chks_rows hq h) g3.2 ((sp_iff hq g1 hw).mpr fun c hc => ?_)
    have wc := chks_rows hq g1 c hc
    have sc : Sp q n (Ps.map (·.2)) c := (sp_iff hq h wc).mpr fun d hd => by
      have wd := chks_rows hq h d hd
      rw [dot_comm hq wd.1 wc.1]
      refine sp_dot hq g1.rows wc.1 (fun r hr => ?_) (g3.1 d hd)
      exact (sp_iff hq g1 (g1.rows r hr)).mp (.row hq g1.rows hr) c hc
    rw [dot_comm hq wc.1 hw.1]
    refine sp_dot hq h.rows hw.1 (fun r hr => ?_) sc
    rw [dot_comm hq hw.1 (h.rows r hr).1]
    exact k r hr
structure Mir (q : Int) (n : Nat) (Ps Qs : List (Nat × List Int)) : Prop where
  p : RR q n Ps
  r : RR q n Qs
  e : SpE q n (chks q n Ps) (Qs.map (·.2))
theorem Mir.iff (hq : LetQ q) (m : Mir q n Ps Qs) (hw : Wd q n w) : Sp q n (Qs.map (·.2)) w ↔ ∀ r ∈ Ps.map (·.2), dot q r w = 0 :=
  (show Sp q n (Qs.map (·.2)) w ↔ Sp q n (chks q n Ps) w from ⟨fun h => h.sub hq (chks_rows hq m.p) m.e.2, fun h => h.sub hq m.r.rows m.e.1⟩).trans (chks_iff hq m.p hw)
theorem Mir.iff' (hq : LetQ q) (m : Mir q n Ps Qs) (hw : Wd q n w) : Sp q n (Ps.map (·.2)) w ↔ ∀ r ∈ Qs.map (·.2), dot q r w = 0 := by
  rw [sp_iff hq m.p hw]
  constructor
  · intro k r hr
    rw [dot_comm hq (m.r.rows r hr).1 hw.1]
    refine sp_dot hq (chks_rows hq m.p) hw.1 (fun c hc => ?_) (m.e.2 r hr)
    rw [dot_comm hq hw.1 (chks_rows hq m.p c hc).1]
    exact k c hc
  · intro k c hc
    rw [dot_comm hq (chks_rows hq m.p c hc).1 hw.1]
    refine sp_dot hq m.r.rows hw.1 (fun r hr => ?_) (m.e.1 c hc)
    rw [dot_comm hq hw.1 (m.r.rows r hr).1]
    exact k r hr
theorem mir_of (hq : LetQ q) (h : RR q n Ps) : ∃ Qs, Mir q n Ps Qs ∧ gauss q n (chks q n Ps) = Qs.map (·.2) := by
  obtain ⟨Qs, g1, g2, g3⟩ := gauss_gen hq (chks_rows hq h)
  exact ⟨Qs, ⟨h, g1, g3⟩, g2⟩
theorem Mir.back (hq : LetQ q) (m : Mir q n Ps Qs) : gauss q n (chks q n Qs) = Ps.map (·.2) := by
  refine gauss_rr hq m.p (chks_rows hq m.r) ⟨fun r hr => ?_, fun c hc => ?_⟩
  · exact (chks_iff hq m.r (m.p.rows r hr)).mpr ((m.iff' hq (m.p.rows r hr)).mp (.row hq m.p.rows hr))
  · have wc := chks_rows hq m.r c hc
    exact (m.iff' hq wc).mpr ((chks_iff hq m.r wc).mp (.row hq (chks_rows hq m.r) hc))
theorem Mir.symm (hq : LetQ q) (m : Mir q n Ps Qs) : Mir q n Qs Ps where
  p := m.r
  r := m.p
  e := by
    refine ⟨fun c hc => ?_, fun r hr => ?_⟩
    · have wc := chks_rows hq m.r c hc
      exact (m.iff' hq wc).mpr ((chks_iff hq m.r wc).mp (.row hq (chks_rows hq m.r) hc))
    · exact (chks_iff hq m.r (m.p.rows r hr)).mpr ((m.iff' hq (m.p.rows r hr)).mp (.row hq m.p.rows hr))
theorem fold_at {p i : Nat} : ∀ {Ps : List (Nat × List Int)} {c : List Int}, (∀ x ∈ Ps, x.1 ≠ i) → (Ps.foldl (fun c x => c.set x.1 (lneg q (x.2.getD p 0))) c).getD i 0 = c.getD i 0
  | [], _, _ => rfl
  | x :: Ps, c, h => by
    refine (fold_at (Ps := Ps) fun y hy => h y (List.mem_cons_of_mem _ hy)).trans ?_
    rw [List.getD_eq_getElem?_getD, List.getD_eq_getElem?_getD, List.getElem?_set_ne (h x List.mem_cons_self)]
theorem chk_one {p : Nat} (hp : p ∈ frees n Ps) : (chk q n p Ps).getD p 0 = 1 := by
  obtain ⟨p1, p2⟩ := mem_frees.mp hp
  unfold chk
  rw [fold_at p2, List.getD_eq_getElem?_getD, List.getElem?_set_self (by rw [zrow_len]; exact p1)]
  rfl
theorem chk_zero {p i : Nat} (hi : i ∈ frees n Ps) (ne : i ≠ p) : (chk q n p Ps).getD i 0 = 0 := by
  obtain ⟨p1, p2⟩ := mem_frees.mp hi
  unfold chk
  rw [fold_at p2]
  exact zset_at p i ne
theorem frees_nodup : (frees n Ps).Nodup := List.Nodup.sublist List.filter_sublist List.nodup_range
theorem filter_two {α : Type} (p : α → Bool) : ∀ l : List α, (l.filter p).length + (l.filter fun x => !(p x)).length = l.length
  | [] => rfl
  | x :: l => by
    have ih := filter_two p l
    rw [List.filter_cons, List.filter_cons]
    cases p x <;> simp <;> omega
theorem frees_len (h : RR q n Ps) : (frees n Ps).length + Ps.length = n := by
  have e := filter_two (fun p => Ps.any fun x => x.1 == p) (List.range n)
  rw [List.length_range] at e
  have e1 : ((List.range n).filter fun p => Ps.any fun x => x.1 == p).length = (Ps.map (·.1)).length := by
    refine Nat.le_antisymm (le_of_sub (List.Nodup.sublist List.filter_sublist List.nodup_range) fun p hp => ?_) (le_of_sub (rr_nodup h) fun p hp => ?_)
    · obtain ⟨_, hp⟩ := List.mem_filter.mp hp
      obtain ⟨x, hx, ex⟩ := List.any_eq_true.mp hp
      rw [← beq_iff_eq.mp ex]
      exact List.mem_map_of_mem (f := (·.1)) hx
    · obtain ⟨x, hx, rfl⟩ := List.mem_map.mp hp
      exact List.mem_filter.mpr ⟨List.mem_range.mpr (h.one x hx).2.2.1, List.any_eq_true.mpr ⟨x, hx, beq_iff_eq.mpr rfl⟩⟩
  rw [e1, List.length_map] at e
  unfold frees
  omega
theorem chks_rank (hq : LetQ q) (h : RR q n Ps) : rankL q (chks q n Ps) = (frees n Ps).length := by
  have e := rank_free hq (n := n) (chks q n Ps) (Ls := []) (fun r hr => by cases hr) (chks_rows hq h) fun as r bs e => ?_
  · rw [List.nil_append] at e
    rw [e]
    unfold chks
    rw [List.length_map]
    exact Nat.zero_add _
  · rw [List.nil_append]
    obtain ⟨ps, p, ts, e1, e2, rfl⟩ : ∃ ps p ts, frees n Ps = ps ++ p :: ts ∧ as = ps.map (fun p => chk q n p Ps) ∧ r = chk q n p Ps := by
      unfold chks at e
      obtain ⟨ps, ts', f1, f2, f3⟩ := List.map_eq_append_iff.mp e
      obtain ⟨p, ts, g1, g2, g3⟩ := List.map_eq_cons_iff.mp f3
      exact ⟨ps, p, ts, by rw [f1, g1], f2.symm, g2.symm⟩
    intro k
    have hp : p ∈ frees n Ps := by rw [e1]; exact List.mem_append_right _ List.mem_cons_self
    have nd := frees_nodup (n := n) (Ps := Ps)
    rw [e1] at nd
    have wA : AllR q n as := fun x hx => chks_rows hq h x (by rw [e]; exact List.mem_append_left _ hx)
    have z := k.zero_at hq wA (i := p) fun x hx => by
      rw [e2] at hx
      obtain ⟨p', hp', rfl⟩ := List.mem_map.mp hx
      refine chk_zero hp fun z => ?_
      subst z
      exact (List.nodup_append.mp nd).2.2 p hp' p List.mem_cons_self rfl
    rw [chk_one hp] at z
    exact absurd z (by decide)
theorem Mir.len (hq : LetQ q) (m : Mir q n Ps Qs) : Qs.length + Ps.length = n := by
  have e := chks_rank hq m.p
  rw [rank_of hq (chks_rows hq m.p) m.r.rows m.e, rank_rr hq m.r] at e
  rw [e]
  exact frees_len m.p
structure Com (q : Int) (n : Nat) (Ps Rs Cs : List (Nat × List Int)) : Prop where
  a : RR q n Ps
  b : RR q n Rs
  c : RR q n Cs
  e : ∀ w, Wd q n w → (Sp q n (Cs.map (·.2)) w ↔ Sp q n (Ps.map (·.2)) w ∧ Sp q n (Rs.map (·.2)) w)
theorem Com.symm {Cs : List (Nat × List Int)} (h : Com q n Ps Rs Cs) : Com q n Rs Ps Cs := ⟨h.b, h.a, h.c, fun w hw => (h.e w hw).trans And.comm⟩
theorem Com.same (hq : LetQ q) {Cs Ds : List (Nat × List Int)} (h : Com q n Ps Rs Cs) (k : Com q n Ps Rs Ds) : Cs.map (·.2) = Ds.map (·.2) :=
  rr_one hq h.c k.c ⟨fun r hr => (k.e r (h.c.rows r hr)).mpr ((h.e r (h.c.rows r hr)).mp (.row hq h.c.rows hr)), fun r hr => (h.e r (k.c.rows r hr)).mpr ((k.e r (k.c.rows r hr)).mp (.row hq k.c.rows hr))⟩
theorem Com.rank (hq : LetQ q) {Cs : List (Nat × List Int)} (h : Com q n Ps Rs Cs) : Cs.length + rankL q (Ps.map (·.2) ++ Rs.map (·.2)) = Ps.length + Rs.length := by
  have ea := fun r hr => (h.e r (h.c.rows r hr)).mp (.row hq h.c.rows hr)
  have e := rank_common hq h.b.rows h.a.rows h.c.rows (fun r hr => (ea r hr).2) (fun r hr => (ea r hr).1) fun w h1 h2 => (h.e w (h1.wd hq h.b.rows)).mpr ⟨h2, h1⟩
  rw [rank_rr hq h.a, rank_rr hq h.b, rank_rr hq h.c] at e
  omega
theorem Com.rankA (hq : LetQ q) {Cs : List (Nat × List Int)} (h : Com q n Ps Rs Cs) : rankL q (Ps.map (·.2) ++ Cs.map (·.2)) = Ps.length := by
  rw [(rank_more hq _ h.a.rows h.c.rows).2.mpr fun r hr => ((h.e r (h.c.rows r hr)).mp (.row hq h.c.rows hr)).1, rank_rr hq h.a]
theorem com_of (hq : LetQ q) {Ms' Ns Ts Cs : List (Nat × List Int)} (m1 : Mir q n Ps Ms') (m2 : Mir q n Rs Ns) (ht : RR q n Ts) (et : SpE q n (Ms'.map (·.2) ++ Ns.map (·.2)) (Ts.map (·.2))) (m3 : Mir q n Ts Cs) : Com q n Ps Rs Cs where
  a := m1.p
  b := m2.p
  c := m3.r
  e w hw := by
    have wA := allR_app m1.r.rows m2.r.rows
    rw [m3.iff hq hw, m1.iff' hq hw, m2.iff' hq hw]
    have step : (∀ r ∈ Ts.map (·.2), dot q r w = 0) ↔ ∀ r ∈ Ms'.map (·.2) ++ Ns.map (·.2), dot q r w = 0 := by
      constructor
      · intro k r hr
        rw [dot_comm hq (wA r hr).1 hw.1]
        refine sp_dot hq ht.rows hw.1 (fun t ht' => ?_) (et.1 r hr)
        rw [dot_comm hq hw.1 (ht.rows t ht').1]
        exact k t ht'
      · intro k t ht'
        rw [dot_comm hq (ht.rows t ht').1 hw.1]
        refine sp_dot hq wA hw.1 (fun r hr => ?_) (et.2 t ht')
        rw [dot_comm hq hw.1 (wA r hr).1]
        exact k r hr
    rw [step]
    exact ⟨fun k => ⟨fun r hr => k r (List.mem_append_left _ hr), fun r hr => k r (List.mem_append_right _ hr)⟩, fun ⟨k1, k2⟩ r hr => (List.mem_append.mp hr).elim (k1 r) (k2 r)⟩
theorem within_rank (hq : LetQ q) (h : RR q n Ps) (k : RR q n Rs) : rankL q (Ps.map (·.2) ++ Rs.map (·.2)) = Rs.length ↔ ∀ r ∈ Ps.map (·.2), Sp q n (Rs.map (·.2)) r := by
  have e : rankL q (Ps.map (·.2) ++ Rs.map (·.2)) = rankL q (Rs.map (·.2) ++ Ps.map (·.2)) := rank_of hq (allR_app h.rows k.rows) (allR_app k.rows h.rows) (SpE.mem hq (allR_app h.rows k.rows) (allR_app k.rows h.rows) fun r => by
    rw [List.mem_append, List.mem_append]
    exact Or.comm)
  rw [e]
  have z := (rank_more hq _ k.rows h.rows).2
  rw [rank_rr hq k] at z
  exact z
theorem within_mir (hq : LetQ q) {Ms' Ns : List (Nat × List Int)} (m1 : Mir q n Ps Ms') (m2 : Mir q n Rs Ns) : (∀ r ∈ Ms'.map (·.2), Sp q n (Ns.map (·.2)) r) ↔ ∀ r ∈ Rs.map (·.2), Sp q n (Ps.map (·.2)) r := by
  constructor
  · intro h r hr
    have wr := m2.p.rows r hr
    refine (m1.iff' hq wr).mpr fun c hc => ?_
    have wc := m1.r.rows c hc
    rw [dot_comm hq wc.1 wr.1]
    exact (m2.iff hq wc).mp (h c hc) r hr
  · intro h c hc
    have wc := m1.r.rows c hc
    refine (m2.iff hq wc).mpr fun r hr => ?_
    have wr := m2.p.rows r hr
    rw [dot_comm hq wr.1 wc.1]
    exact (m1.iff' hq wr).mp (h r hr) c hc
end
end LM
namespace LM
section
variable {q : Int} {n : Nat} {Ps Qs Rs : List (Nat × List Int)}
theorem Mir.uniq (hq : LetQ q) {Qs' : List (Nat × List Int)} (m : Mir q n Ps Qs) (m' : Mir q n Ps Qs') : Qs.map (·.2) = Qs'.map (·.2) := rr_one hq m.r m'.r (m.e.symm.trans hq m.r.rows m'.r.rows m'.e)
theorem mir_sum (hq : LetQ q) {Ms Ns Ts Us Cs : List (Nat × List Int)} (m1 : Mir q n Ps Ms) (m2 : Mir q n Rs Ns) (et : SpE q n (Ps.map (·.2) ++ Rs.map (·.2)) (Ts.map (·.2))) (m3 : Mir q n Ts Us) (c : Com q n Ms Ns Cs) : Us.map (·.2) = Cs.map (·.2) := by
  have wA := allR_app m1.p.rows m2.p.rows
  have key : ∀ w, Wd q n w → (Sp q n (Us.map (·.2)) w ↔ Sp q n (Cs.map (·.2)) w) := fun w hw => by
    rw [c.e w hw, m3.iff hq hw, m1.iff hq hw, m2.iff hq hw]
    constructor
    · intro k
      have all : ∀ r ∈ Ps.map (·.2) ++ Rs.map (·.2), dot q r w = 0 := fun r hr => by
        rw [dot_comm hq (wA r hr).1 hw.1]
        refine sp_dot hq m3.p.rows hw.1 (fun t ht' => ?_) (et.1 r hr)
        rw [dot_comm hq hw.1 (m3.p.rows t ht').1]
        exact k t ht'
      exact ⟨fun r hr => all r (List.mem_append_left _ hr), fun r hr => all r (List.mem_append_right _ hr)⟩
    · rintro ⟨k1, k2⟩ t ht'
      rw [dot_comm hq (m3.p.rows t ht').1 hw.1]
      refine sp_dot hq wA hw.1 (fun r hr => ?_) (et.2 t ht')
      rw [dot_comm hq hw.1 (wA r hr).1]
      exact (List.mem_append.mp hr).elim (k1 r) (k2 r)
  exact rr_one hq m3.r c.c ⟨fun r hr => (key r (m3.r.rows r hr)).mp (.row hq m3.r.rows hr), fun r hr => (key r (c.c.rows r hr)).mpr (.row hq c.c.rows hr)⟩
end
end LM
end
section
set_option maxRecDepth 100000
set_option maxHeartbeats 4000000
namespace MB
open PySem PySem.Spec PyProof.Rows L2
section
variable {α : Type}
def one1 : List α → List α → List α
  | [], [a] => [a]
  | _, _ => []
def two2 : List α → List α → List α
  | [], [a, b] => [a, b]
  | _, _ => []
def two2s : List α → List α → List α
  | [], [a, b] => [b, a]
  | _, _ => []
end
theorem kb1 {K : PySem.W.Frag} {fd : FuncData} {p : Str} (h : ∀ a : Value, bindArgs fd ⟨[], [(p, a)]⟩ = pure [(p, a)]) :
    KBinds K fd [p] [p] one1 one1 where
  to := fun s us ws _ hl => by
    match us, ws, hl with
    | [], [a], _ => exact .of_eq (h a)
  rel := fun {vs us zs ws} r rz => by
    cases r with
    | nil =>
      cases rz with
      | nil => exact .nil
      | cons r1 r2 =>
        cases r2 with
        | nil => exact .cons r1 .nil
        | cons _ _ => exact .nil
    | cons _ _ => exact .nil
theorem kb2 {K : PySem.W.Frag} {fd : FuncData} {p q : Str} (h : ∀ a b : Value, bindArgs fd ⟨[], [(p, a), (q, b)]⟩ = pure [(p, a), (q, b)]) :
    KBinds K fd [p, q] [p, q] two2 two2 where
  to := fun s us ws _ hl => by
    match us, ws, hl with
    | [], [a, b], _ => exact .of_eq (h a b)
  rel := fun {vs us zs ws} r rz => by
    cases r with
    | nil =>
      cases rz with
      | nil => exact .nil
      | cons r1 r2 =>
        cases r2 with
        | nil => exact .nil
        | cons r2 r3 =>
          cases r3 with
          | nil => exact .cons r1 (.cons r2 .nil)
          | cons _ _ => exact .nil
    | cons _ _ => exact .nil
theorem kb2s {K : PySem.W.Frag} {fd : FuncData} {p q : Str} (h : ∀ a b : Value, bindArgs fd ⟨[], [(q, b), (p, a)]⟩ = pure [(p, a), (q, b)]) :
    KBinds K fd [p, q] [q, p] two2s two2s where
  to := fun s us ws _ hl => by
    match us, ws, hl with
    | [], [a, b], _ => exact .of_eq (h b a)
  rel := fun {vs us zs ws} r rz => by
    cases r with
    | nil =>
      cases rz with
      | nil => exact .nil
      | cons r1 r2 =>
        cases r2 with
        | nil => exact .nil
        | cons r2 r3 =>
          cases r3 with
          | nil => exact .cons r2 (.cons r1 .nil)
          | cons _ _ => exact .nil
    | cons _ _ => exact .nil
section
variable {X : Cx} {k : Nat} {f : Addr} {fd : FuncData} {ps ks : List Str} {sp : Sp} {x : Str} {p pos : Pos} {kws : List Keyword} {tk : TA}
variable {g : List Value → List Value → List Value} {gV : List V → List V → List V}
theorem pe_callK0 (F : FnOk X.prog X.w X.K X.mg X.base CX0 k f fd ps sp) (hr : Room k X.A) (hg : Gl X x) (hm : X.mg x = some (.ref f))
    (hk : PySem.W.keepIn X.K (.ref f) = true) (hb : KBinds X.K fd ps ks g gV) (hkw : PK X kws tk)
    (hall : (backToKw pos (keywordEach kws X.env)).all (·.1.isSome) = true := by rfl)
    (hks : (backToKw pos (keywordEach kws X.env)).filterMap (·.1) = ks := by rfl)
    (hdb : (x == ("__debug__" : Str)) = false := by decide)
    (hpl : ((backTo pos (starEach [] X.env)).any (·.1) || (backToKw pos (keywordEach kws X.env)).any (·.1.isNone)) = false := by rfl) :
    PE X (.Call (.Name x p) [] kws pos) (fun σ H Q => tk σ H fun zs H1 => sp (gV [] zs) H1 Q E0) := by
  refine ⟨fun pins s σ H Q I h => ?_⟩
  refine wpAny_Call_Name_kw (ld_glob I hg hm ?_ hdb)
  refine PySem.W.callWith_KW0 (h₀ := X.base) I.ok.mod.kin hk hall (thn (hkw.run pos pins s σ H _ I h) fun ws s1 ⟨zs, H1, I1, rz, q1⟩ => ⟨I1.kIn, ?_⟩) hpl
  rw [hks]
  exact run_fnk F hr hb pass0 I1 .nil rz q1
end
end MB
end
section
set_option maxHeartbeats 1000000
namespace PM
def ev (x : Int) : List Int → Int
  | [] => 0
  | c :: r => c + x * ev x r
def nrm : List Int → Nat
  | [] => 0
  | c :: r => c.natAbs + nrm r
def isPoly (l : List Int) : Bool := l.getLast? != some 0
def trimL : List Int → List Int
  | [] => []
  | c :: r => match trimL r with
    | [] => if c = 0 then [] else [c]
    | d :: t => c :: d :: t
theorem ev_append (x : Int) (a b : List Int) : ev x (a ++ b) = ev x a + x ^ a.length * ev x b := by
  induction a with
  | nil => simp [ev]
  | cons c r ih =>
    simp only [List.cons_append, ev, List.length_cons, ih, Int.pow_succ]
    grind
theorem nrm_append (a b : List Int) : nrm (a ++ b) = nrm a + nrm b := by
  induction a with
  | nil => simp [nrm]
  | cons c r ih =>
    simp only [List.cons_append, nrm, ih]
    omega
theorem mem_nrm {l : List Int} {c : Int} (h : c ∈ l) : c.natAbs ≤ nrm l := by
  induction l with
  | nil => simp at h
  | cons d r ih =>
    rcases List.mem_cons.mp h with e | h
    · subst e
      simp only [nrm]
      omega
    · have := ih h
      simp only [nrm]
      omega
theorem ev_trimL (x : Int) (l : List Int) : ev x (trimL l) = ev x l := by
  induction l with
  | nil => rfl
  | cons c r ih =>
    simp only [trimL]
    cases h : trimL r with
    | nil =>
      rw [h] at ih
      simp only [ev] at ih ⊢
      by_cases e : c = 0
      · rw [if_pos e]
        simp [ev, ← ih, e]
      · rw [if_neg e]
        simp [ev, ← ih]
    | cons d t =>
      rw [h] at ih
      simp only [ev] at ih ⊢
      rw [ih]
theorem nrm_trimL (l : List Int) : nrm (trimL l) = nrm l := by
  induction l with
  | nil => rfl
  | cons c r ih =>
    simp only [trimL]
    cases h : trimL r with
    | nil =>
      rw [h] at ih
      simp only [nrm] at ih ⊢
      by_cases e : c = 0
      · rw [if_pos e]
        simp [nrm, ← ih, e]
      · rw [if_neg e]
        simp [nrm, ← ih]
    | cons d t =>
      rw [h] at ih
      simp only [nrm] at ih ⊢
      omega
theorem len_trimL (l : List Int) : (trimL l).length ≤ l.length := by
  induction l with
  | nil => exact Nat.le_refl _
  | cons c r ih =>
    simp only [trimL]
    cases h : trimL r with
    | nil =>
      by_cases e : c = 0
      · rw [if_pos e]
        simp
      · rw [if_neg e]
        simp
    | cons d t =>
      rw [h] at ih
      simp only [List.length_cons] at ih ⊢
      omega
theorem poly_trimL (l : List Int) : isPoly (trimL l) = true := by
  induction l with
  | nil => rfl
  | cons c r ih =>
    simp only [trimL]
    cases h : trimL r with
    | nil =>
      by_cases e : c = 0
      · rw [if_pos e]
        rfl
      · rw [if_neg e]
        simp [isPoly, e]
    | cons d t =>
      rw [h] at ih
      simp only [isPoly] at ih ⊢
      rw [List.getLast?_cons_cons]
      exact ih
theorem trimL_snoc (l : List Int) : trimL (l ++ [0]) = trimL l := by
  induction l with
  | nil => rfl
  | cons c r ih =>
    simp only [List.cons_append, trimL, ih]
theorem trimL_of_last {l : List Int} {c : Int} (h : c ≠ 0) : trimL (l ++ [c]) = l ++ [c] := by
  induction l with
  | nil => simp [trimL, h]
  | cons d r ih =>
    simp only [List.cons_append, trimL, ih]
    cases e : r ++ [c] with
    | nil => simp at e
    | cons a t => rfl
theorem poly_tail {c : Int} {r : List Int} (h : isPoly (c :: r) = true) : isPoly r = true := by
  cases r with
  | nil => rfl
  | cons d t =>
    simp only [isPoly, List.getLast?_cons_cons] at h ⊢
    exact h
def Small (B : Int) (l : List Int) : Prop := ∀ c ∈ l, 2 * (c.natAbs : Int) < B
theorem Small.tail {B c : Int} {r : List Int} (h : Small B (c :: r)) : Small B r := fun d hd => h d (List.mem_cons_of_mem _ hd)
theorem Small.of_nrm {B : Int} {l : List Int} (h : 2 * (nrm l : Int) < B) : Small B l := fun c hc => by
  have := mem_nrm hc
  omega
theorem dvd_small {B c d : Int} (h : c = B * d) (hs : 2 * (c.natAbs : Int) < B) : c = 0 := by
  by_cases e : d = 0
  · rw [h, e]
    simp
  · exfalso
    have h1 : c.natAbs = B.natAbs * d.natAbs := by rw [h, Int.natAbs_mul]
    have h2 : 1 ≤ d.natAbs := by omega
    have h3 : B.natAbs * 1 ≤ B.natAbs * d.natAbs := Nat.mul_le_mul_left _ h2
    omega
theorem ev_zero {B : Int} (hB : 0 < B) : ∀ {l : List Int}, isPoly l = true → Small B l → ev B l = 0 → l = []
  | [], _, _, _ => rfl
  | c :: r, hp, hs, h => by
    simp only [ev] at h
    have e0 : c = B * (-(ev B r)) := by
      rw [Int.mul_neg]
      omega
    have c0 := dvd_small e0 (hs c (List.mem_cons_self ..))
    rw [c0] at h
    have h' : ev B r = 0 := by
      have : B * ev B r = 0 := by omega
      rcases Int.mul_eq_zero.mp this with z | z
      · omega
      · exact z
    have := ev_zero hB (poly_tail hp) hs.tail h'
    subst this
    subst c0
    simp [isPoly] at hp
theorem ev_uniq {B : Int} (hB : 0 < B) : ∀ {a b : List Int}, isPoly a = true → isPoly b = true → Small B a → Small B b → ev B a = ev B b → a = b
  | [], b, _, hb, _, sb, h => (ev_zero hB hb sb h.symm).symm
  | a, [], ha, _, sa, _, h => ev_zero hB ha sa h
  | c :: r, d :: t, ha, hb, sa, sb, h => by
    simp only [ev] at h
    have h1 := sa c (List.mem_cons_self ..)
    have h2 := sb d (List.mem_cons_self ..)
    have e0 : c - d = B * (ev B t - ev B r) := by
      rw [Int.mul_sub]
      omega
    have h3 : c = d := by
      by_cases e : ev B t - ev B r = 0
      · rw [e] at e0
        simp at e0
        omega
      · exfalso
        have h1' : (c - d).natAbs = B.natAbs * (ev B t - ev B r).natAbs := by rw [e0, Int.natAbs_mul]
        have h2' : 1 ≤ (ev B t - ev B r).natAbs := by omega
        have h3' : B.natAbs * 1 ≤ B.natAbs * (ev B t - ev B r).natAbs := Nat.mul_le_mul_left _ h2'
        omega
    subst h3
    have h4 : ev B r = ev B t := by
      have : B * ev B r = B * ev B t := by omega
      exact Int.eq_of_mul_eq_mul_left (by omega) this
    rw [ev_uniq hB (poly_tail ha) (poly_tail hb) sa.tail sb.tail h4]
theorem digit {B c m : Int} (hB : 0 < B) (hs : 2 * (c.natAbs : Int) < B) (h : Int) (hh : h = B / 2) :
    (if (c + B * m) % B > h then (c + B * m) % B - B else (c + B * m) % B) = c := by
  have e1 : (c + B * m) % B = c % B := Int.add_mul_emod_self_left ..
  rw [e1]
  by_cases hc : 0 ≤ c
  · have e2 : c % B = c := Int.emod_eq_of_lt hc (by omega)
    rw [e2, if_neg (by omega)]
  · have e2 : c % B = c + B := by
      have : c % B = (c + B) % B := by simp
      rw [this]
      exact Int.emod_eq_of_lt (by omega) (by omega)
    rw [e2, if_pos (by omega)]
    omega
theorem next {B c m : Int} (hB : 0 < B) : (c + B * m - c) / B = m := by
  have : c + B * m - c = B * m := by omega
  rw [this, Int.mul_ediv_cancel_left _ (by omega)]
theorem ev_le {x : Int} {X : Nat} (hx : x.natAbs ≤ X) (h1 : 1 ≤ X) : ∀ l : List Int, (ev x l).natAbs ≤ nrm l * X ^ (l.length - 1)
  | [] => by simp [ev, nrm]
  | [c] => by simp [ev, nrm]
  | c :: d :: t => by
    have ih := ev_le hx h1 (d :: t)
    simp only [ev, nrm, List.length_cons, Nat.add_sub_cancel] at ih ⊢
    have e1 : (c + x * (d + x * ev x t)).natAbs ≤ c.natAbs + x.natAbs * (d + x * ev x t).natAbs := by
      have := Int.natAbs_add_le c (x * (d + x * ev x t))
      rw [Int.natAbs_mul] at this
      exact this
    have e2 : x.natAbs * (d + x * ev x t).natAbs ≤ X * ((d.natAbs + nrm t) * X ^ t.length) := Nat.mul_le_mul hx ih
    have e3 : X * ((d.natAbs + nrm t) * X ^ t.length) = (d.natAbs + nrm t) * X ^ (t.length + 1) := by
      rw [Nat.pow_succ]
      grind
    have e4 : 1 ≤ X ^ (t.length + 1) := Nat.one_le_pow _ _ h1
    have e5 : c.natAbs * 1 ≤ c.natAbs * X ^ (t.length + 1) := Nat.mul_le_mul_left _ e4
    have e6 : (c.natAbs + (d.natAbs + nrm t)) * X ^ (t.length + 1) = c.natAbs * X ^ (t.length + 1) + (d.natAbs + nrm t) * X ^ (t.length + 1) := Nat.add_mul ..
    omega
end PM
namespace PM
structure Res (l : List Int) (f : Int → Int) (N L : Nat) : Prop where
  p : isPoly l = true
  e : ∀ x, ev x l = f x
  n : nrm l ≤ N
  z : l.length ≤ L
theorem ev_zeros (x : Int) (k : Nat) : ev x (List.replicate k 0) = 0 := by
  induction k with
  | zero => rfl
  | succ k ih => simp [List.replicate_succ, ev, ih]
theorem nrm_zeros (k : Nat) : nrm (List.replicate k 0) = 0 := by
  induction k with
  | zero => rfl
  | succ k ih => simp [List.replicate_succ, nrm, ih]
theorem ev_zip (x : Int) : ∀ (a b : List Int), a.length = b.length → ev x (List.zipWith (· + ·) a b) = ev x a + ev x b
  | [], [], _ => by simp [ev]
  | c :: r, d :: t, h => by
    simp only [List.length_cons, Nat.add_right_cancel_iff] at h
    simp only [List.zipWith_cons_cons, ev, ev_zip x r t h]
    grind
  | [], _ :: _, h => by simp at h
  | _ :: _, [], h => by simp at h
theorem nrm_zip : ∀ (a b : List Int), nrm (List.zipWith (· + ·) a b) ≤ nrm a + nrm b
  | [], b => by simp [nrm]
  | c :: r, [] => by simp [nrm]
  | c :: r, d :: t => by
    have := nrm_zip r t
    simp only [List.zipWith_cons_cons, nrm]
    omega
theorem ev_scale (x k : Int) (l : List Int) : ev x (l.map (k * ·)) = k * ev x l := by
  induction l with
  | nil => simp [ev]
  | cons c r ih =>
    simp only [List.map_cons, ev, ih]
    grind
theorem nrm_scale (k : Int) (l : List Int) : nrm (l.map (k * ·)) = k.natAbs * nrm l := by
  induction l with
  | nil => simp [nrm]
  | cons c r ih =>
    simp only [List.map_cons, nrm, ih, Int.natAbs_mul]
    grind
theorem ev_set (x d : Int) : ∀ (l : List Int) (i : Nat) (c : Int), l[i]? = some c → ev x (l.set i (c + d)) = ev x l + x ^ i * d
  | [], i, c, h => by simp at h
  | a :: r, 0, c, h => by
    have e : a = c := by simpa using h
    subst e
    simp only [List.set_cons_zero, ev]
    grind
  | a :: r, i + 1, c, h => by
    have h' : r[i]? = some c := by simpa using h
    simp only [List.set_cons_succ, ev, ev_set x d r i c h', Int.pow_succ]
    grind
theorem nrm_set (d : Int) : ∀ (l : List Int) (i : Nat) (c : Int), l[i]? = some c → nrm (l.set i (c + d)) ≤ nrm l + d.natAbs
  | [], i, c, h => by simp at h
  | a :: r, 0, c, h => by
    have e : a = c := by simpa using h
    subst e
    simp only [List.set_cons_zero, nrm]
    omega
  | a :: r, i + 1, c, h => by
    have h' : r[i]? = some c := by simpa using h
    have := nrm_set d r i c h'
    simp only [List.set_cons_succ, nrm]
    omega
theorem ev_take (x : Int) {l : List Int} {i : Nat} {c : Int} (h : l[i]? = some c) : ev x (l.take (i + 1)) = ev x (l.take i) + x ^ i * c := by
  have hi : i < l.length := (List.getElem?_eq_some_iff.mp h).1
  rw [List.take_add_one, h, ev_append]
  simp [ev, Nat.min_eq_left (Nat.le_of_lt hi)]
theorem nrm_take {l : List Int} {i : Nat} {c : Int} (h : l[i]? = some c) : nrm (l.take (i + 1)) = nrm (l.take i) + c.natAbs := by
  rw [List.take_add_one, h, nrm_append]
  simp [nrm]
theorem ev_drop (x : Int) {l : List Int} {i : Nat} {c : Int} (h : l[i]? = some c) : ev x (l.drop i) = c + x * ev x (l.drop (i + 1)) := by
  obtain ⟨hi, e⟩ := List.getElem?_eq_some_iff.mp h
  rw [List.drop_eq_getElem_cons hi, e]
  rfl
theorem nrm_drop (l : List Int) (i : Nat) : nrm (l.drop i) ≤ nrm l := by
  have := nrm_append (l.take i) (l.drop i)
  rw [List.take_append_drop] at this
  omega
def hv (t b : Int) : List Int → Int
  | [] => 0
  | c :: r => hv t b r * t + c * b ^ r.length
theorem hv_drop (t b : Int) {l : List Int} {i : Nat} {c : Int} (h : l[i]? = some c) : hv t b (l.drop i) = hv t b (l.drop (i + 1)) * t + c * b ^ (l.length - (i + 1)) := by
  obtain ⟨hi, e⟩ := List.getElem?_eq_some_iff.mp h
  rw [List.drop_eq_getElem_cons hi, e]
  simp [hv]
theorem hv_one (t : Int) (l : List Int) : hv t 1 l = ev t l := by
  induction l with
  | nil => rfl
  | cons c r ih =>
    simp only [hv, ev, ih, Int.one_pow]
    grind
theorem hv_le {t b : Int} {X : Nat} (ht : t.natAbs ≤ X) (hb : b.natAbs ≤ X) (h1 : 1 ≤ X) : ∀ l : List Int, (hv t b l).natAbs ≤ nrm l * X ^ (l.length - 1)
  | [] => by simp [hv, nrm]
  | [c] => by simp [hv, nrm]
  | c :: d :: r => by
    have ih := hv_le ht hb h1 (d :: r)
    have e0 : hv t b (c :: d :: r) = hv t b (d :: r) * t + c * b ^ (d :: r).length := rfl
    rw [e0]
    simp only [nrm, List.length_cons, Nat.add_sub_cancel] at ih ⊢
    have e1 := Int.natAbs_add_le (hv t b (d :: r) * t) (c * b ^ (r.length + 1))
    rw [Int.natAbs_mul, Int.natAbs_mul, Int.natAbs_pow] at e1
    have e2 : (hv t b (d :: r)).natAbs * t.natAbs ≤ ((d.natAbs + nrm r) * X ^ r.length) * X := Nat.mul_le_mul ih ht
    have e3 : c.natAbs * b.natAbs ^ (r.length + 1) ≤ c.natAbs * X ^ (r.length + 1) := Nat.mul_le_mul_left _ (Nat.pow_le_pow_left hb _)
    have e4 : ((d.natAbs + nrm r) * X ^ r.length) * X = (d.natAbs + nrm r) * X ^ (r.length + 1) := by rw [Nat.pow_succ, Nat.mul_assoc]
    have e5 : (c.natAbs + (d.natAbs + nrm r)) * X ^ (r.length + 1) = c.natAbs * X ^ (r.length + 1) + (d.natAbs + nrm r) * X ^ (r.length + 1) := Nat.add_mul ..
    omega
theorem ev_big {x : Int} {l : List Int} {i : Nat} (hx : x.natAbs < 2 ^ 64) (hn : nrm l < 2 ^ 2000) (hl : l.length ≤ 1000) : (ev x (l.drop i)).natAbs < 2 ^ 66001 := by
  have h := ev_le (x := x) (X := 2 ^ 64) (by omega) (Nat.one_le_two_pow) (l.drop i)
  have h1 := nrm_drop l i
  have h2 : (2 ^ 64 : Nat) ^ ((l.drop i).length - 1) ≤ (2 ^ 64) ^ 1000 := Nat.pow_le_pow_right (by decide) (by rw [List.length_drop]; omega)
  have h3 : nrm (l.drop i) * (2 ^ 64) ^ ((l.drop i).length - 1) ≤ 2 ^ 2000 * (2 ^ 64) ^ 1000 := Nat.mul_le_mul (by omega) h2
  have h4 : (2 : Nat) ^ 2000 * (2 ^ 64) ^ 1000 = 2 ^ 66000 := by rw [← Nat.pow_mul, ← Nat.pow_add]
  have h5 : (2 : Nat) ^ 66000 < 2 ^ 66001 := Nat.pow_lt_pow_right (by decide) (by decide)
  omega
theorem hv_big {t b : Int} {l : List Int} {i : Nat} (ht : t.natAbs < 2 ^ 64) (hb : b.natAbs < 2 ^ 64) (hn : nrm l < 2 ^ 2000) (hl : l.length ≤ 1000) : (hv t b (l.drop i)).natAbs < 2 ^ 66001 := by
  have h := hv_le (t := t) (b := b) (X := 2 ^ 64) (by omega) (by omega) (Nat.one_le_two_pow) (l.drop i)
  have h1 := nrm_drop l i
  have h2 : (2 ^ 64 : Nat) ^ ((l.drop i).length - 1) ≤ (2 ^ 64) ^ 1000 := Nat.pow_le_pow_right (by decide) (by rw [List.length_drop]; omega)
  have h3 : nrm (l.drop i) * (2 ^ 64) ^ ((l.drop i).length - 1) ≤ 2 ^ 2000 * (2 ^ 64) ^ 1000 := Nat.mul_le_mul (by omega) h2
  have h4 : (2 : Nat) ^ 2000 * (2 ^ 64) ^ 1000 = 2 ^ 66000 := by rw [← Nat.pow_mul, ← Nat.pow_add]
  have h5 : (2 : Nat) ^ 66000 < 2 ^ 66001 := Nat.pow_lt_pow_right (by decide) (by decide)
  omega
end PM
namespace PM
def low (t b : Int) : Int × Int := (t / ((Nat.gcd t.natAbs b.natAbs : Nat) : Int), b / ((Nat.gcd t.natAbs b.natAbs : Nat) : Int))
theorem low_mul {t b c : Int} (hc : 0 < c) : low (t * c) (b * c) = low t b := by
  unfold low
  have e : Nat.gcd (t * c).natAbs (b * c).natAbs = Nat.gcd t.natAbs b.natAbs * c.natAbs := by
    rw [Int.natAbs_mul, Int.natAbs_mul, Nat.gcd_mul_right]
  have ec : ((c.natAbs : Nat) : Int) = c := by omega
  rw [e, Int.natCast_mul, ec, Int.mul_ediv_mul_of_pos_left _ _ hc, Int.mul_ediv_mul_of_pos_left _ _ hc]
theorem pow_bits {b : Int} {i n : Nat} (hb : b.natAbs < 2 ^ 64) (hi : i ≤ n) : (b ^ i).natAbs < 2 ^ (64 * n + 1) := by
  rw [Int.natAbs_pow]
  have h1 : b.natAbs ^ i ≤ (2 ^ 64) ^ i := Nat.pow_le_pow_left (Nat.le_of_lt hb) _
  have h2 : ((2 : Nat) ^ 64) ^ i ≤ (2 ^ 64) ^ n := Nat.pow_le_pow_right (by decide) hi
  have h3 : ((2 : Nat) ^ 64) ^ n = 2 ^ (64 * n) := by rw [← Nat.pow_mul]
  have h4 : (2 : Nat) ^ (64 * n) < 2 ^ (64 * n + 1) := Nat.pow_lt_pow_right (by decide) (by omega)
  omega
theorem pow_pos' {b : Int} (h : 0 < b) (n : Nat) : 0 < b ^ n := Int.pow_pos h
end PM
namespace PM
theorem ev_bits {b : Nat} {x : Int} {l : List Int} {i : Nat} (hx : x.natAbs < 2 ^ b) (hn : nrm l < 2 ^ 2000) (hl : l.length ≤ 1000) : (ev x (l.drop i)).natAbs < 2 ^ (2000 + b * 1000 + 1) := by
  have h := ev_le (x := x) (X := 2 ^ b) (by omega) (Nat.one_le_two_pow) (l.drop i)
  have h1 := nrm_drop l i
  have h2 : (2 ^ b : Nat) ^ ((l.drop i).length - 1) ≤ (2 ^ b) ^ 1000 := Nat.pow_le_pow_right (Nat.one_le_two_pow) (by rw [List.length_drop]; omega)
  have h3 : nrm (l.drop i) * (2 ^ b) ^ ((l.drop i).length - 1) ≤ 2 ^ 2000 * (2 ^ b) ^ 1000 := Nat.mul_le_mul (by omega) h2
  have h4 : (2 : Nat) ^ 2000 * (2 ^ b) ^ 1000 = 2 ^ (2000 + b * 1000) := by rw [← Nat.pow_mul, ← Nat.pow_add]
  have h5 : (2 : Nat) ^ (2000 + b * 1000) < 2 ^ (2000 + b * 1000 + 1) := Nat.pow_lt_pow_right (by decide) (Nat.lt_succ_self _)
  omega
theorem nrm_len {l : List Int} {k : Nat} (h : ∀ c ∈ l, c.natAbs ≤ k) : nrm l ≤ l.length * k := by
  induction l with
  | nil => simp [nrm]
  | cons c r ih =>
    have h1 := h c (List.mem_cons_self ..)
    have h2 := ih fun d hd => h d (List.mem_cons_of_mem _ hd)
    simp only [nrm, List.length_cons, Nat.add_mul, Nat.one_mul]
    omega
end PM
end
section
set_option maxRecDepth 100000
set_option maxHeartbeats 4000000
namespace K09
open PySem PySem.Spec PyProof.Rows L2 MB PM LM
open LamX hiding takes0
section
variable {α : Type}
def bca3 : List α → List α → List α
  | [], [a, b, c] => [b, c, a]
  | _, _ => []
def bac3 : List α → List α → List α
  | [], [a, b, c] => [b, a, c]
  | _, _ => []
def cba3 : List α → List α → List α
  | [], [a, b, c] => [c, b, a]
  | _, _ => []
def cab3 : List α → List α → List α
  | [], [a, b, c] => [c, a, b]
  | _, _ => []
end
theorem kbca3 {K : PySem.W.Frag} {fd : FuncData} {p q r : Str} (h : ∀ a b c : Value, bindArgs fd ⟨[], [(r, a), (p, b), (q, c)]⟩ = pure [(p, b), (q, c), (r, a)]) :
    KBinds K fd [p, q, r] [r, p, q] bca3 bca3 where
  to := fun s us ws _ hl => by
    match us, ws, hl with
    | [], [a, b, c], _ => exact .of_eq (h a b c)
  rel := fun {vs us zs ws} r rz => by
    cases r with
    | cons _ _ => exact .nil
    | nil =>
      match rz with
      | .nil => exact .nil
      | .cons _ .nil => exact .nil
      | .cons _ (.cons _ .nil) => exact .nil
      | .cons r1 (.cons r2 (.cons r3 .nil)) => exact .cons r2 (.cons r3 (.cons r1 .nil))
      | .cons _ (.cons _ (.cons _ (.cons _ _))) => exact .nil
theorem kbac3 {K : PySem.W.Frag} {fd : FuncData} {p q r : Str} (h : ∀ a b c : Value, bindArgs fd ⟨[], [(q, a), (p, b), (r, c)]⟩ = pure [(p, b), (q, a), (r, c)]) :
    KBinds K fd [p, q, r] [q, p, r] bac3 bac3 where
  to := fun s us ws _ hl => by
    match us, ws, hl with
    | [], [a, b, c], _ => exact .of_eq (h a b c)
  rel := fun {vs us zs ws} r rz => by
    cases r with
    | cons _ _ => exact .nil
    | nil =>
      match rz with
      | .nil => exact .nil
      | .cons _ .nil => exact .nil
      | .cons _ (.cons _ .nil) => exact .nil
      | .cons r1 (.cons r2 (.cons r3 .nil)) => exact .cons r2 (.cons r1 (.cons r3 .nil))
      | .cons _ (.cons _ (.cons _ (.cons _ _))) => exact .nil
theorem kcba3 {K : PySem.W.Frag} {fd : FuncData} {p q r : Str} (h : ∀ a b c : Value, bindArgs fd ⟨[], [(r, a), (q, b), (p, c)]⟩ = pure [(p, c), (q, b), (r, a)]) :
    KBinds K fd [p, q, r] [r, q, p] cba3 cba3 where
  to := fun s us ws _ hl => by
    match us, ws, hl with
    | [], [a, b, c], _ => exact .of_eq (h a b c)
  rel := fun {vs us zs ws} r rz => by
    cases r with
    | cons _ _ => exact .nil
    | nil =>
      match rz with
      | .nil => exact .nil
      | .cons _ .nil => exact .nil
      | .cons _ (.cons _ .nil) => exact .nil
      | .cons r1 (.cons r2 (.cons r3 .nil)) => exact .cons r3 (.cons r2 (.cons r1 .nil))
      | .cons _ (.cons _ (.cons _ (.cons _ _))) => exact .nil
theorem kcab3 {K : PySem.W.Frag} {fd : FuncData} {p q r : Str} (h : ∀ a b c : Value, bindArgs fd ⟨[], [(q, a), (r, b), (p, c)]⟩ = pure [(p, c), (q, a), (r, b)]) :
    KBinds K fd [p, q, r] [q, r, p] cab3 cab3 where
  to := fun s us ws _ hl => by
    match us, ws, hl with
    | [], [a, b, c], _ => exact .of_eq (h a b c)
  rel := fun {vs us zs ws} r rz => by
    cases r with
    | cons _ _ => exact .nil
    | nil =>
      match rz with
      | .nil => exact .nil
      | .cons _ .nil => exact .nil
      | .cons _ (.cons _ .nil) => exact .nil
      | .cons r1 (.cons r2 (.cons r3 .nil)) => exact .cons r3 (.cons r1 (.cons r2 .nil))
      | .cons _ (.cons _ (.cons _ (.cons _ _))) => exact .nil
section
variable {α : Type}
def sNRQ : List α → List α → List α
  | [s], [a, b, c] => [s, c, b, a]
  | _, _ => []
end
def k1V {α : Type} : List α → List α → List α
  | [], [b] => [b]
  | _, _ => []
theorem kb_k1 {K : PySem.W.Frag} {fd : FuncData} {p : Str} (h : ∀ b : Value, bindArgs fd ⟨[], [(p, b)]⟩ = pure [(p, b)]) : KBinds K fd [p] [p] k1V k1V where
  to := fun s us ws _ hl => by
    match us, ws, hl with
    | [], [b], _ => exact .of_eq (h b)
  rel := fun {vs us zs ws} r rz => by
    cases r with
    | cons _ _ => exact .nil
    | nil =>
      cases rz with
      | nil => exact .nil
      | cons r2 rz' =>
        cases rz' with
        | cons _ _ => exact .nil
        | nil => exact .cons r2 .nil
theorem kbsNRQ {K : PySem.W.Frag} {fd : FuncData} {o p q r : Str} (h : ∀ s a b c : Value, bindArgs fd ⟨[s], [(r, a), (q, b), (p, c)]⟩ = pure [(o, s), (p, c), (q, b), (r, a)]) : KBinds K fd [o, p, q, r] [r, q, p] sNRQ sNRQ where
  to := fun s us ws _ hl => by
    match us, ws, hl with
    | [s], [a, b, c], _ => exact .of_eq (h s a b c)
  rel := fun {vs us zs ws} r rz => by
    cases r with
    | nil => exact .nil
    | cons r0 rt =>
      cases rt with
      | cons _ _ => exact .nil
      | nil =>
        match rz with
        | .nil => exact .nil
        | .cons _ .nil => exact .nil
        | .cons _ (.cons _ .nil) => exact .nil
        | .cons r1 (.cons r2 (.cons r3 .nil)) => exact .cons r0 (.cons r3 (.cons r2 (.cons r1 .nil)))
        | .cons _ (.cons _ (.cons _ (.cons _ _))) => exact .nil
def top (i : Nat) : Stmt := PySem.Challenge.pw_mirrorbook_k09_mirrors_sums_and_common_b.main.body.getD i (.Pass ⟨0, 0, 0, 0⟩)
abbrev P : Program := PySem.Challenge.pw_mirrorbook_k09_mirrors_sums_and_common_b
abbrev s_letter_sum : Stmt := top 11
abbrev N_letter_sum : List Str := ["q", "one", "other"]
abbrev P_letter_sum : List Str := ["q", "one", "other"]
theorem sc_letter_sum : FnScope N_letter_sum P_letter_sum (defScope s_letter_sum) := ⟨rfl, rfl, rfl, by decide +kernel, rfl, by decide +kernel, by decide +kernel⟩
abbrev s_letter_negative : Stmt := top 12
abbrev N_letter_negative : List Str := ["q", "letter"]
abbrev P_letter_negative : List Str := ["q", "letter"]
theorem sc_letter_negative : FnScope N_letter_negative P_letter_negative (defScope s_letter_negative) := ⟨rfl, rfl, rfl, by decide +kernel, rfl, by decide +kernel, by decide +kernel⟩
abbrev s_letter_times : Stmt := top 13
abbrev N_letter_times : List Str := ["q", "one", "other"]
abbrev P_letter_times : List Str := ["q", "one", "other"]
theorem sc_letter_times : FnScope N_letter_times P_letter_times (defScope s_letter_times) := ⟨rfl, rfl, rfl, by decide +kernel, rfl, by decide +kernel, by decide +kernel⟩
abbrev s_letter_inverse : Stmt := top 14
abbrev N_letter_inverse : List Str := ["q", "letter", "other"]
abbrev P_letter_inverse : List Str := ["q", "letter"]
theorem sc_letter_inverse : FnScope N_letter_inverse P_letter_inverse (defScope s_letter_inverse) := ⟨rfl, rfl, rfl, by decide +kernel, rfl, by decide +kernel, by decide +kernel⟩
abbrev s_row_sum : Stmt := top 15
abbrev N_row_sum : List Str := ["q", "one", "other", "left", "right"]
abbrev P_row_sum : List Str := ["q", "one", "other"]
theorem sc_row_sum : FnScope N_row_sum P_row_sum (defScope s_row_sum) := ⟨rfl, rfl, rfl, by decide +kernel, rfl, by decide +kernel, by decide +kernel⟩
abbrev s_row_times : Stmt := top 16
abbrev N_row_times : List Str := ["q", "letter", "row", "item"]
abbrev P_row_times : List Str := ["q", "letter", "row"]
theorem sc_row_times : FnScope N_row_times P_row_times (defScope s_row_times) := ⟨rfl, rfl, rfl, by decide +kernel, rfl, by decide +kernel, by decide +kernel⟩
abbrev s_row_support : Stmt := top 17
abbrev N_row_support : List Str := ["row", "place"]
abbrev P_row_support : List Str := ["row"]
theorem sc_row_support : FnScope N_row_support P_row_support (defScope s_row_support) := ⟨rfl, rfl, rfl, by decide +kernel, rfl, by decide +kernel, by decide +kernel⟩
abbrev s_is_integer : Stmt := top 19
abbrev N_is_integer : List Str := ["thing"]
abbrev P_is_integer : List Str := ["thing"]
theorem sc_is_integer : FnScope N_is_integer P_is_integer (defScope s_is_integer) := ⟨rfl, rfl, rfl, by decide +kernel, rfl, by decide +kernel, by decide +kernel⟩
abbrev s_is_integer_from : Stmt := top 20
abbrev N_is_integer_from : List Str := ["thing", "low", "high"]
abbrev P_is_integer_from : List Str := ["thing", "low", "high"]
theorem sc_is_integer_from : FnScope N_is_integer_from P_is_integer_from (defScope s_is_integer_from) := ⟨rfl, rfl, rfl, by decide +kernel, rfl, by decide +kernel, by decide +kernel⟩
abbrev s_are_integers_from : Stmt := top 21
abbrev N_are_integers_from : List Str := ["thing", "low", "high", "item"]
abbrev P_are_integers_from : List Str := ["thing", "low", "high"]
theorem sc_are_integers_from : FnScope N_are_integers_from P_are_integers_from (defScope s_are_integers_from) := ⟨rfl, rfl, rfl, by decide +kernel, rfl, by decide +kernel, by decide +kernel⟩
abbrev s_are_letters : Stmt := top 22
abbrev N_are_letters : List Str := ["q", "thing"]
abbrev P_are_letters : List Str := ["q", "thing"]
theorem sc_are_letters : FnScope N_are_letters P_are_letters (defScope s_are_letters) := ⟨rfl, rfl, rfl, by decide +kernel, rfl, by decide +kernel, by decide +kernel⟩
abbrev s_is_row : Stmt := top 23
abbrev N_is_row : List Str := ["q", "n", "thing"]
abbrev P_is_row : List Str := ["q", "n", "thing"]
theorem sc_is_row : FnScope N_is_row P_is_row (defScope s_is_row) := ⟨rfl, rfl, rfl, by decide +kernel, rfl, by decide +kernel, by decide +kernel⟩
abbrev s_check_field : Stmt := top 25
abbrev N_check_field : List Str := ["q"]
abbrev P_check_field : List Str := ["q"]
theorem sc_check_field : FnScope N_check_field P_check_field (defScope s_check_field) := ⟨rfl, rfl, rfl, by decide +kernel, rfl, by decide +kernel, by decide +kernel⟩
abbrev s_lead_of : Stmt := top 28
abbrev N_lead_of : List Str := ["row"]
abbrev P_lead_of : List Str := ["row"]
theorem sc_lead_of : FnScope N_lead_of P_lead_of (defScope s_lead_of) := ⟨rfl, rfl, rfl, by decide +kernel, rfl, by decide +kernel, by decide +kernel⟩
abbrev s_with_zero_at : Stmt := top 29
abbrev N_with_zero_at : List Str := ["q", "place", "row", "head"]
abbrev P_with_zero_at : List Str := ["q", "place", "row", "head"]
theorem sc_with_zero_at : FnScope N_with_zero_at P_with_zero_at (defScope s_with_zero_at) := ⟨rfl, rfl, rfl, by decide +kernel, rfl, by decide +kernel, by decide +kernel⟩
abbrev s_reduced_rows : Stmt := top 30
abbrev N_reduced_rows : List Str := ["q", "n", "rows", "left", "done", "place", "heads", "head", "row"]
abbrev P_reduced_rows : List Str := ["q", "n", "rows"]
theorem sc_reduced_rows : FnScope N_reduced_rows P_reduced_rows (defScope s_reduced_rows) := ⟨rfl, rfl, rfl, by decide +kernel, rfl, by decide +kernel, by decide +kernel⟩
abbrev s_check_rows : Stmt := top 31
abbrev N_check_rows : List Str := ["q", "n", "rows", "leads", "row", "place"]
abbrev P_check_rows : List Str := ["q", "n", "rows"]
theorem sc_check_rows : FnScope N_check_rows P_check_rows (defScope s_check_rows) := ⟨rfl, rfl, rfl, by decide +kernel, rfl, by decide +kernel, by decide +kernel⟩
abbrev s_check_at : Stmt := top 32
abbrev N_check_at : List Str := ["q", "n", "rows", "place", "letters", "row"]
abbrev P_check_at : List Str := ["q", "n", "rows", "place"]
theorem sc_check_at : FnScope N_check_at P_check_at (defScope s_check_at) := ⟨rfl, rfl, rfl, by decide +kernel, rfl, by decide +kernel, by decide +kernel⟩
abbrev s_sum_of_rows : Stmt := top 33
abbrev N_sum_of_rows : List Str := ["q", "n", "amounts", "rows", "total", "amount", "row"]
abbrev P_sum_of_rows : List Str := ["q", "n", "amounts", "rows"]
theorem sc_sum_of_rows : FnScope N_sum_of_rows P_sum_of_rows (defScope s_sum_of_rows) := ⟨rfl, rfl, rfl, by decide +kernel, rfl, by decide +kernel, by decide +kernel⟩
abbrev s_Book___init__ : Stmt := inClass (top 36) 0
abbrev N_Book___init__ : List Str := ["self", "q", "n", "rows", "number", "row"]
abbrev P_Book___init__ : List Str := ["self", "q", "n", "rows"]
theorem sc_Book___init__ : FnScope N_Book___init__ P_Book___init__ (defScope s_Book___init__) := ⟨rfl, rfl, rfl, by decide +kernel, rfl, by decide +kernel, by decide +kernel⟩
abbrev s_Book___eq__ : Stmt := inClass (top 36) 1
abbrev N_Book___eq__ : List Str := ["self", "other"]
abbrev P_Book___eq__ : List Str := ["self", "other"]
theorem sc_Book___eq__ : FnScope N_Book___eq__ P_Book___eq__ (defScope s_Book___eq__) := ⟨rfl, rfl, rfl, by decide +kernel, rfl, by decide +kernel, by decide +kernel⟩
abbrev s_leads : Stmt := top 41
abbrev N_leads : List Str := ["book", "row"]
abbrev P_leads : List Str := ["book"]
theorem sc_leads : FnScope N_leads P_leads (defScope s_leads) := ⟨rfl, rfl, rfl, by decide +kernel, rfl, by decide +kernel, by decide +kernel⟩
abbrev s_made : Stmt := top 42
abbrev N_made : List Str := ["book", "amounts"]
abbrev P_made : List Str := ["book", "amounts"]
theorem sc_made : FnScope N_made P_made (defScope s_made) := ⟨rfl, rfl, rfl, by decide +kernel, rfl, by decide +kernel, by decide +kernel⟩
abbrev s_amounts_at_leads : Stmt := top 43
abbrev N_amounts_at_leads : List Str := ["book", "word", "lead"]
abbrev P_amounts_at_leads : List Str := ["book", "word"]
theorem sc_amounts_at_leads : FnScope N_amounts_at_leads P_amounts_at_leads (defScope s_amounts_at_leads) := ⟨rfl, rfl, rfl, by decide +kernel, rfl, by decide +kernel, by decide +kernel⟩
abbrev s_is_word : Stmt := top 44
abbrev N_is_word : List Str := ["book", "thing"]
abbrev P_is_word : List Str := ["book", "thing"]
theorem sc_is_word : FnScope N_is_word P_is_word (defScope s_is_word) := ⟨rfl, rfl, rfl, by decide +kernel, rfl, by decide +kernel, by decide +kernel⟩
abbrev s_mirror : Stmt := top 46
abbrev N_mirror : List Str := ["book"]
abbrev P_mirror : List Str := ["book"]
theorem sc_mirror : FnScope N_mirror P_mirror (defScope s_mirror) := ⟨rfl, rfl, rfl, by decide +kernel, rfl, by decide +kernel, by decide +kernel⟩
abbrev s_check_fields : Stmt := top 47
abbrev N_check_fields : List Str := ["one", "other"]
abbrev P_check_fields : List Str := ["one", "other"]
theorem sc_check_fields : FnScope N_check_fields P_check_fields (defScope s_check_fields) := ⟨rfl, rfl, rfl, by decide +kernel, rfl, by decide +kernel, by decide +kernel⟩
abbrev s_check_fields_and_places : Stmt := top 48
abbrev N_check_fields_and_places : List Str := ["one", "other"]
abbrev P_check_fields_and_places : List Str := ["one", "other"]
theorem sc_check_fields_and_places : FnScope N_check_fields_and_places P_check_fields_and_places (defScope s_check_fields_and_places) := ⟨rfl, rfl, rfl, by decide +kernel, rfl, by decide +kernel, by decide +kernel⟩
abbrev s_sum_of : Stmt := top 49
abbrev N_sum_of : List Str := ["one", "other"]
abbrev P_sum_of : List Str := ["one", "other"]
theorem sc_sum_of : FnScope N_sum_of P_sum_of (defScope s_sum_of) := ⟨rfl, rfl, rfl, by decide +kernel, rfl, by decide +kernel, by decide +kernel⟩
abbrev s_common : Stmt := top 50
abbrev N_common : List Str := ["one", "other"]
abbrev P_common : List Str := ["one", "other"]
theorem sc_common : FnScope N_common P_common (defScope s_common) := ⟨rfl, rfl, rfl, by decide +kernel, rfl, by decide +kernel, by decide +kernel⟩
abbrev s_is_within : Stmt := top 51
abbrev N_is_within : List Str := ["one", "other", "row"]
abbrev P_is_within : List Str := ["one", "other"]
theorem sc_is_within : FnScope N_is_within P_is_within (defScope s_is_within) := ⟨rfl, rfl, rfl, by decide +kernel, rfl, by decide +kernel, by decide +kernel⟩
abbrev s__law_deck : Stmt := top 53
abbrev N__law_deck : List Str := ["_law_script", "_law_mixed", "_law_cell"]
abbrev P__law_deck : List Str := ["_law_script"]
theorem sc__law_deck : FnScope N__law_deck P__law_deck (defScope s__law_deck) := ⟨rfl, rfl, rfl, by decide +kernel, rfl, by decide +kernel, by decide +kernel⟩
abbrev s__law_draw : Stmt := top 54
abbrev N__law_draw : List Str := ["_law_deck_here", "_law_many", "_law_number", "_law_cell"]
abbrev P__law_draw : List Str := ["_law_deck_here", "_law_many"]
theorem sc__law_draw : FnScope N__law_draw P__law_draw (defScope s__law_draw) := ⟨rfl, rfl, rfl, by decide +kernel, rfl, by decide +kernel, by decide +kernel⟩
abbrev s__law_by : Stmt := top 55
abbrev N__law_by : List Str := ["_law_q", "_law_one", "_law_other"]
abbrev P__law_by : List Str := ["_law_q", "_law_one", "_law_other"]
theorem sc__law_by : FnScope N__law_by P__law_by (defScope s__law_by) := ⟨rfl, rfl, rfl, by decide +kernel, rfl, by decide +kernel, by decide +kernel⟩
abbrev s__law_plus : Stmt := top 56
abbrev N__law_plus : List Str := ["_law_q", "_law_one", "_law_other", "_law_x", "_law_y"]
abbrev P__law_plus : List Str := ["_law_q", "_law_one", "_law_other"]
theorem sc__law_plus : FnScope N__law_plus P__law_plus (defScope s__law_plus) := ⟨rfl, rfl, rfl, by decide +kernel, rfl, by decide +kernel, by decide +kernel⟩
abbrev s__law_times : Stmt := top 57
abbrev N__law_times : List Str := ["_law_q", "_law_letter", "_law_word", "_law_x"]
abbrev P__law_times : List Str := ["_law_q", "_law_letter", "_law_word"]
theorem sc__law_times : FnScope N__law_times P__law_times (defScope s__law_times) := ⟨rfl, rfl, rfl, by decide +kernel, rfl, by decide +kernel, by decide +kernel⟩
abbrev s__law_minus : Stmt := top 58
abbrev N__law_minus : List Str := ["_law_q", "_law_letter"]
abbrev P__law_minus : List Str := ["_law_q", "_law_letter"]
theorem sc__law_minus : FnScope N__law_minus P__law_minus (defScope s__law_minus) := ⟨rfl, rfl, rfl, by decide +kernel, rfl, by decide +kernel, by decide +kernel⟩
abbrev s__law_rank : Stmt := top 59
abbrev N__law_rank : List Str := ["_law_q", "_law_rows_here", "_law_kept", "_law_row", "_law_head", "_law_old", "_law_heads", "_law_at", "_law_x"]
abbrev P__law_rank : List Str := ["_law_q", "_law_rows_here"]
theorem sc__law_rank : FnScope N__law_rank P__law_rank (defScope s__law_rank) := ⟨rfl, rfl, rfl, by decide +kernel, rfl, by decide +kernel, by decide +kernel⟩
abbrev s__law_is_letter : Stmt := top 60
abbrev N__law_is_letter : List Str := ["_law_q", "_law_thing"]
abbrev P__law_is_letter : List Str := ["_law_q", "_law_thing"]
theorem sc__law_is_letter : FnScope N__law_is_letter P__law_is_letter (defScope s__law_is_letter) := ⟨rfl, rfl, rfl, by decide +kernel, rfl, by decide +kernel, by decide +kernel⟩
abbrev s__law_are_reduced : Stmt := top 61
abbrev N__law_are_reduced : List Str := ["_law_q", "_law_n", "_law_rows_here", "_law_row", "_law_heads", "_law_some", "_law_at", "_law_x", "_law_head", "_law_other"]
abbrev P__law_are_reduced : List Str := ["_law_q", "_law_n", "_law_rows_here"]
theorem sc__law_are_reduced : FnScope N__law_are_reduced P__law_are_reduced (defScope s__law_are_reduced) := ⟨rfl, rfl, rfl, by decide +kernel, rfl, by decide +kernel, by decide +kernel⟩
abbrev s__law_is_book : Stmt := top 62
abbrev N__law_is_book : List Str := ["_law_thing", "_law_q", "_law_n", "_law_rows_here"]
abbrev P__law_is_book : List Str := ["_law_thing", "_law_q", "_law_n", "_law_rows_here"]
theorem sc__law_is_book : FnScope N__law_is_book P__law_is_book (defScope s__law_is_book) := ⟨rfl, rfl, rfl, by decide +kernel, rfl, by decide +kernel, by decide +kernel⟩
abbrev s__law_rows : Stmt := top 63
abbrev N__law_rows : List Str := ["_law_deck_here", "_law_q", "_law_n", "_law_found", "_law_turn", "_law_way", "_law_some", "_law_spot", "_law_at", "_law_x"]
abbrev P__law_rows : List Str := ["_law_deck_here", "_law_q", "_law_n"]
theorem sc__law_rows : FnScope N__law_rows P__law_rows (defScope s__law_rows) := ⟨rfl, rfl, rfl, by decide +kernel, rfl, by decide +kernel, by decide +kernel⟩
abbrev s__law_product : Stmt := top 64
abbrev N__law_product : List Str := ["_law_q", "_law_one", "_law_other", "_law_found", "_law_x", "_law_y"]
abbrev P__law_product : List Str := ["_law_q", "_law_one", "_law_other"]
theorem sc__law_product : FnScope N__law_product P__law_product (defScope s__law_product) := ⟨rfl, rfl, rfl, by decide +kernel, rfl, by decide +kernel, by decide +kernel⟩
abbrev s__law_are_checks : Stmt := top 65
abbrev N__law_are_checks : List Str := ["_law_q", "_law_rows_here", "_law_others", "_law_row", "_law_other"]
abbrev P__law_are_checks : List Str := ["_law_q", "_law_rows_here", "_law_others"]
theorem sc__law_are_checks : FnScope N__law_are_checks P__law_are_checks (defScope s__law_are_checks) := ⟨rfl, rfl, rfl, by decide +kernel, rfl, by decide +kernel, by decide +kernel⟩
abbrev s__law_is_mirror : Stmt := top 66
abbrev N__law_is_mirror : List Str := ["_law_q", "_law_n", "_law_book", "_law_near_here"]
abbrev P__law_is_mirror : List Str := ["_law_q", "_law_n", "_law_book", "_law_near_here"]
theorem sc__law_is_mirror : FnScope N__law_is_mirror P__law_is_mirror (defScope s__law_is_mirror) := ⟨rfl, rfl, rfl, by decide +kernel, rfl, by decide +kernel, by decide +kernel⟩
abbrev s__law_is_common : Stmt := top 67
abbrev N__law_is_common : List Str := ["_law_q", "_law_n", "_law_one", "_law_other", "_law_near_here", "_law_rows_here", "_law_others"]
abbrev P__law_is_common : List Str := ["_law_q", "_law_n", "_law_one", "_law_other", "_law_near_here"]
theorem sc__law_is_common : FnScope N__law_is_common P__law_is_common (defScope s__law_is_common) := ⟨rfl, rfl, rfl, by decide +kernel, rfl, by decide +kernel, by decide +kernel⟩
abbrev s__law_told : Stmt := top 68
abbrev N__law_told : List Str := ["_law_deed", "e"]
abbrev P__law_told : List Str := ["_law_deed"]
theorem sc__law_told : FnScope N__law_told P__law_told (defScope s__law_told) := ⟨rfl, rfl, rfl, by decide +kernel, rfl, by decide +kernel, by decide +kernel⟩
abbrev s__law_near : Stmt := top 69
abbrev N__law_near : List Str := ["_law_deck_here", "_law_q", "_law_n", "_law_book", "_law_way", "_law_rows_here", "_law_at", "_law_some", "_law_check", "_law_letters", "_law_word", "_law_letter", "_law_place"]
abbrev P__law_near : List Str := ["_law_deck_here", "_law_q", "_law_n", "_law_book"]
theorem sc__law_near : FnScope N__law_near P__law_near (defScope s__law_near) := ⟨rfl, rfl, rfl, by decide +kernel, rfl, by decide +kernel, by decide +kernel⟩
abbrev s__law_are_joined : Stmt := top 70
abbrev N__law_are_joined : List Str := ["_law_q", "_law_n", "_law_one", "_law_other", "_law_rows_here", "_law_both", "_law_shared", "_law_total", "_law_due", "_law_told_here"]
abbrev P__law_are_joined : List Str := ["_law_q", "_law_n", "_law_one", "_law_other"]
theorem sc__law_are_joined : FnScope N__law_are_joined P__law_are_joined (defScope s__law_are_joined) := ⟨rfl, rfl, rfl, by decide +kernel, rfl, by decide +kernel, by decide +kernel⟩
abbrev s_law : Stmt := top 71
abbrev N_law : List Str := ["_law_script", "_law_deck_here", "_law_q", "_law_n", "_law_some", "_law_turn", "_law_rows_here", "_law_other", "_law_near_here", "_law_letters", "_law_many", "_law_due", "_law_told_here", "_law_far", "_law_one"]
abbrev P_law : List Str := ["_law_script"]
theorem sc_law : FnScope N_law P_law (defScope s_law) := ⟨rfl, rfl, rfl, by decide +kernel, rfl, by decide +kernel, by decide +kernel⟩
def FourTab (K : PySem.W.Frag) (t : Addr) : Prop := ∃ rs : List Addr, rs.length = 4 ∧ (∀ H : Hp, SqT K H t (rs.map V.ref)) ∧ ∀ (i : Nat) (r : Addr) (H : Hp), rs[i]? = some r → SqT K H r ((four.getD i []).map V.int)
structure ClsIs (K : PySem.W.Frag) (C : Addr) : Prop where
  ha : PySem.W.findIn K (.ref C) "__class__" = some (some (.builtin "object.__class__"))
  hn : PySem.W.specialIn K (.builtin "object.__class__") "__get__" = some (some (.builtin "getset_descriptor.__get__"))
  ht : PySem.W.takesIn K (.builtin "object.__class__") = some true
  hm : PySem.W.mroIn K C (.type "object") = some true
  nt : PySem.W.kitOne K (.ref C) (.type "tuple") = some false
  ni : PySem.W.kitOne K (.ref C) (.type "int") = some false
def oddT : List String := ["list", "tuple", "dict", "int", "bool", "str", "NoneType"]
structure Txt (K : PySem.W.Frag) (mg : Str → Option Value) where
  a_letter_sum : Addr
  d_letter_sum : FuncData
  F_letter_sum : Fun K "letter_sum" "letter_sum" s_letter_sum a_letter_sum d_letter_sum
  m_letter_sum : mg "letter_sum" = some (.ref a_letter_sum)
  b_letter_sum : Binds K d_letter_sum P_letter_sum []
  a_letter_negative : Addr
  d_letter_negative : FuncData
  F_letter_negative : Fun K "letter_negative" "letter_negative" s_letter_negative a_letter_negative d_letter_negative
  m_letter_negative : mg "letter_negative" = some (.ref a_letter_negative)
  b_letter_negative : Binds K d_letter_negative P_letter_negative []
  a_letter_times : Addr
  d_letter_times : FuncData
  F_letter_times : Fun K "letter_times" "letter_times" s_letter_times a_letter_times d_letter_times
  m_letter_times : mg "letter_times" = some (.ref a_letter_times)
  b_letter_times : Binds K d_letter_times P_letter_times []
  a_letter_inverse : Addr
  d_letter_inverse : FuncData
  F_letter_inverse : Fun K "letter_inverse" "letter_inverse" s_letter_inverse a_letter_inverse d_letter_inverse
  m_letter_inverse : mg "letter_inverse" = some (.ref a_letter_inverse)
  b_letter_inverse : Binds K d_letter_inverse P_letter_inverse []
  a_row_sum : Addr
  d_row_sum : FuncData
  F_row_sum : Fun K "row_sum" "row_sum" s_row_sum a_row_sum d_row_sum
  m_row_sum : mg "row_sum" = some (.ref a_row_sum)
  b_row_sum : Binds K d_row_sum P_row_sum []
  a_row_times : Addr
  d_row_times : FuncData
  F_row_times : Fun K "row_times" "row_times" s_row_times a_row_times d_row_times
  m_row_times : mg "row_times" = some (.ref a_row_times)
  b_row_times : Binds K d_row_times P_row_times []
  a_row_support : Addr
  d_row_support : FuncData
  F_row_support : Fun K "row_support" "row_support" s_row_support a_row_support d_row_support
  m_row_support : mg "row_support" = some (.ref a_row_support)
  b_row_support : Binds K d_row_support P_row_support []
  a_is_integer : Addr
  d_is_integer : FuncData
  F_is_integer : Fun K "is_integer" "is_integer" s_is_integer a_is_integer d_is_integer
  m_is_integer : mg "is_integer" = some (.ref a_is_integer)
  b_is_integer : Binds K d_is_integer P_is_integer []
  a_is_integer_from : Addr
  d_is_integer_from : FuncData
  F_is_integer_from : Fun K "is_integer_from" "is_integer_from" s_is_integer_from a_is_integer_from d_is_integer_from
  m_is_integer_from : mg "is_integer_from" = some (.ref a_is_integer_from)
  b_is_integer_from : Binds K d_is_integer_from P_is_integer_from []
  a_are_integers_from : Addr
  d_are_integers_from : FuncData
  F_are_integers_from : Fun K "are_integers_from" "are_integers_from" s_are_integers_from a_are_integers_from d_are_integers_from
  m_are_integers_from : mg "are_integers_from" = some (.ref a_are_integers_from)
  b_are_integers_from : Binds K d_are_integers_from P_are_integers_from []
  a_are_letters : Addr
  d_are_letters : FuncData
  F_are_letters : Fun K "are_letters" "are_letters" s_are_letters a_are_letters d_are_letters
  m_are_letters : mg "are_letters" = some (.ref a_are_letters)
  b_are_letters : Binds K d_are_letters P_are_letters []
  a_is_row : Addr
  d_is_row : FuncData
  F_is_row : Fun K "is_row" "is_row" s_is_row a_is_row d_is_row
  m_is_row : mg "is_row" = some (.ref a_is_row)
  b_is_row : Binds K d_is_row P_is_row []
  a_check_field : Addr
  d_check_field : FuncData
  F_check_field : Fun K "check_field" "check_field" s_check_field a_check_field d_check_field
  m_check_field : mg "check_field" = some (.ref a_check_field)
  b_check_field : Binds K d_check_field P_check_field []
  a_lead_of : Addr
  d_lead_of : FuncData
  F_lead_of : Fun K "lead_of" "lead_of" s_lead_of a_lead_of d_lead_of
  m_lead_of : mg "lead_of" = some (.ref a_lead_of)
  b_lead_of : Binds K d_lead_of P_lead_of []
  a_with_zero_at : Addr
  d_with_zero_at : FuncData
  F_with_zero_at : Fun K "with_zero_at" "with_zero_at" s_with_zero_at a_with_zero_at d_with_zero_at
  m_with_zero_at : mg "with_zero_at" = some (.ref a_with_zero_at)
  b_with_zero_at : Binds K d_with_zero_at P_with_zero_at []
  a_reduced_rows : Addr
  d_reduced_rows : FuncData
  F_reduced_rows : Fun K "reduced_rows" "reduced_rows" s_reduced_rows a_reduced_rows d_reduced_rows
  m_reduced_rows : mg "reduced_rows" = some (.ref a_reduced_rows)
  b_reduced_rows : Binds K d_reduced_rows P_reduced_rows []
  a_check_rows : Addr
  d_check_rows : FuncData
  F_check_rows : Fun K "check_rows" "check_rows" s_check_rows a_check_rows d_check_rows
  m_check_rows : mg "check_rows" = some (.ref a_check_rows)
  b_check_rows : Binds K d_check_rows P_check_rows []
  a_check_at : Addr
  d_check_at : FuncData
  F_check_at : Fun K "check_at" "check_at" s_check_at a_check_at d_check_at
  m_check_at : mg "check_at" = some (.ref a_check_at)
  b_check_at : Binds K d_check_at P_check_at []
  a_sum_of_rows : Addr
  d_sum_of_rows : FuncData
  F_sum_of_rows : Fun K "sum_of_rows" "sum_of_rows" s_sum_of_rows a_sum_of_rows d_sum_of_rows
  m_sum_of_rows : mg "sum_of_rows" = some (.ref a_sum_of_rows)
  b_sum_of_rows : Binds K d_sum_of_rows P_sum_of_rows []
  a_Book___init__ : Addr
  d_Book___init__ : FuncData
  F_Book___init__ : Fun K "__init__" "Book.__init__" s_Book___init__ a_Book___init__ d_Book___init__
  b_Book___init__ : Binds K d_Book___init__ P_Book___init__ []
  a_Book___eq__ : Addr
  d_Book___eq__ : FuncData
  F_Book___eq__ : Fun K "__eq__" "Book.__eq__" s_Book___eq__ a_Book___eq__ d_Book___eq__
  b_Book___eq__ : Binds K d_Book___eq__ P_Book___eq__ []
  a_leads : Addr
  d_leads : FuncData
  F_leads : Fun K "leads" "leads" s_leads a_leads d_leads
  m_leads : mg "leads" = some (.ref a_leads)
  b_leads : Binds K d_leads P_leads []
  a_made : Addr
  d_made : FuncData
  F_made : Fun K "made" "made" s_made a_made d_made
  m_made : mg "made" = some (.ref a_made)
  b_made : Binds K d_made P_made []
  a_amounts_at_leads : Addr
  d_amounts_at_leads : FuncData
  F_amounts_at_leads : Fun K "amounts_at_leads" "amounts_at_leads" s_amounts_at_leads a_amounts_at_leads d_amounts_at_leads
  m_amounts_at_leads : mg "amounts_at_leads" = some (.ref a_amounts_at_leads)
  b_amounts_at_leads : Binds K d_amounts_at_leads P_amounts_at_leads []
  a_is_word : Addr
  d_is_word : FuncData
  F_is_word : Fun K "is_word" "is_word" s_is_word a_is_word d_is_word
  m_is_word : mg "is_word" = some (.ref a_is_word)
  b_is_word : Binds K d_is_word P_is_word []
  a_mirror : Addr
  d_mirror : FuncData
  F_mirror : Fun K "mirror" "mirror" s_mirror a_mirror d_mirror
  m_mirror : mg "mirror" = some (.ref a_mirror)
  b_mirror : Binds K d_mirror P_mirror []
  q_mirror_book : KBinds K d_mirror P_mirror ["book"] k1V k1V
  a_check_fields : Addr
  d_check_fields : FuncData
  F_check_fields : Fun K "check_fields" "check_fields" s_check_fields a_check_fields d_check_fields
  m_check_fields : mg "check_fields" = some (.ref a_check_fields)
  b_check_fields : Binds K d_check_fields P_check_fields []
  a_check_fields_and_places : Addr
  d_check_fields_and_places : FuncData
  F_check_fields_and_places : Fun K "check_fields_and_places" "check_fields_and_places" s_check_fields_and_places a_check_fields_and_places d_check_fields_and_places
  m_check_fields_and_places : mg "check_fields_and_places" = some (.ref a_check_fields_and_places)
  b_check_fields_and_places : Binds K d_check_fields_and_places P_check_fields_and_places []
  a_sum_of : Addr
  d_sum_of : FuncData
  F_sum_of : Fun K "sum_of" "sum_of" s_sum_of a_sum_of d_sum_of
  m_sum_of : mg "sum_of" = some (.ref a_sum_of)
  b_sum_of : Binds K d_sum_of P_sum_of []
  q_sum_of_other_one : KBinds K d_sum_of P_sum_of ["other", "one"] two2s two2s
  a_common : Addr
  d_common : FuncData
  F_common : Fun K "common" "common" s_common a_common d_common
  m_common : mg "common" = some (.ref a_common)
  b_common : Binds K d_common P_common []
  q_common_other_one : KBinds K d_common P_common ["other", "one"] two2s two2s
  a_is_within : Addr
  d_is_within : FuncData
  F_is_within : Fun K "is_within" "is_within" s_is_within a_is_within d_is_within
  m_is_within : mg "is_within" = some (.ref a_is_within)
  b_is_within : Binds K d_is_within P_is_within []
  q_is_within_one_other : KBinds K d_is_within P_is_within ["one", "other"] two2 two2
  q_is_within_other_one : KBinds K d_is_within P_is_within ["other", "one"] two2s two2s
  a__law_deck : Addr
  d__law_deck : FuncData
  F__law_deck : Fun K "_law_deck" "_law_deck" s__law_deck a__law_deck d__law_deck
  m__law_deck : mg "_law_deck" = some (.ref a__law_deck)
  b__law_deck : Binds K d__law_deck P__law_deck []
  a__law_draw : Addr
  d__law_draw : FuncData
  F__law_draw : Fun K "_law_draw" "_law_draw" s__law_draw a__law_draw d__law_draw
  m__law_draw : mg "_law_draw" = some (.ref a__law_draw)
  b__law_draw : Binds K d__law_draw P__law_draw []
  a__law_by : Addr
  d__law_by : FuncData
  F__law_by : Fun K "_law_by" "_law_by" s__law_by a__law_by d__law_by
  m__law_by : mg "_law_by" = some (.ref a__law_by)
  b__law_by : Binds K d__law_by P__law_by []
  a__law_plus : Addr
  d__law_plus : FuncData
  F__law_plus : Fun K "_law_plus" "_law_plus" s__law_plus a__law_plus d__law_plus
  m__law_plus : mg "_law_plus" = some (.ref a__law_plus)
  b__law_plus : Binds K d__law_plus P__law_plus []
  a__law_times : Addr
  d__law_times : FuncData
  F__law_times : Fun K "_law_times" "_law_times" s__law_times a__law_times d__law_times
  m__law_times : mg "_law_times" = some (.ref a__law_times)
  b__law_times : Binds K d__law_times P__law_times []
  a__law_minus : Addr
  d__law_minus : FuncData
  F__law_minus : Fun K "_law_minus" "_law_minus" s__law_minus a__law_minus d__law_minus
  m__law_minus : mg "_law_minus" = some (.ref a__law_minus)
  b__law_minus : Binds K d__law_minus P__law_minus []
  a__law_rank : Addr
  d__law_rank : FuncData
  F__law_rank : Fun K "_law_rank" "_law_rank" s__law_rank a__law_rank d__law_rank
  m__law_rank : mg "_law_rank" = some (.ref a__law_rank)
  b__law_rank : Binds K d__law_rank P__law_rank []
  a__law_is_letter : Addr
  d__law_is_letter : FuncData
  F__law_is_letter : Fun K "_law_is_letter" "_law_is_letter" s__law_is_letter a__law_is_letter d__law_is_letter
  m__law_is_letter : mg "_law_is_letter" = some (.ref a__law_is_letter)
  b__law_is_letter : Binds K d__law_is_letter P__law_is_letter []
  a__law_are_reduced : Addr
  d__law_are_reduced : FuncData
  F__law_are_reduced : Fun K "_law_are_reduced" "_law_are_reduced" s__law_are_reduced a__law_are_reduced d__law_are_reduced
  m__law_are_reduced : mg "_law_are_reduced" = some (.ref a__law_are_reduced)
  b__law_are_reduced : Binds K d__law_are_reduced P__law_are_reduced []
  a__law_is_book : Addr
  d__law_is_book : FuncData
  F__law_is_book : Fun K "_law_is_book" "_law_is_book" s__law_is_book a__law_is_book d__law_is_book
  m__law_is_book : mg "_law_is_book" = some (.ref a__law_is_book)
  b__law_is_book : Binds K d__law_is_book P__law_is_book []
  a__law_rows : Addr
  d__law_rows : FuncData
  F__law_rows : Fun K "_law_rows" "_law_rows" s__law_rows a__law_rows d__law_rows
  m__law_rows : mg "_law_rows" = some (.ref a__law_rows)
  b__law_rows : Binds K d__law_rows P__law_rows []
  a__law_product : Addr
  d__law_product : FuncData
  F__law_product : Fun K "_law_product" "_law_product" s__law_product a__law_product d__law_product
  m__law_product : mg "_law_product" = some (.ref a__law_product)
  b__law_product : Binds K d__law_product P__law_product []
  a__law_are_checks : Addr
  d__law_are_checks : FuncData
  F__law_are_checks : Fun K "_law_are_checks" "_law_are_checks" s__law_are_checks a__law_are_checks d__law_are_checks
  m__law_are_checks : mg "_law_are_checks" = some (.ref a__law_are_checks)
  b__law_are_checks : Binds K d__law_are_checks P__law_are_checks []
  a__law_is_mirror : Addr
  d__law_is_mirror : FuncData
  F__law_is_mirror : Fun K "_law_is_mirror" "_law_is_mirror" s__law_is_mirror a__law_is_mirror d__law_is_mirror
  m__law_is_mirror : mg "_law_is_mirror" = some (.ref a__law_is_mirror)
  b__law_is_mirror : Binds K d__law_is_mirror P__law_is_mirror []
  a__law_is_common : Addr
  d__law_is_common : FuncData
  F__law_is_common : Fun K "_law_is_common" "_law_is_common" s__law_is_common a__law_is_common d__law_is_common
  m__law_is_common : mg "_law_is_common" = some (.ref a__law_is_common)
  b__law_is_common : Binds K d__law_is_common P__law_is_common []
  a__law_told : Addr
  d__law_told : FuncData
  F__law_told : Fun K "_law_told" "_law_told" s__law_told a__law_told d__law_told
  m__law_told : mg "_law_told" = some (.ref a__law_told)
  b__law_told : Binds K d__law_told P__law_told []
  a__law_near : Addr
  d__law_near : FuncData
  F__law_near : Fun K "_law_near" "_law_near" s__law_near a__law_near d__law_near
  m__law_near : mg "_law_near" = some (.ref a__law_near)
  b__law_near : Binds K d__law_near P__law_near []
  a__law_are_joined : Addr
  d__law_are_joined : FuncData
  F__law_are_joined : Fun K "_law_are_joined" "_law_are_joined" s__law_are_joined a__law_are_joined d__law_are_joined
  m__law_are_joined : mg "_law_are_joined" = some (.ref a__law_are_joined)
  b__law_are_joined : Binds K d__law_are_joined P__law_are_joined []
  a_law : Addr
  d_law : FuncData
  c_law : Addr
  tP_law : Addr
  F_law : FunL K "law" "law" s_law a_law d_law c_law
  m_law : mg "law" = some (.ref a_law)
  b_law : Binds K d_law P_law []
  B0 : Addr
  gB : mg "BookError" = some (.ref B0)
  C_BadField : Addr
  I_BadField : Addr
  e_BadField : Er.Txt P K mg B0 C_BadField I_BadField "BadField" "thing"
  C_Book : Addr
  g_Book : mg "Book" = some (.ref C_Book)
  cl_Book : Cls K C_Book
  mk_Book : Mk K C_Book a_Book___init__
  is_Book : ClsIs K C_Book
  no_Book_q : NoAttr K C_Book "q"
  no_Book_n : NoAttr K C_Book "n"
  no_Book_rows : NoAttr K C_Book "rows"
  no_Book_dimension : NoAttr K C_Book "dimension"
  eq_Book : PySem.W.findIn K (.ref C_Book) "__eq__" = some (some (.ref a_Book___eq__))
  eqf_Book : PySem.W.isFn K (.ref a_Book___eq__) = true
  t_MOST_PLACES : Tok
  m_MOST_PLACES : mg "MOST_PLACES" = some (.int 8 t_MOST_PLACES)
  t_MOST_ROWS : Tok
  m_MOST_ROWS : mg "MOST_ROWS" = some (.int 16 t_MOST_ROWS)
  t_four : Addr
  m_four : mg "FOUR_TIMES" = some (.ref t_four)
  four : FourTab K t_four
  C_OtherFields : Addr
  e_OtherFields : Ebare K mg "OtherFields" C_OtherFields
  C_OtherPlaces : Addr
  e_OtherPlaces : Ebare K mg "OtherPlaces" C_OtherPlaces
  ne_Book : PySem.W.findIn K (.ref C_Book) "__ne__" = some (some (.builtin "object.__ne__"))
  ob_Book : PySem.W.subIn K (.ref C_Book) (.type "object") = some true
  x_pf : PySem.W.subIn K (.ref C_OtherPlaces) (.ref C_OtherFields) = some false
  tnd : [tP_law].Nodup
  m_all : mg "all" = none
  m_bool : mg "bool" = none
  m_enumerate : mg "enumerate" = none
  m_int : mg "int" = none
  m_isinstance : mg "isinstance" = none
  m_len : mg "len" = none
  m_list : mg "list" = none
  m_max : mg "max" = none
  m_range : mg "range" = none
  m_repr : mg "repr" = none
  m_set : mg "set" = none
  m_sorted : mg "sorted" = none
  m_tuple : mg "tuple" = none
  m_zip : mg "zip" = none
def spLaw (K : PySem.W.Frag) (TT : List (Addr × Str)) : Sp := fun vs H Q _ => ∃ (a : Addr) (ns : List Int), vs = [.ref a] ∧ SqL K H a (ns.map V.int) ∧ ns.length ≤ 63 ∧ Tabs TT H ∧ ∀ H', Q (.bl true) H'
def TI (K : PySem.W.Frag) (H : Hp) (v : V) (ns : List Int) : Prop := ∃ a, v = .ref a ∧ SqT K H a (ns.map V.int)
theorem _root_.L2.Same.tup {K : PySem.W.Frag} {H H' : Hp} {a : Addr} {xs : List V} (e : Same H H') (h : SqT K H a xs) : SqT K H' a xs := by
  rcases h with (h | ⟨o, h⟩) | h
  · exact .inl (.inl (e _ _ h))
  · exact .inl (.inr ⟨o, e _ _ h⟩)
  · exact .inr h
theorem TI.same {K : PySem.W.Frag} {H H' : Hp} {v : V} {ns : List Int} (h : TI K H v ns) (e : Same H H') : TI K H' v ns :=
  let ⟨a, h1, h2⟩ := h
  ⟨a, h1, e.tup h2⟩
theorem same_upd {H : Hp} {p : Addr} {o : HO} (h : H p = none) : Same H (upd H p o) := fun b u e => by
  rw [upd_ne (ne_of_none e h)]
  exact e
theorem same_set {H H' : Hp} {p : Addr} {o : HO} (h : H p = none) (e : Same H H') : Same H (upd H' p o) := fun b u q => by
  rw [upd_ne (ne_of_none q h)]
  exact e b u q
theorem tyx_tup {K : PySem.W.Frag} {H : Hp} {a : Addr} {xs : List V} (h : SqT K H a xs) : TyX K H (.ref a) (.type "tuple") := by
  rcases h with (h | ⟨o, h⟩) | ⟨o, its, n, h1, h2, _⟩
  · exact .base (.tup h)
  · exact .fTuple h
  · exact .kTuple h1 h2
theorem int_at {ns : List Int} {i : Nat} {x : V} (h : (ns.map V.int)[i]? = some x) : ∃ z, ns[i]? = some z ∧ x = .int z := by
  rw [List.getElem?_map] at h
  cases e : ns[i]? with
  | none =>
    rw [e] at h
    cases h
  | some z =>
    rw [e] at h
    exact ⟨z, rfl, (Option.some.inj h).symm⟩
theorem line_le {n : Nat} (h : n ≤ 100000) : n < sizeLine := Nat.lt_of_le_of_lt h (by decide)
end K09
end
section
set_option maxRecDepth 100000
set_option maxHeartbeats 4000000
namespace K09
open PySem PySem.Spec PyProof.Rows L2 MB LM
open LamX hiding takes0
section
variable {w : World} {K : PySem.W.Frag} {mg : Str → Option Value} {base : Heap}
def spInt (K : PySem.W.Frag) : Sp := fun vs H Q _ => ∃ (v : V) (o : Option Int), vs = [v] ∧ IntQ K H v o ∧ Q (.bl o.isSome) H
theorem ok_is_integer (T : Txt K mg) : FnOk P w K mg base CX0 1 T.a_is_integer T.d_is_integer P_is_integer (spInt K) := by
  refine T.F_is_integer.ok sc_is_integer (fun vs H Q E h => ?_) (fun cdv A outer s H vs Q E hr h => ?_)
  · obtain ⟨v, o, rfl, _⟩ := h
    rfl
  · obtain ⟨v, o, rfl, hv, q⟩ := h
    refine ⟨_, 
      (pss_one (ps_ret (pe_and (pe_callB (id := "isinstance") (r := rIsi K) call_isi (by rfl) T.m_isinstance (by decide +kernel) (pa_cons (pv 0) (pa_cons (pe_bltn (by rfl) T.m_int (v := .ty "int") (by decide +kernel) rfl) pa_nil))) (pe_one (pe_not (pe_callB (id := "isinstance") (r := rIsi K) call_isi (by rfl) T.m_isinstance (by decide +kernel) (pa_cons (pv 0) (pa_cons (pe_bltn (by rfl) T.m_bool (v := .ty "bool") (by decide +kernel) rfl) pa_nil)))))))), ?_⟩
    cases o with
    | some i =>
      obtain rfl : v = .int i := hv
      refine ⟨_, rfl, _, _, _, _, _, rfl, .ty "int", .base (.int i), kit_ty (r := true) (by decide +kernel), true, rfl, ?_⟩
      refine iteT ?_
      exact ⟨_, rfl, _, _, _, _, _, rfl, .ty "bool", .base (.int i), kit_ty (r := false) (by decide +kernel), false, rfl, q⟩
    | none =>
      rcases hv with ⟨b, rfl⟩ | ⟨t, ht, hk⟩
      · refine ⟨_, rfl, _, _, _, _, _, rfl, .ty "int", .base (.bl b), kit_ty (r := true) (by decide +kernel), true, rfl, ?_⟩
        refine iteT ?_
        exact ⟨_, rfl, _, _, _, _, _, rfl, .ty "bool", .base (.bl b), kit_ty (r := true) (by decide +kernel), true, rfl, q⟩
      · refine ⟨_, rfl, _, _, _, _, _, rfl, .ty "int", ht, hk, false, rfl, ?_⟩
        exact iteF q
def Lev (K : PySem.W.Frag) (H : Hp) (v : V) : Option (List (Option Int)) → Prop
  | none => TupQ K H v none
  | some os => ∃ xs, TupQ K H v (some xs) ∧ Paired (IntQ K H) xs os ∧ xs.length ≤ 1000
def allInt : Option (List (Option Int)) → Bool
  | none => false
  | some os => os.all (·.isSome)
theorem paired_at {α β : Type} {R : α → β → Prop} {xs : List α} {ys : List β} (h : Paired R xs ys) {i : Nat} {x : α} (e : xs[i]? = some x) : ∃ y, ys[i]? = some y ∧ R x y := by
  induction h generalizing i with
  | nil => simp at e
  | cons r rs ih =>
    cases i with
    | zero =>
      obtain rfl := Option.some.inj e
      exact ⟨_, rfl, r⟩
    | succ i => exact ih e
theorem take_map_add {α β : Type} (f : α → β) {l : List α} {i : Nat} {x : α} (e : l[i]? = some x) : (l.take (i + 1)).map f = (l.take i).map f ++ [f x] := by
  rw [List.take_add_one, e]
  simp
end
theorem dec_int (a b : Int) : decide (V.int a = V.int b) = decide (a = b) := by
  by_cases h : a = b
  · subst h
    simp
  · rw [decide_eq_false h, decide_eq_false (fun e => h (V.int.inj e))]
end K09
end
section
set_option maxRecDepth 100000
set_option maxHeartbeats 4000000
set_option exponentiation.threshold 9000
namespace K09
open PySem PySem.Spec PyProof.Rows L2 MB LM
open LamX hiding takes0
abbrev kL : Str := "cells"
theorem kOk : KOk kL := ⟨by decide +kernel, by decide +kernel⟩
theorem cut63 {ns : List Int} (h : ns.length ≤ 63) : cutV (ns.map V.int) none (some (63 : Int)) = ns.map V.int := by
  have e : HT.sIx ns.length ns.length (some (63 : Int)) = min 63 ns.length := HT.sIx_nat _ _ 63
  unfold cutV
  rw [HT.sIx_none, List.drop_zero, List.length_map, e, List.take_of_length_le (by rw [List.length_map]; omega)]
theorem get_left {H : Hp} {d l : Addr} {m n : Int} (h : H d = some (.dK (dk kL l m n))) : DGet H d (.str kL) (some (.ref l)) :=
  .inl ⟨_, .inr kL, .inl h, rfl, dk_left.symm⟩
theorem get_mixed {H : Hp} {d l : Addr} {m n : Int} (h : H d = some (.dK (dk kL l m n))) : DGet H d (.str "mixed") (some (.int m)) :=
  .inl ⟨_, .inr "mixed", .inl h, rfl, (dk_mixed kOk).symm⟩
theorem get_draws {H : Hp} {d l : Addr} {m n : Int} (h : H d = some (.dK (dk kL l m n))) : DGet H d (.str "draws") (some (.int n)) :=
  .inl ⟨_, .inr "draws", .inl h, rfl, (dk_draws kOk).symm⟩
section
variable {w : World} {K : PySem.W.Frag} {mg : Str → Option Value} {base : Heap}
def spDeck (K : PySem.W.Frag) : Sp := fun vs H Q _ => ∃ (a : Addr) (ns : List Int), vs = [.ref a] ∧ SqL K H a (ns.map V.int) ∧ ns.length ≤ 63 ∧
  ∀ d l H', Same H H' → Deck kL H' d l → Q (.ref d) H'
theorem ok__law_deck (T : Txt K mg) : FnOk P w K mg base CX0 1 T.a__law_deck T.d__law_deck P__law_deck (spDeck K) := by
  refine T.F__law_deck.ok sc__law_deck (fun vs H Q E h => ?_) (fun cdv A outer s H vs Q E hr h => ?_)
  · obtain ⟨a, ns, rfl, _⟩ := h
    rfl
  · obtain ⟨a, ns, rfl, ha, hl, q⟩ := h
    refine ⟨_, 
      (pss_cons (ps_set (i := 1) sc__law_deck.nd rfl (Or.inl rfl) pe_int)
      (pss_cons (ps_for PassesOwn.never rfl (pi_list (pe_slice sl_list (pv 0) po_none (po_some pe_int))) (pg_name (i := 2) sc__law_deck.nd rfl (Or.inl rfl)) (pss_one (ps_set (i := 1) sc__law_deck.nd rfl (Or.inl rfl) (pe_op op_mod (pe_callTy call_int1 (by rfl) T.m_int (by decide +kernel) (pa_cons (pe_op op_add (pe_op op_add (pe_op op_mul (pv 1) pe_int) (pe_op op_mod (pe_callTy call_int1 (by rfl) T.m_int (by decide +kernel) (pa_cons (pv 2) pa_nil)) pe_int)) pe_int) pa_nil)) pe_int))))
      (pss_one (ps_ret (pe_disp (pps_cons pe_str (pe_revL (pe_callTy call_list_of (by rfl) T.m_list (by decide +kernel) (pa_cons (pe_slice sl_list (pv 0) po_none (po_some pe_int)) pa_nil))) (pps_cons pe_str (pv 1) (pps_cons pe_str pe_int pps_nil))) (by rfl) (by rfl) (fun z => by cases z) (by decide)))))), ?_⟩
    refine ⟨_, rfl, _, rfl, a, _, rfl, ha, fun p hp => ?_⟩
    rw [cut63 hl]
    have s1 := same_upd (o := .lst (ns.map V.int)) hp
    refine ⟨p, rfl, ⟨_, SqL.of upd_same⟩, for_it (walk_list (K := K) (a := p) (xs := ns.map V.int))
      (fun i σ H' => ∃ (m : Int) (u : Option V), σ = [some (.ref a), some (.int m), u] ∧ 0 ≤ m ∧ m < 2147483648 ∧ H' = upd H p (.lst (ns.map V.int)))
      ⟨_, none, rfl, by decide, by decide, rfl⟩ (fun i σ H' _ ⟨_, _, _, _, _, e⟩ => by rw [e]; exact SqL.of upd_same) ?_ ?_⟩
    · rintro i v _ _ _ hi ⟨m, u, rfl, m0, m1, rfl⟩ ⟨rfl, hv⟩
      obtain ⟨c, hc, rfl⟩ := int_at hv
      refine ⟨_, rfl, _, _, rfl, rfl, .inr (by decide), _, rfl, .inl ⟨_, rfl, ?_⟩⟩
      refine ⟨_, _, rfl, rfl, (by decide : (0 : Int) < 2147483629), _, _, rfl, rfl, _, _, rfl, rfl, .inl ⟨_, rfl, ?_⟩⟩
      refine ⟨_, _, rfl, rfl, (by decide : (0 : Int) < 2147483587), _, _, rfl, ?_, ?_, rfl⟩
      · exact Int.emod_nonneg _ (by decide)
      · exact Int.lt_trans (Int.emod_lt_of_pos _ (by decide)) (by decide)
    · rintro _ _ ⟨m, u, rfl, m0, m1, rfl⟩
      refine fun d hd => ?_
      have s2 := s1.trans (same_upd (o := .dK []) hd)
      refine ⟨_, rfl, _, rfl, a, _, rfl, s2.seq ha, fun p2 hp2 => ?_⟩
      rw [cut63 hl]
      have s3 := s2.trans (same_upd (o := .lst (ns.map V.int)) hp2)
      refine ⟨p2, _, rfl, .inl (SqL.of upd_same), fun p3 hp3 => ?_⟩
      have s4 := s3.trans (same_upd (o := .lst (ns.map V.int)) hp3)
      refine ⟨p3, _, rfl, SqL.of upd_same, fun l hl4 => ?_⟩
      have s5 := s4.trans (same_upd (o := .lst (ns.map V.int).reverse) hl4)
      refine ⟨_, rfl, ?_⟩
      have at3 : ∀ {q : Addr} {o : HO} {G : Hp}, G d = some (.dK []) → G q = none → (upd G q o) d = some (.dK []) := fun h1 h2 => (upd_ne (ne_of_none h1 h2)).trans h1
      have hd4 := at3 (o := .lst (ns.map V.int)) (at3 (o := .lst (ns.map V.int)) upd_same hp2) hp3
      have hd5 := at3 (o := .lst (ns.map V.int).reverse) hd4 hl4
      refine ⟨hd5, dk kL l m 0, rfl, (by decide : 3 ≤ 15), ?_⟩
      rw [dk_merge kOk]
      have hdl : l ≠ d := (ne_of_none hd4 hl4).symm
      refine q d l _ (same_set (s1.free hd) s5) ⟨m, 0, ns.reverse, upd_same, ?_, ?_, m0, m1⟩
      · rw [upd_ne hdl, upd_same, List.map_reverse]
      · rw [List.length_reverse]
        exact hl
def spDraw : Sp := fun vs H Q _ => ∃ (d l : Addr) (k : Int), vs = [.ref d, .int k] ∧ 0 < k ∧ k.natAbs < 2 ^ 8000 ∧ Deck kL H d l ∧
  ∀ (r : Int) H', 0 ≤ r → r < k → But d l H H' → Deck kL H' d l → Q (.int r) H'
theorem ok__law_draw (T : Txt K mg) : FnOk P w K mg base CX0 1 T.a__law_draw T.d__law_draw P__law_draw spDraw := by
  refine T.F__law_draw.ok sc__law_draw (fun vs H Q E h => ?_) (fun cdv A outer s H vs Q E hr h => ?_)
  · obtain ⟨d, l, k, rfl, _⟩ := h
    rfl
  · obtain ⟨d, l, k, rfl, k0, kb, D, q⟩ := h
    have hne := D.ne
    obtain ⟨m, n, cs, hd, hl, lc, m0, m1⟩ := D.ex
    refine ⟨_, 
      (pss_cons (ps_dput (hu_of hr) (pv 0) pe_str (pe_op op_add (pe_dget (hu_of hr) (pv 0) pe_str (fun _ _ => rfl)) pe_int) rfl)
      (pss_cons (ps_set (i := 2) sc__law_draw.nd rfl (Or.inl rfl) (pe_op op_add (pe_dget (hu_of hr) (pv 0) pe_str (fun _ _ => rfl)) (pe_op op_mul pe_int (pe_dget (hu_of hr) (pv 0) pe_str (fun _ _ => rfl)))))
      (pss_cons (ps_if (pt_cmpR (op_neD hr.units) (pe_dget (hu_of hr) (pv 0) pe_str (fun _ _ => rfl)) (pe_lst pa_nil) (nomark _)) (pss_cons (ps_set (i := 3) sc__law_draw.nd rfl (Or.inl rfl) (pe_bm0 PySem.F.plainAttrs_list PySem.F.slot_list_pop PySem.F.type_list_pop mt_pop (pe_dget (hu_of hr) (pv 0) pe_str (fun _ _ => rfl))))
      (pss_cons (ps_if (pt_cmpR op_ge (pv 3) (pe_op op_pow pe_int pe_int) (nomark _)) (pss_cons (ps_expr (pe_bm PySem.F.plainAttrs_list PySem.F.slot_list_append PySem.F.type_list_append mt_append (pe_dget (hu_of hr) (pv 0) pe_str (fun _ _ => rfl)) (pa_cons (pe_op op_fdivW (pv 3) (pe_callB (call_max2 rfl) (by rfl) T.m_max (by decide +kernel) (pa_cons pe_int (pa_cons (pv 1) pa_nil)))) pa_nil)))
      (pss_one (ps_ret (pe_op op_modN (pe_callTy call_int1 (by rfl) T.m_int (by decide +kernel) (pa_cons (pv 3) pa_nil)) (pv 1))))) pss_nil)
      (pss_one (ps_set (i := 2) sc__law_draw.nd rfl (Or.inl rfl) (pe_op op_add (pv 2) (pe_op op_mod (pe_callTy call_int1 (by rfl) T.m_int (by decide +kernel) (pa_cons (pv 3) pa_nil)) pe_int)))))) pss_nil)
      (pss_cons (ps_set (i := 2) sc__law_draw.nd rfl (Or.inl rfl) (pe_op op_mod (pe_callTy call_int1 (by rfl) T.m_int (by decide +kernel) (pa_cons (pe_op op_add (pe_op op_mul (pv 2) pe_int) pe_int) pa_nil)) pe_int))
      (pss_cons (ps_set (i := 2) sc__law_draw.nd rfl (Or.inl rfl) (pe_op op_mod (pe_callTy call_int1 (by rfl) T.m_int (by decide +kernel) (pa_cons (pe_op op_add (pe_op op_add (pe_op op_mulW (pv 2) (pv 2)) (pe_op op_mul pe_int (pe_dget (hu_of hr) (pv 0) pe_str (fun _ _ => rfl)))) pe_int) pa_nil)) pe_int))
      (pss_cons (ps_set (i := 2) sc__law_draw.nd rfl (Or.inl rfl) (pe_op op_mod (pe_callTy call_int1 (by rfl) T.m_int (by decide +kernel) (pa_cons (pe_op op_mul (pv 2) pe_int) pa_nil)) pe_int))
      (pss_one (ps_ret (pe_op op_modN (pe_callTy call_int1 (by rfl) T.m_int (by decide +kernel) (pa_cons (pe_op op_fdiv (pv 2) pe_int) pa_nil)) (pv 1)))))))))), ?_⟩
    refine ⟨_, rfl, d, _, rfl, get_draws hd, _, _, rfl, rfl, _, rfl, d, _, rfl, DPut.k (k := Sum.inr ("draws" : Str)) hd (line_le (by decide : 3 ≤ 100000)), ?_⟩
    rw [dk_put kOk]
    have hd1 : (upd H d (.dK (dk kL l m (n + 1)))) d = some (.dK (dk kL l m (n + 1))) := upd_same
    have hl1 : (upd H d (.dK (dk kL l m (n + 1)))) l = some (.lst (cs.map V.int)) := (upd_ne hne.symm).trans hl
    have e1 : But d l H (upd H d (.dK (dk kL l m (n + 1)))) := fun b o h h1 _ => (upd_ne h1).trans h
    have D1 : Deck kL (upd H d (.dK (dk kL l m (n + 1)))) d l := ⟨m, n + 1, cs, hd1, hl1, lc, m0, m1⟩
    refine ⟨_, rfl, d, _, rfl, get_mixed hd1, _, rfl, d, _, rfl, get_draws hd1, _, _, rfl, rfl, .inl (by decide), _, _, rfl, rfl, ?_⟩
    refine ⟨_, rfl, d, _, rfl, get_left hd1, (by decide : 0 ≤ sizeLine), fun p hp => ?_⟩
    have s2 := same_upd (o := .lst []) hp
    refine ne_nil_rd (SqL.of (s2 _ _ hl1)) (SqL.of upd_same) ⟨_, rfl, ?_⟩
    generalize hH2 : upd (upd H d (.dK (dk kL l m (n + 1)))) p (.lst []) = H2
    rw [hH2] at s2
    have hd2 := s2 _ _ hd1
    have hl2 := s2 _ _ hl1
    have e2 : But d l H H2 := e1.same s2
    have D2 : Deck kL H2 d l := D1.same s2
    clear hH2 s2 hp e1 D1 hd1 hl1
    cases hcs : cs with
    | nil =>
      refine iteF ?_
      have bnd : ∀ x : Int, (x % 2147483647).natAbs < 2 ^ 32 := fun x => by
        have h1 := Int.emod_nonneg x (by decide : (2147483647 : Int) ≠ 0)
        have h2 := Int.emod_lt_of_pos x (by decide : (0 : Int) < 2147483647)
        omega
      refine ⟨_, rfl, _, _, rfl, rfl, .inr (by decide), _, _, rfl, rfl, .inl ⟨_, rfl, ?_⟩⟩
      refine ⟨_, _, rfl, rfl, (by decide : (0 : Int) < 2147483647), ?_⟩
      refine ⟨_, rfl, _, rfl, _, _, rfl, rfl, wide_mul (bnd _) (bnd _) (by decide) (by decide) (by decide), _, rfl, d, _, rfl, get_draws hd2, _, _, rfl, rfl, .inl (by decide), _, _, rfl, rfl, _, _, rfl, rfl, .inl ⟨_, rfl, ?_⟩⟩
      refine ⟨_, _, rfl, rfl, (by decide : (0 : Int) < 2147483587), ?_⟩
      refine ⟨_, rfl, _, _, rfl, rfl, .inr (by decide), .inl ⟨_, rfl, ?_⟩⟩
      refine ⟨_, _, rfl, rfl, (by decide : (0 : Int) < 2147483563), ?_⟩
      refine ⟨_, rfl, _, _, rfl, rfl, ⟨by decide, by decide⟩, .inl ⟨_, rfl, ?_⟩⟩
      refine ⟨_, rfl, _, _, rfl, rfl, (by omega : k ≠ 0), ?_⟩
      exact q _ _ (Int.fmod_nonneg_of_pos _ k0) (Int.fmod_lt_of_pos _ k0) e2 D2
    | cons c0 cr =>
      refine iteT ?_
      obtain ⟨ys, c, hys⟩ : ∃ ys c, cs = ys ++ [c] := ⟨cs.dropLast, cs.getLast (by rw [hcs]; simp), (List.dropLast_concat_getLast _).symm⟩
      clear hcs
      subst hys
      rw [List.length_append, List.length_singleton] at lc
      rw [List.map_append] at hl2
      refine ⟨_, rfl, d, _, rfl, get_left hd2, .inl ⟨rfl, _, SqL.of hl2⟩, l, _, .int c, rfl, rfl, hl2, ?_, ?_⟩
      · simp
      have edl : (ys.map V.int ++ [c].map V.int).dropLast = ys.map V.int := by
        show (ys.map V.int ++ [V.int c]).dropLast = _
        rw [List.dropLast_concat]
      rw [edl]
      have hd3 : (upd H2 l (.lst (ys.map V.int))) d = some (.dK (dk kL l m (n + 1))) := (upd_ne hne).trans hd2
      have hl3 : (upd H2 l (.lst (ys.map V.int))) l = some (.lst (ys.map V.int)) := upd_same
      have e3 : But d l H (upd H2 l (.lst (ys.map V.int))) := fun b o h h1 h2 => (upd_ne h2).trans (e2 b o h h1 h2)
      have D3 : Deck kL (upd H2 l (.lst (ys.map V.int))) d l := ⟨m, n + 1, ys, hd3, hl3, by omega, m0, m1⟩
      generalize upd H2 l (.lst (ys.map V.int)) = H3 at hd3 hl3 e3 D3
      clear e2 D2 hd2 hl2
      refine ⟨_, rfl, _, _, rfl, rfl, ⟨by decide, by decide, by decide⟩, _, _, rfl, rfl, _, rfl, ?_⟩
      refine ite2 (fun _ => ?_) (fun _ => ?_)
      ·
        have dv : CDivW c (if k > 2 then k else 2) := by
          split
          · exact wide_div k0 kb (by decide) (by decide)
          · exact wide_div (by decide) (b := 8) (by decide) (by decide) (by decide)
        refine ⟨_, rfl, d, _, rfl, get_left hd3, .inl ⟨rfl, _, SqL.of hl3⟩, _, rfl, _, rfl, _, _, rfl, _, _, rfl, rfl, dv, l, _, _, rfl, rfl, hl3, ?_, ?_⟩
        · rw [List.length_map]
          exact line_le (by omega)
        refine ⟨_, rfl, .inl ⟨_, rfl, ?_⟩⟩
        refine ⟨_, rfl, _, _, rfl, rfl, (by omega : k ≠ 0), ?_⟩
        refine q _ _ (Int.fmod_nonneg_of_pos _ k0) (Int.fmod_lt_of_pos _ k0) (fun b o h h1 h2 => (upd_ne h2).trans (e3 b o h h1 h2)) ?_
        refine ⟨m, n + 1, ys ++ [c / (if k > 2 then k else 2)], (upd_ne hne).trans hd3, ?_, by rw [List.length_append]; simp; omega, m0, m1⟩
        rw [upd_same, List.map_append]
        rfl
      ·
        refine ⟨_, rfl, _, rfl, .inl ⟨_, rfl, ?_⟩⟩
        refine ⟨_, _, rfl, rfl, (by decide : (0 : Int) < 2147483629), _, _, rfl, rfl, ?_⟩
        have bnd : ∀ x : Int, (x % 2147483647).natAbs < 2 ^ 32 := fun x => by
          have h1 := Int.emod_nonneg x (by decide : (2147483647 : Int) ≠ 0)
          have h2 := Int.emod_lt_of_pos x (by decide : (0 : Int) < 2147483647)
          omega
        refine ⟨_, rfl, _, _, rfl, rfl, .inr (by decide), _, _, rfl, rfl, .inl ⟨_, rfl, ?_⟩⟩
        refine ⟨_, _, rfl, rfl, (by decide : (0 : Int) < 2147483647), ?_⟩
        refine ⟨_, rfl, _, rfl, _, _, rfl, rfl, wide_mul (bnd _) (bnd _) (by decide) (by decide) (by decide), _, rfl, d, _, rfl, get_draws hd3, _, _, rfl, rfl, .inl (by decide), _, _, rfl, rfl, _, _, rfl, rfl, .inl ⟨_, rfl, ?_⟩⟩
        refine ⟨_, _, rfl, rfl, (by decide : (0 : Int) < 2147483587), ?_⟩
        refine ⟨_, rfl, _, _, rfl, rfl, .inr (by decide), .inl ⟨_, rfl, ?_⟩⟩
        refine ⟨_, _, rfl, rfl, (by decide : (0 : Int) < 2147483563), ?_⟩
        refine ⟨_, rfl, _, _, rfl, rfl, ⟨by decide, by decide⟩, .inl ⟨_, rfl, ?_⟩⟩
        refine ⟨_, rfl, _, _, rfl, rfl, (by omega : k ≠ 0), ?_⟩
        exact q _ _ (Int.fmod_nonneg_of_pos _ k0) (Int.fmod_lt_of_pos _ k0) e3 D3
end
end K09
end
section
set_option maxRecDepth 100000
set_option maxHeartbeats 4000000
namespace K09
open PySem PySem.Spec PyProof.Rows L2 MB LM
open LamX hiding takes0
section
variable {w : World} {K : PySem.W.Frag} {mg : Str → Option Value} {base : Heap}
def spLsum : Sp := fun vs H Q _ => ∃ q a b : Int, vs = [.int q, .int a, .int b] ∧ LetQ q ∧ Q (.int (lsum q a b)) H
theorem ok_letter_sum (T : Txt K mg) : FnOk P w K mg base CX0 1 T.a_letter_sum T.d_letter_sum P_letter_sum spLsum := by
  refine T.F_letter_sum.ok sc_letter_sum (fun vs H Q E h => ?_) (fun cdv A outer s H vs Q E hr h => ?_)
  · obtain ⟨q, a, b, rfl, _⟩ := h
    rfl
  · obtain ⟨q, a, b, rfl, hq, k⟩ := h
    refine ⟨_, 
      (pss_cons (ps_if (pt_cmpR op_eq (pv 0) pe_int (nomark _)) (pss_one (ps_ret (pe_op op_xor (pv 1) (pv 2)))) pss_nil)
      (pss_one (ps_ret (pe_op op_modN (pe_op op_add (pv 1) (pv 2)) (pv 0))))), ?_⟩
    have := hq.lo
    refine ⟨_, rfl, rfl, _, rfl, ?_⟩
    rw [dec_int]
    unfold lsum at k
    refine ite2 (fun e => ?_) (fun e => ?_)
    · rw [if_pos (of_decide_eq_true e)] at k
      exact ⟨_, rfl, _, rfl, _, _, rfl, rfl, k⟩
    · rw [if_neg (fun z => e (decide_eq_true z))] at k
      exact ⟨_, rfl, _, rfl, _, _, rfl, rfl, _, rfl, _, _, rfl, rfl, by omega, k⟩
def spLneg : Sp := fun vs H Q _ => ∃ q a : Int, vs = [.int q, .int a] ∧ LetQ q ∧ Q (.int (lneg q a)) H
theorem ok_letter_negative (T : Txt K mg) : FnOk P w K mg base CX0 1 T.a_letter_negative T.d_letter_negative P_letter_negative spLneg := by
  refine T.F_letter_negative.ok sc_letter_negative (fun vs H Q E h => ?_) (fun cdv A outer s H vs Q E hr h => ?_)
  · obtain ⟨q, a, rfl, _⟩ := h
    rfl
  · obtain ⟨q, a, rfl, hq, k⟩ := h
    refine ⟨_, 
      (pss_cons (ps_if (pt_cmpR op_eq (pv 0) pe_int (nomark _)) (pss_one (ps_ret (pv 1))) pss_nil)
      (pss_one (ps_ret (pe_op op_modN (pe_op op_sub pe_int (pv 1)) (pv 0))))), ?_⟩
    have := hq.lo
    refine ⟨_, rfl, rfl, _, rfl, ?_⟩
    rw [dec_int]
    unfold lneg at k
    refine ite2 (fun e => ?_) (fun e => ?_)
    · rw [if_pos (of_decide_eq_true e)] at k
      exact ⟨_, rfl, k⟩
    · rw [if_neg (fun z => e (decide_eq_true z))] at k
      exact ⟨_, rfl, _, _, rfl, rfl, _, rfl, _, _, rfl, rfl, by omega, k⟩
def spLtim : Sp := fun vs H Q _ => ∃ q a b : Int, vs = [.int q, .int a, .int b] ∧ LetQ q ∧ (0 ≤ a ∧ a < q) ∧ (0 ≤ b ∧ b < q) ∧ Q (.int (ltim q a b)) H
theorem ok_letter_times (T : Txt K mg) : FnOk P w K mg base CX0 1 T.a_letter_times T.d_letter_times P_letter_times spLtim := by
  refine T.F_letter_times.ok sc_letter_times (fun vs H Q E h => ?_) (fun cdv A outer s H vs Q E hr h => ?_)
  · obtain ⟨q, a, b, rfl, _⟩ := h
    rfl
  · obtain ⟨q, a, b, rfl, hq, ⟨a0, a1⟩, ⟨b0, b1⟩, k⟩ := h
    refine ⟨_, 
      (pss_cons (ps_if (pt_cmpR op_eq (pv 0) pe_int (nomark _)) (pss_one (ps_ret (pe_ix (r := rIxT K) ix_tup (pe_ix (r := rIxT K) ix_tup (pe_glob (v := .ref T.t_four) rfl T.m_four rfl) (pv 1) (fun _ _ => rfl)) (pv 2) (fun _ _ => rfl)))) pss_nil)
      (pss_one (ps_ret (pe_op op_modN (pe_op op_mulW (pv 1) (pv 2)) (pv 0))))), ?_⟩
    have := hq.lo
    have := hq.hi
    refine ⟨_, rfl, rfl, _, rfl, ?_⟩
    rw [dec_int]
    unfold ltim at k
    refine ite2 (fun e => ?_) (fun e => ?_)
    · have e4 := of_decide_eq_true e
      rw [if_pos e4] at k
      obtain ⟨rs, rl, rt, rr⟩ := T.four
      obtain ⟨i, rfl⟩ : ∃ i : Nat, a = (i : Int) := ⟨a.toNat, by omega⟩
      obtain ⟨j, rfl⟩ : ∃ j : Nat, b = (j : Int) := ⟨b.toNat, by omega⟩
      have hi : i < 4 := by omega
      have hj : j < 4 := by omega
      have hir : i < rs.length := by omega
      have hrow := rr i rs[i] H (List.getElem?_eq_getElem hir)
      refine ⟨_, rfl, T.t_four, _, _, .ref rs[i], rfl, rfl, rt H, atI_nat (by rw [List.getElem?_map, List.getElem?_eq_getElem hir]; rfl), _, rfl, rs[i], _, _, .int ((four.getD i []).getD j 0), rfl, rfl, hrow, atI_nat ?_, ?_⟩
      · have : ∀ i < 4, ∀ j < 4, ((four.getD i []).map V.int)[j]? = some (.int ((four.getD i []).getD j 0)) := by decide
        exact this i hi j hj
      · simpa using k
    · rw [if_neg (fun z => e (decide_eq_true z))] at k
      exact ⟨_, rfl, _, rfl, _, _, rfl, rfl, wide_mul (a := 3) (b := 3) (by omega) (by omega) (by decide) (by decide) (by decide), _, rfl, _, _, rfl, rfl, by omega, k⟩
def spLinv : Sp := fun vs H Q _ => ∃ q a : Int, vs = [.int q, .int a] ∧ LetQ q ∧ IsLet q a ∧ a ≠ 0 ∧ ∀ H', Same H H' → Q (.int (linv q a)) H'
theorem ok_letter_inverse (T : Txt K mg) : FnOk P w K mg base CX0 2 T.a_letter_inverse T.d_letter_inverse P_letter_inverse spLinv := by
  refine T.F_letter_inverse.ok sc_letter_inverse (fun vs H Q E h => ?_) (fun cdv A outer s H vs Q E hr h => ?_)
  · obtain ⟨q, a, rfl, _⟩ := h
    rfl
  · obtain ⟨q, a, rfl, hq, ha, a0, k⟩ := h
    refine ⟨_, 
      (pss_one (ps_ret (pe_ix (r := rIxL K) ix_list (pe_lc (own := [("other", 2)]) (g := gName 2)  rfl sc_letter_inverse.nd (pi_range1 rfl T.m_range (pa_cons (pv 0) pa_nil)) (blkOk_by (own := [("other", 2)]) (N := N_letter_inverse) (sc := (defScope s_letter_inverse)) (by decide +kernel)) (fun _ _ _ _ _ => (pg_name (i := 2) sc_letter_inverse.nd rfl (Or.inl rfl))) (fun _ _ _ _ _ => (pts_one (pt_cmpR op_eq (pe_call (ok_letter_times T) (hr.mono (by decide)) rfl T.m_letter_times T.F_letter_times.kp T.b_letter_times .nil pass0 (pa_cons (pv 0) (pa_cons (pv 1) (pa_cons (pv 2) pa_nil)))) pe_int (nomark _)))) (fun _ _ _ _ _ => (pv 2))) pe_int (fun _ _ => rfl)))), ?_⟩
    have := hq.lo
    have := hq.hi
    refine ⟨_, rfl, _, rfl, by omega, by omega, fun D hD => ?_⟩
    have nat : ∀ n : Nat, ((List.range n).map (fun n : Nat => (n : Int))).length = n := fun n => by rw [List.length_map, List.length_range]
    refine lc_it (walk_range (lo := 0) (n := q.toNat))
      (fun i H' => Same H H' ∧ H' D = some (.lst ((((List.range i).map (fun n : Nat => (n : Int))).filter fun x => decide (ltim q a x = 1)).map V.int)))
      ⟨same_upd hD, upd_same⟩ (fun _ _ _ _ => trivial) ?_ ?_
    · rintro i x H' _ hi ⟨e, hN⟩ ⟨rfl, rfl⟩
      refine ⟨rfl, ?_⟩
      refine ⟨_, rfl, _, rfl, _, rfl, q, a, _, rfl, hq, ha, ⟨by omega, by omega⟩, rfl, _, rfl, ?_⟩
      rw [dec_int]
      have z0 : (0 : Int) + (i : Int) = (i : Int) := Int.zero_add _
      rw [z0]
      have sz : ((((List.range i).map (fun n : Nat => (n : Int))).filter fun x => decide (ltim q a x = 1)).map V.int).length < sizeLine := by
        rw [List.length_map]
        exact line_le (Nat.le_trans (List.length_filter_le _ _) (by rw [nat]; omega))
      refine ite2 (fun c => ?_) (fun c => ?_)
      · refine ⟨_, rfl, _, hN, sz, same_set hD e, ?_⟩
        rw [upd_same, invs_next, if_pos c, List.map_append]
        show some (HO.lst (_ ++ [V.int (0 + (i : Int))])) = _
        rw [z0]
        rfl
      · refine ⟨e, ?_⟩
        rw [invs_next, if_neg c, List.append_nil]
        exact hN
    · rintro H' ⟨e, hN⟩
      refine ⟨D, _, 0, .int (linv q a), rfl, rfl, SqL.of hN, atI_nat (j := 0) ?_, k H' e⟩
      rw [List.getElem?_map, ← List.head?_eq_getElem?, List.head?_filter]
      have hs := linv_some hq ha a0
      unfold linv
      cases hf : ((List.range q.toNat).map (fun n : Nat => (n : Int))).find? fun x => decide (ltim q a x = 1) with
      | none =>
        rw [hf] at hs
        cases hs
      | some x => rfl
def spRsum (K : PySem.W.Frag) : Sp := fun vs H Q _ => ∃ (q : Int) (u v : V) (ns ms : List Int), vs = [.int q, u, v] ∧ LetQ q ∧ TI K H u ns ∧ TI K H v ms ∧ ns.length ≤ 1000 ∧
  ∀ z H', Same H H' → TI K H' z (List.zipWith (lsum q) ns ms) → Q z H'
theorem ok_row_sum (T : Txt K mg) : FnOk P w K mg base CX0 2 T.a_row_sum T.d_row_sum P_row_sum (spRsum K) := by
  refine T.F_row_sum.ok sc_row_sum (fun vs H Q E h => ?_) (fun cdv A outer s H vs Q E hr h => ?_)
  · obtain ⟨q, u, v, ns, ms, rfl, _⟩ := h
    rfl
  · obtain ⟨q, _, _, ns, ms, rfl, hq, ⟨a, rfl, ha⟩, ⟨b, rfl, hb⟩, hl, k⟩ := h
    refine ⟨_, 
      (pss_one (ps_ret (pe_callTy call_tuple_of (by rfl) T.m_tuple (by decide +kernel) (pa_cons (pe_lc (own := [("left", 3), ("right", 4)]) (g := gTup K 2 (gCons (gName 3) (gCons (gName 4) gNil))) (tt := tYes) rfl sc_row_sum.nd (RZ.pi_zipA (by rfl) T.m_zip (pa_cons (pv 1) (pa_cons (pv 2) pa_nil))) (blkOk_by (own := [("left", 3), ("right", 4)]) (N := N_row_sum) (sc := (defScope s_row_sum)) (by decide +kernel)) (fun _ _ _ _ _ => (pg_tup rfl (pgs_cons (pg_name (i := 3) sc_row_sum.nd rfl (Or.inl rfl)) (pgs_cons (pg_name (i := 4) sc_row_sum.nd rfl (Or.inl rfl)) pgs_nil)))) (fun _ _ _ _ _ => pts_nil) (fun _ _ _ _ _ => (pe_call (ok_letter_sum T) (hr.mono (by decide)) rfl T.m_letter_sum T.F_letter_sum.kp T.b_letter_sum .nil pass0 (pa_cons (pv 0) (pa_cons (pv 3) (pa_cons (pv 4) pa_nil)))))) pa_nil)))), ?_⟩
    refine ⟨_, rfl, _, rfl, a, b, _, _, rfl, .inr ⟨ha, hb, ?_⟩⟩
    refine fun D hD => lc_it (walk_zipT (K := K) (a := a) (b := b) (xs := ns.map V.int) (ys := ms.map V.int) rfl)
      (fun i H' => Same H H' ∧ H' D = some (.lst (((List.zipWith (lsum q) ns ms).take i).map V.int)))
      ⟨same_upd hD, by rw [upd_same]; simp⟩ (fun i H' _ ⟨e, _⟩ => ⟨e.tup ha, e.tup hb⟩) ?_ ?_
    · rintro i v H' H'' hi ⟨e, hacc⟩ ⟨T0, x, y, rfl, hT0, rfl, hx, hy⟩
      obtain ⟨c, hc, rfl⟩ := int_at hx
      obtain ⟨d, hd, rfl⟩ := int_at hy
      have hiL : i < ns.length := (List.getElem?_eq_some_iff.mp hc).1
      refine ⟨T0, _, rfl, SqT.of upd_same, rfl, _, _, rfl, _, _, rfl, rfl, rfl, ?_⟩
      refine ⟨_, rfl, _, rfl, _, rfl, q, c, d, rfl, hq, _, (upd_ne (ne_of_none hacc hT0)).trans hacc, ?_, ?_, ?_⟩
      · rw [List.length_map, List.length_take]
        exact line_le (by omega)
      · exact same_set hD (e.trans (same_upd hT0))
      · rw [upd_same, List.take_add_one, List.getElem?_zipWith, hc, hd]
        simp
    · rintro H' ⟨e, hacc⟩
      rw [List.length_map, List.length_map, List.take_of_length_le (by rw [List.length_zipWith]; exact Nat.le_refl _)] at hacc
      refine ⟨D, _, rfl, .inl ⟨SqL.of hacc, fun p8 hp8 => ?_⟩⟩
      exact k _ _ (e.trans (same_upd hp8)) ⟨p8, rfl, SqT.of upd_same⟩
def spRtim (K : PySem.W.Frag) : Sp := fun vs H Q _ => ∃ (q c : Int) (v : V) (ns : List Int), vs = [.int q, .int c, v] ∧ LetQ q ∧ IsLet q c ∧ TI K H v ns ∧ IsRow q ns ∧ ns.length ≤ 1000 ∧
  ∀ z H', Same H H' → TI K H' z (ns.map (ltim q c)) → Q z H'
theorem ok_row_times (T : Txt K mg) : FnOk P w K mg base CX0 2 T.a_row_times T.d_row_times P_row_times (spRtim K) := by
  refine T.F_row_times.ok sc_row_times (fun vs H Q E h => ?_) (fun cdv A outer s H vs Q E hr h => ?_)
  · obtain ⟨q, c, v, ns, rfl, _⟩ := h
    rfl
  · obtain ⟨q, c, _, ns, rfl, hq, hc, ⟨a, rfl, ha⟩, hr', hl, k⟩ := h
    refine ⟨_, 
      (pss_one (ps_ret (pe_callTy call_tuple_of (by rfl) T.m_tuple (by decide +kernel) (pa_cons (pe_lc (own := [("item", 3)]) (g := gName 3) (tt := tYes) rfl sc_row_times.nd (pi_tup (pv 2)) (blkOk_by (own := [("item", 3)]) (N := N_row_times) (sc := (defScope s_row_times)) (by decide +kernel)) (fun _ _ _ _ _ => (pg_name (i := 3) sc_row_times.nd rfl (Or.inl rfl))) (fun _ _ _ _ _ => pts_nil) (fun _ _ _ _ _ => (pe_call (ok_letter_times T) (hr.mono (by decide)) rfl T.m_letter_times T.F_letter_times.kp T.b_letter_times .nil pass0 (pa_cons (pv 0) (pa_cons (pv 1) (pa_cons (pv 3) pa_nil)))))) pa_nil)))), ?_⟩
    refine ⟨_, rfl, a, rfl, ⟨_, ha⟩, fun D hD => lc_it (walk_tup (K := K) (a := a) (xs := ns.map V.int))
      (fun i H' => Same H H' ∧ H' D = some (.lst (((ns.map (ltim q c)).take i).map V.int))) ⟨same_upd hD, by rw [upd_same]; simp⟩ (fun i H' _ ⟨e, _⟩ => e.tup ha) ?_ ?_⟩
    · rintro i x H' _ hi ⟨e, hacc⟩ ⟨rfl, hx⟩
      obtain ⟨z, hz, rfl⟩ := int_at hx
      have hiL : i < ns.length := (List.getElem?_eq_some_iff.mp hz).1
      refine ⟨rfl, ?_⟩
      refine ⟨_, rfl, _, rfl, _, rfl, q, c, z, rfl, hq, hc, hr' z (List.mem_of_getElem? hz), _, hacc, ?_, same_set hD e, ?_⟩
      · rw [List.length_map, List.length_take]
        exact line_le (by omega)
      · rw [upd_same, List.take_add_one, List.getElem?_map, hz]
        simp
    · rintro H' ⟨e, hacc⟩
      rw [List.take_of_length_le (by rw [List.length_map, List.length_map]; exact Nat.le_refl _)] at hacc
      refine ⟨D, _, rfl, .inl ⟨SqL.of hacc, fun p8 hp8 => ?_⟩⟩
      exact k _ _ (e.trans (same_upd hp8)) ⟨p8, rfl, SqT.of upd_same⟩
def supp (ns : List Int) : List Int := ((List.range ns.length).filter fun i => ns.getD i 0 != 0).map fun i : Nat => (i : Int)
def spRsup (K : PySem.W.Frag) : Sp := fun vs H Q _ => ∃ (v : V) (ns : List Int), vs = [v] ∧ TI K H v ns ∧ ns.length ≤ 1000 ∧ ∀ z H', Same H H' → TI K H' z (supp ns) → Q z H'
theorem ok_row_support (T : Txt K mg) : FnOk P w K mg base CX0 1 T.a_row_support T.d_row_support P_row_support (spRsup K) := by
  refine T.F_row_support.ok sc_row_support (fun vs H Q E h => ?_) (fun cdv A outer s H vs Q E hr h => ?_)
  · obtain ⟨v, ns, rfl, _⟩ := h
    rfl
  · obtain ⟨_, ns, rfl, ⟨a, rfl, ha⟩, hl, k⟩ := h
    refine ⟨_, 
      (pss_one (ps_ret (pe_callTy call_tuple_of (by rfl) T.m_tuple (by decide +kernel) (pa_cons (pe_lc (own := [("place", 1)]) (g := gName 1)  rfl sc_row_support.nd (pi_range1 rfl T.m_range (pa_cons (pe_callB call_len_seq (by rfl) T.m_len (by decide +kernel) (pa_cons (pv 0) pa_nil)) pa_nil)) (blkOk_by (own := [("place", 1)]) (N := N_row_support) (sc := (defScope s_row_support)) (by decide +kernel)) (fun _ _ _ _ _ => (pg_name (i := 1) sc_row_support.nd rfl (Or.inl rfl))) (fun _ _ _ _ _ => (pts_one (pt_cmpR op_ne (pe_ix (r := rIxT K) ix_tup (pv 0) (pv 1) (fun _ _ => rfl)) pe_int (nomark _)))) (fun _ _ _ _ _ => (pv 1))) pa_nil)))), ?_⟩
    refine ⟨_, rfl, a, _, rfl, .inr ha, _, rfl, ?_, ?_, fun D hD => ?_⟩
    · rw [List.length_map]; omega
    · rw [List.length_map]; omega
    refine lc_it (walk_range (lo := 0) (n := ((ns.map V.int).length : Int).toNat))
      (fun i H' => Same H H' ∧ H' D = some (.lst ((((List.range i).filter fun j => ns.getD j 0 != 0).map fun j : Nat => (j : Int)).map V.int))) ⟨same_upd hD, upd_same⟩ (fun _ _ _ _ => trivial) ?_ ?_
    · rintro i x H' _ hi ⟨e, hN⟩ ⟨rfl, rfl⟩
      rw [List.length_map] at hi
      have hi' : i < ns.length := by omega
      refine ⟨rfl, ?_⟩
      refine ⟨_, rfl, _, rfl, a, _, _, .int ns[i], rfl, rfl, e.tup ha, ?_, rfl, _, rfl, ?_⟩
      · rw [show (0 : Int) + (i : Int) = (i : Int) from Int.zero_add _]
        exact atI_nat (by rw [List.getElem?_map, List.getElem?_eq_getElem hi']; rfl)
      · rw [dec_int]
        have gd : ns.getD i 0 = ns[i] := by rw [List.getD_eq_getElem?_getD, List.getElem?_eq_getElem hi']; rfl
        have sz : ((((List.range i).filter fun j => ns.getD j 0 != 0).map fun j : Nat => (j : Int)).map V.int).length < sizeLine := by
          rw [List.length_map, List.length_map]
          exact line_le (Nat.le_trans (List.length_filter_le _ _) (by rw [List.length_range]; omega))
        refine ite2 (fun c => ?_) (fun c => ?_)
        · refine ⟨_, rfl, _, hN, sz, same_set hD e, ?_⟩
          have c' : (ns.getD i 0 != 0) = true := by
            rw [gd]
            simpa using c
          rw [upd_same, List.range_succ, List.filter_append, List.map_append, List.map_append]
          show some (HO.lst (_ ++ [V.int (0 + (i : Int))])) = _
          rw [Int.zero_add, List.filter_cons_of_pos (by exact c')]
          rfl
        · refine ⟨e, ?_⟩
          have c' : ¬ ((ns.getD i 0 != 0) = true) := by
            rw [gd]
            simpa using c
          rw [List.range_succ, List.filter_append, List.filter_cons_of_neg (by exact c'), List.filter_nil, List.append_nil]
          exact hN
    · rintro H' ⟨e, hN⟩
      refine ⟨D, _, rfl, .inl ⟨SqL.of hN, fun p8 hp8 => ?_⟩⟩
      refine k _ _ (e.trans (same_upd hp8)) ⟨p8, rfl, ?_⟩
      have z : ((ns.map V.int).length : Int).toNat = ns.length := by rw [List.length_map]; omega
      unfold supp
      rw [← z]
      exact SqT.of upd_same
end
end K09
end
section
set_option maxRecDepth 100000
set_option maxHeartbeats 4000000
namespace K09
open PySem PySem.Spec PyProof.Rows L2 MB LM
open LamX hiding takes0
section
variable {w : World} {K : PySem.W.Frag} {mg : Str → Option Value} {base : Heap}
def spWza (K : PySem.W.Frag) : Sp := fun vs H Q _ => ∃ (q : Int) (p : Nat) (u v : V) (row head : List Int), vs = [.int q, .int (p : Int), u, v] ∧ LetQ q ∧ TI K H u row ∧ TI K H v head ∧ IsRow q row ∧ IsRow q head ∧ p < row.length ∧ row.length ≤ 1000 ∧ head.length ≤ 1000 ∧
  ∀ z H', Same H H' → TI K H' z (wza q p row head) → Q z H'
theorem ok_with_zero_at (T : Txt K mg) : FnOk P w K mg base CX0 3 T.a_with_zero_at T.d_with_zero_at P_with_zero_at (spWza K) := by
  refine T.F_with_zero_at.ok sc_with_zero_at (fun vs H Q E h => ?_) (fun cdv A outer s H vs Q E hr h => ?_)
  · obtain ⟨q, p, u, v, row, head, rfl, _⟩ := h
    rfl
  · obtain ⟨q, p, _, v, row, head, rfl, hq, ⟨a, rfl, ha⟩, hv, hrow, hhead, hp, hl, hl2, k⟩ := h
    refine ⟨_, 
      (pss_one (ps_ret (pe_call (ok_row_sum T) (hr.mono (by decide)) rfl T.m_row_sum T.F_row_sum.kp T.b_row_sum .nil pass0 (pa_cons (pv 0) (pa_cons (pv 2) (pa_cons (pe_call (ok_row_times T) (hr.mono (by decide)) rfl T.m_row_times T.F_row_times.kp T.b_row_times .nil pass0 (pa_cons (pv 0) (pa_cons (pe_call (ok_letter_negative T) (hr.mono (by decide)) rfl T.m_letter_negative T.F_letter_negative.kp T.b_letter_negative .nil pass0 (pa_cons (pv 0) (pa_cons (pe_ix (r := rIxT K) ix_tup (pv 2) (pv 1) (fun _ _ => rfl)) pa_nil))) (pa_cons (pv 3) pa_nil)))) pa_nil)))))), ?_⟩
    refine ⟨_, rfl, _, rfl, _, rfl, _, rfl, _, rfl, _, rfl, a, _, _, .int (row.getD p 0), rfl, rfl, ha, atI_nat ?_, q, _, rfl, hq, _, rfl, q, _, v, head, rfl, hq, let_neg hq (row_at hrow hp), hv, hhead, hl2, fun z H1 s1 hz => ?_⟩
    · rw [List.getElem?_map, List.getD_eq_getElem?_getD, List.getElem?_eq_getElem hp]
      rfl
    · exact ⟨q, _, _, row, _, rfl, hq, ⟨a, rfl, s1.tup ha⟩, hz, hl, fun y H2 s2 hy => k y H2 (s1.trans s2) hy⟩
end
end K09
end
section
set_option maxRecDepth 100000
set_option maxHeartbeats 4000000
namespace K09
open PySem PySem.Spec PyProof.Rows L2 MB LM
open LamX hiding takes0
def RowsAt (K : PySem.W.Frag) (H : Hp) (L : Addr) (Ls : List (List Int)) : Prop := ∃ vs, H L = some (.lst vs) ∧ Paired (TI K H) vs Ls
def TupRows (K : PySem.W.Frag) (H : Hp) (v : V) (Ls : List (List Int)) : Prop := ∃ a vs, v = .ref a ∧ SqT K H a vs ∧ Paired (TI K H) vs Ls
theorem rows_same {K : PySem.W.Frag} {H H' : Hp} {vs : List V} {Ls : List (List Int)} (e : Same H H') (h : Paired (TI K H) vs Ls) : Paired (TI K H') vs Ls := by
  induction h with
  | nil => exact .nil
  | cons r _ ih => exact .cons (r.same e) ih
theorem ti_updl {K : PySem.W.Frag} {H : Hp} {L : Addr} {us : List V} {o : List V} {v : V} {ns : List Int} (hL : H L = some (.lst us)) (h : TI K H v ns) : TI K (upd H L (.lst o)) v ns := by
  obtain ⟨t, rfl, ht⟩ := h
  refine ⟨t, rfl, ?_⟩
  rcases ht with (q | ⟨ob, q⟩) | q
  · have ne : t ≠ L := ne_of q hL (by intro z; cases z)
    exact .inl (.inl ((upd_ne ne).trans q))
  · have ne : t ≠ L := ne_of q hL (by intro z; cases z)
    exact .inl (.inr ⟨ob, (upd_ne ne).trans q⟩)
  · exact .inr q
theorem rows_updl {K : PySem.W.Frag} {H : Hp} {L : Addr} {us o vs : List V} {Ls : List (List Int)} (hL : H L = some (.lst us)) (h : Paired (TI K H) vs Ls) : Paired (TI K (upd H L (.lst o))) vs Ls := by
  induction h with
  | nil => exact .nil
  | cons r _ ih => exact .cons (ti_updl hL r) ih
theorem paired_snoc {α β : Type} {R : α → β → Prop} {xs : List α} {ys : List β} {x : α} {y : β} (h : Paired R xs ys) (r : R x y) : Paired R (xs ++ [x]) (ys ++ [y]) := by
  induction h with
  | nil => exact .cons r .nil
  | cons a _ ih => exact .cons a ih
section
variable {w : World} {K : PySem.W.Frag} {mg : Str → Option Value} {base : Heap}
def spRed (K : PySem.W.Frag) : Sp := fun vs H Q _ => ∃ (q : Int) (n : Nat) (v : V) (Ls : List (List Int)), vs = [.int q, .int (n : Int), v] ∧ LetQ q ∧ n ≤ 8 ∧ TupRows K H v Ls ∧ AllR q n Ls ∧ Ls.length ≤ 1000 ∧
  ∀ z H', Same H H' → TupRows K H' z (gauss q n Ls) → Q z H'
theorem ok_reduced_rows (T : Txt K mg) : FnOk P w K mg base CX0 4 T.a_reduced_rows T.d_reduced_rows P_reduced_rows (spRed K) := by
  refine T.F_reduced_rows.ok sc_reduced_rows (fun vs H Q E h => ?_) (fun cdv A outer s H vs Q E hr h => ?_)
  · obtain ⟨q, n, v, Ls, rfl, _⟩ := h
    rfl
  · obtain ⟨q, n, _, Ls, rfl, hq, hn, ⟨a, vs, rfl, ha, hp⟩, hall, hl, k⟩ := h
    refine ⟨_, 
      (pss_cons (ps_set (i := 3) sc_reduced_rows.nd rfl (Or.inl rfl) (pe_callTy call_list_of (by rfl) T.m_list (by decide +kernel) (pa_cons (pv 2) pa_nil)))
      (pss_cons (ps_set (i := 4) sc_reduced_rows.nd rfl (Or.inl rfl) (pe_lst pa_nil))
      (pss_cons (ps_for PassesOwn.never rfl (pi_range1 rfl T.m_range (pa_cons (pv 1) pa_nil)) (pg_name (i := 5) sc_reduced_rows.nd rfl (Or.inr rfl)) (pss_cons (ps_setLc (i := 6) (own := [("row", 8)]) (g := gName 8)  rfl sc_reduced_rows.nd rfl rfl (sw_true rfl rfl rfl (by decide +kernel)) (pi_list (pv 3)) (blkOk_by (own := [("row", 8)]) (N := N_reduced_rows) (sc := (defScope s_reduced_rows)) (by decide +kernel)) (fun _ _ _ _ _ => (pg_name (i := 8) sc_reduced_rows.nd rfl (Or.inl rfl))) (fun _ _ _ _ _ => (pts_one (pt_cmpR op_ne (pe_ix (r := rIxT K) ix_tup (pv 8) (pv 5) (fun _ _ => rfl)) pe_int (nomark _)))) (fun _ _ _ _ _ => (pv 8)))
      (pss_one (ps_if (pt_truth (pv 6) (by intro _; rfl)) (pss_cons (ps_set (i := 7) sc_reduced_rows.nd rfl (Or.inr rfl) (pe_call (ok_row_times T) (hr.mono (by decide)) rfl T.m_row_times T.F_row_times.kp T.b_row_times .nil pass0 (pa_cons (pv 0) (pa_cons (pe_call (ok_letter_inverse T) (hr.mono (by decide)) rfl T.m_letter_inverse T.F_letter_inverse.kp T.b_letter_inverse .nil pass0 (pa_cons (pv 0) (pa_cons (pe_ix (r := rIxT K) ix_tup (pe_ix (r := rIxL K) ix_list (pv 6) pe_int (fun _ _ => rfl)) (pv 5) (fun _ _ => rfl)) pa_nil))) (pa_cons (pe_ix (r := rIxL K) ix_list (pv 6) pe_int (fun _ _ => rfl)) pa_nil)))))
      (pss_cons (ps_setLc (i := 3) (own := [("row", 8)]) (g := gName 8) (tt := tYes) rfl sc_reduced_rows.nd rfl rfl (sw_true rfl rfl rfl (by decide +kernel)) (pi_list (pv 3)) (blkOk_by (own := [("row", 8)]) (N := N_reduced_rows) (sc := (defScope s_reduced_rows)) (by decide +kernel)) (fun _ _ _ _ _ => (pg_name (i := 8) sc_reduced_rows.nd rfl (Or.inl rfl))) (fun _ _ _ _ _ => pts_nil) (fun _ _ _ _ _ => (pe_call (ok_with_zero_at T) (hr.mono (by decide)) rfl T.m_with_zero_at T.F_with_zero_at.kp T.b_with_zero_at .nil pass0 (pa_cons (pv 0) (pa_cons (pv 5) (pa_cons (pv 8) (pa_cons (pv 7) pa_nil)))))))
      (pss_cons (ps_setLc (i := 4) (own := [("row", 8)]) (g := gName 8) (tt := tYes) rfl sc_reduced_rows.nd rfl rfl (sw_true rfl rfl rfl (by decide +kernel)) (pi_list (pv 4)) (blkOk_by (own := [("row", 8)]) (N := N_reduced_rows) (sc := (defScope s_reduced_rows)) (by decide +kernel)) (fun _ _ _ _ _ => (pg_name (i := 8) sc_reduced_rows.nd rfl (Or.inl rfl))) (fun _ _ _ _ _ => pts_nil) (fun _ _ _ _ _ => (pe_call (ok_with_zero_at T) (hr.mono (by decide)) rfl T.m_with_zero_at T.F_with_zero_at.kp T.b_with_zero_at .nil pass0 (pa_cons (pv 0) (pa_cons (pv 5) (pa_cons (pv 8) (pa_cons (pv 7) pa_nil)))))))
      (pss_one (ps_expr (pe_bm PySem.F.plainAttrs_list PySem.F.slot_list_append PySem.F.type_list_append mt_append (pv 4) (pa_cons (pv 7) pa_nil))))))) pss_nil))))
      (pss_one (ps_ret (pe_callTy call_tuple_of (by rfl) T.m_tuple (by decide +kernel) (pa_cons (pv 4) pa_nil))))))), ?_⟩
    refine ⟨_, rfl, a, _, rfl, .inr ha, fun L0 hL0 => ?_⟩
    refine ⟨Nat.zero_le _, fun D0 hD0 => ?_⟩
    have sD : Same H (upd (upd H L0 (.lst vs)) D0 (.lst [])) := (same_upd hL0).trans (same_upd hD0)
    refine ⟨_, rfl, _, rfl, by omega, by omega, for_range (lo := 0) (n := (n : Int).toNat)
      (fun i σ H' => ∃ L D o5 o6 o7, σ = [some (.int q), some (.int (n : Int)), some (.ref a), some (.ref L), some (.ref D), o5, o6, o7, none] ∧ Same H H' ∧
        RowsAt K H' L ((List.range i).foldl (gstep q) (Ls, [])).1 ∧ RowsAt K H' D ((List.range i).foldl (gstep q) (Ls, [])).2 ∧
        AllR q n ((List.range i).foldl (gstep q) (Ls, [])).1 ∧ AllR q n ((List.range i).foldl (gstep q) (Ls, [])).2 ∧
        ((List.range i).foldl (gstep q) (Ls, [])).1.length ≤ 1000 ∧ ((List.range i).foldl (gstep q) (Ls, [])).2.length ≤ i)
      ⟨L0, D0, none, none, none, rfl, sD, ⟨vs, (same_upd hD0) _ _ upd_same, rows_same sD hp⟩, ⟨[], upd_same, .nil⟩, hall, (fun r hr => by cases hr), hl, Nat.le_refl _⟩ ?_ ?_⟩
    · rintro i _ H1 hi ⟨L, D, o5, o6, o7, rfl, s1, hL, hD, aL, aD, lL, lD⟩
      rw [List.range_succ, List.foldl_append, List.foldl_cons, List.foldl_nil]
      generalize (List.range i).foldl (gstep q) (Ls, []) = st at hL hD aL aD lL lD
      have hin : i < n := by omega
      obtain ⟨vL, hLl, pL⟩ := hL
      refine ⟨_, rfl, _, rfl, ⟨_, SqL.of hLl⟩, fun G0 hG0 => ?_⟩
      refine lc_it (walk_list (K := K) (a := L) (xs := vL))
        (fun i2 G => Same H1 G ∧ ∃ ws, G G0 = some (.lst ws) ∧ Paired (TI K G) ws ((st.1.take i2).filter fun r => r.getD i 0 != 0))
        ⟨same_upd hG0, [], upd_same, .nil⟩ (fun i2 G _ ⟨e, _⟩ => SqL.of (e _ _ hLl)) ?_ ?_
      · rintro i2 x G _ hi2 ⟨e, ws, hw, pw⟩ ⟨rfl, hx⟩
        obtain ⟨r, hr2, ti⟩ := paired_at pL hx
        have hm : r ∈ st.1 := List.mem_of_getElem? hr2
        obtain ⟨ir, lr⟩ := aL r hm
        obtain ⟨t, rfl, ht⟩ := TI.same ti e
        refine ⟨rfl, ?_⟩
        have hir : i < r.length := by omega
        have gd : r.getD i 0 = r[i] := by rw [List.getD_eq_getElem?_getD, List.getElem?_eq_getElem hir]; rfl
        refine ⟨_, rfl, _, rfl, t, _, _, .int r[i], rfl, rfl, ht, ?_, rfl, _, rfl, ?_⟩
        · rw [show (0 : Int) + (i : Int) = (i : Int) from Int.zero_add _]
          exact atI_nat (by rw [List.getElem?_map, List.getElem?_eq_getElem hir]; rfl)
        · rw [dec_int]
          have hwl : ws.length ≤ i2 := by
            rw [pw.length]
            exact Nat.le_trans (List.length_filter_le _ _) (by rw [List.length_take]; omega)
          have lM : st.1.length = vL.length := pL.length.symm
          refine ite2 (fun c => ?_) (fun c => ?_)
          · have c' : (r.getD i 0 != 0) = true := by
              rw [gd]
              simpa using c
            refine ⟨_, rfl, ws, hw, line_le (by omega), same_set hG0 e, ws ++ [.ref t], upd_same, ?_⟩
            rw [List.take_add_one, hr2, List.filter_append]
            show Paired _ _ (_ ++ List.filter _ [r])
            rw [List.filter_cons_of_pos (by exact c'), List.filter_nil]
            exact paired_snoc (rows_updl hw pw) (ti_updl hw ⟨t, rfl, ht⟩)
          · have c' : ¬ ((r.getD i 0 != 0) = true) := by
              rw [gd]
              simpa using c
            refine ⟨e, ws, hw, ?_⟩
            rw [List.take_add_one, hr2, List.filter_append]
            show Paired _ _ (_ ++ List.filter _ [r])
            rw [List.filter_cons_of_neg (by exact c'), List.filter_nil, List.append_nil]
            exact pw
      rintro H2 ⟨e2, ws, hw, pw⟩
      rw [pL.length, List.take_length] at pw
      have hLr2 : RowsAt K H2 L st.1 := ⟨vL, e2 _ _ hLl, rows_same e2 pL⟩
      have hDr2 : RowsAt K H2 D st.2 := let ⟨vD, h1, h2⟩ := hD; ⟨vD, e2 _ _ h1, rows_same e2 h2⟩
      have s2 := s1.trans e2
      unfold gstep
      cases hf : st.1.filter (fun r => r.getD i 0 != 0) with
      | nil =>
        rw [hf] at pw
        cases pw
        refine ⟨_, rfl, false, ?_, ?_⟩
        · exact .inl ⟨[], SqL.of hw, rfl⟩
        · refine iteF ?_
          exact ⟨L, D, _, _, _, rfl, s2, hLr2, hDr2, aL, aD, lL, Nat.le_succ_of_le lD⟩
      | cons h hs =>
        rw [hf] at pw
        refine ⟨_, rfl, true, ?_, ?_⟩
        · exact .inl ⟨ws, SqL.of hw, by cases pw; rfl⟩
        · refine iteT ?_
          cases pw with
          | @cons v0 _ vr _ t0 tr =>
            obtain ⟨a0, rfl, ha0⟩ := t0
            have hmem : h ∈ st.1.filter (fun r => r.getD i 0 != 0) := by rw [hf]; exact List.mem_cons_self
            obtain ⟨hm1, hm2⟩ := List.mem_filter.mp hmem
            obtain ⟨ih0, lh0⟩ := aL h hm1
            have hih : i < h.length := by omega
            have c0 : h.getD i 0 ≠ 0 := by simpa using hm2
            have lti := row_at ih0 hih
            have gd : (h.map V.int)[i]? = some (.int (h.getD i 0)) := by
              rw [List.getElem?_map, List.getD_eq_getElem?_getD, List.getElem?_eq_getElem hih]
              rfl
            refine ⟨_, rfl, _, rfl, _, rfl, G0, _, 0, .ref a0, rfl, rfl, SqL.of hw, atI_nat (j := 0) rfl, _, rfl, a0, _, _, .int (h.getD i 0), rfl, rfl, ha0, ?_, q, _, rfl, hq, lti, c0, fun H2' s2' => ?_⟩
            · rw [show (0 : Int) + (i : Int) = (i : Int) from Int.zero_add _]
              exact atI_nat gd
            refine ⟨_, rfl, G0, _, 0, .ref a0, rfl, rfl, SqL.of (s2' _ _ hw), atI_nat (j := 0) rfl, q, _, _, h, rfl, hq, let_inv hq lti c0, ⟨a0, rfl, s2'.tup ha0⟩, ih0, by omega, fun hv H3 s3 thd => ?_⟩
            have hdr : IsRow q (h.map (ltim q (linv q (h.getD i 0)))) := fun c hc => by
              obtain ⟨x, hx, rfl⟩ := List.mem_map.mp hc
              exact let_tim hq (let_inv hq lti c0) (ih0 x hx)
            have hdl : (h.map (ltim q (linv q (h.getD i 0)))).length = n := by rw [List.length_map]; exact lh0
            have s13 := s2.trans (s2'.trans s3)
            have hLr : RowsAt K H3 L st.1 := let ⟨w1, h1, h2⟩ := hLr2; ⟨w1, (s2'.trans s3) _ _ h1, rows_same (s2'.trans s3) h2⟩
            have hDr3 : RowsAt K H3 D st.2 := let ⟨w1, h1, h2⟩ := hDr2; ⟨w1, (s2'.trans s3) _ _ h1, rows_same (s2'.trans s3) h2⟩
            generalize hgd : h.map (ltim q (linv q (h.getD i 0))) = hd at thd hdr hdl
            obtain ⟨vA, lA, pA⟩ := hLr
            refine ⟨_, rfl, _, rfl, ⟨_, SqL.of lA⟩, fun LA hLA => ?_⟩
            refine lc_it (walk_list (K := K) (a := L) (xs := vA))
              (fun i2 G => Same H3 G ∧ ∃ ws, G LA = some (.lst ws) ∧ Paired (TI K G) ws ((st.1.take i2).map fun r => wza q i r hd))
              ⟨same_upd hLA, [], upd_same, .nil⟩ (fun i2 G _ ⟨e, _⟩ => SqL.of (e _ _ lA)) ?_ ?_
            · rintro i2 x G _ hi2 ⟨e, ws, hw, pw⟩ ⟨rfl, hx⟩
              obtain ⟨r, hr2, ti⟩ := paired_at pA hx
              have hm : r ∈ st.1 := List.mem_of_getElem? hr2
              obtain ⟨ir, lr⟩ := aL r hm
              have tiG := TI.same ti e
              refine ⟨rfl, ?_⟩
              refine ⟨_, rfl, _, rfl, _, rfl, _, rfl, q, i, _, _, r, hd, by rw [show ((0 : Int) + (i : Int)) = (i : Int) from Int.zero_add _]; rfl, hq, tiG, TI.same thd ((Same.refl _).trans e), ir, hdr, by omega, by omega, by omega, fun z G2 s2 hz => ?_⟩
              have hwl : ws.length ≤ i2 := by
                rw [pw.length, List.length_map, List.length_take]
                omega
              have lM : st.1.length = vA.length := pA.length.symm
              refine ⟨ws, s2 _ _ hw, line_le (by omega), same_set hLA (e.trans s2), ws ++ [z], upd_same, ?_⟩
              have g2 := s2 _ _ hw
              have pw2 := rows_updl (o := ws ++ [z]) g2 (rows_same s2 pw)
              rw [List.take_add_one, hr2]
              rw [List.map_append]
              exact paired_snoc pw2 (ti_updl g2 hz)
            rintro H4 ⟨eA, wsA, hwA, pwA⟩
            rw [pA.length, List.take_length] at pwA
            have hDr : RowsAt K H4 D st.2 := let ⟨w1, h1, h2⟩ := hDr3; ⟨w1, eA _ _ h1, rows_same eA h2⟩
            obtain ⟨vB, lB, pB⟩ := hDr
            refine ⟨_, rfl, _, rfl, ⟨_, SqL.of lB⟩, fun LB hLB => ?_⟩
            refine lc_it (walk_list (K := K) (a := D) (xs := vB))
              (fun i2 G => Same H4 G ∧ ∃ ws, G LB = some (.lst ws) ∧ Paired (TI K G) ws ((st.2.take i2).map fun r => wza q i r hd))
              ⟨same_upd hLB, [], upd_same, .nil⟩ (fun i2 G _ ⟨e, _⟩ => SqL.of (e _ _ lB)) ?_ ?_
            · rintro i2 x G _ hi2 ⟨e, ws, hw, pw⟩ ⟨rfl, hx⟩
              obtain ⟨r, hr2, ti⟩ := paired_at pB hx
              have hm : r ∈ st.2 := List.mem_of_getElem? hr2
              obtain ⟨ir, lr⟩ := aD r hm
              have tiG := TI.same ti e
              refine ⟨rfl, ?_⟩
              refine ⟨_, rfl, _, rfl, _, rfl, _, rfl, q, i, _, _, r, hd, by rw [show ((0 : Int) + (i : Int)) = (i : Int) from Int.zero_add _]; rfl, hq, tiG, TI.same thd (eA.trans e), ir, hdr, by omega, by omega, by omega, fun z G2 s2 hz => ?_⟩
              have hwl : ws.length ≤ i2 := by
                rw [pw.length, List.length_map, List.length_take]
                omega
              have lM : st.2.length = vB.length := pB.length.symm
              refine ⟨ws, s2 _ _ hw, line_le (by omega), same_set hLB (e.trans s2), ws ++ [z], upd_same, ?_⟩
              have g2 := s2 _ _ hw
              have pw2 := rows_updl (o := ws ++ [z]) g2 (rows_same s2 pw)
              rw [List.take_add_one, hr2]
              rw [List.map_append]
              exact paired_snoc pw2 (ti_updl g2 hz)
            rintro H5 ⟨eB, wsB, hwB, pwB⟩
            rw [pB.length, List.take_length] at pwB
            have nLB : H LB = none := (s13.trans eA).free hLB
            have lB1 : wsB.length ≤ 8 := by
              rw [pwB.length, List.length_map]
              omega
            refine ⟨_, rfl, .inl ⟨rfl, _, SqL.of hwB⟩, _, rfl, LB, _, _, rfl, rfl, hwB, line_le (by omega), ?_⟩
            have neAB : LA ≠ LB := ne_of_none hwA hLB
            have mapR : ∀ Ms, AllR q n Ms → AllR q n (Ms.map fun r => wza q i r hd) := fun Ms al r hr => by
              obtain ⟨x, hx, rfl⟩ := List.mem_map.mp hr
              obtain ⟨ix, lx⟩ := al x hx
              refine ⟨row_wza hq ix hdr (by omega), ?_⟩
              unfold wza
              rw [List.length_zipWith, List.length_map]
              omega
            subst hgd
            refine ⟨LA, LB, _, _, _, rfl, same_set nLB ((s13.trans eA).trans eB), ⟨wsA, (upd_ne neAB).trans (eB _ _ hwA), rows_updl hwB (rows_same eB pwA)⟩,
              ⟨wsB ++ [hv], upd_same, paired_snoc (rows_updl hwB pwB) (ti_updl hwB (TI.same thd (eA.trans eB)))⟩, mapR _ aL, ?_, ?_, ?_⟩
            · intro r hr
              rcases List.mem_append.mp hr with hr | hr
              · exact mapR _ aD r hr
              · rw [List.mem_singleton.mp hr]
                exact ⟨hdr, hdl⟩
            · rw [List.length_map]
              exact lL
            · rw [List.length_append, List.length_map]
              exact Nat.succ_le_succ lD
    · rintro _ H1 ⟨L, D, o5, o6, o7, rfl, s1, hL, hD, aL, aD, lL, lD⟩
      obtain ⟨vD, hDl, pD⟩ := hD
      refine ⟨_, rfl, D, _, rfl, .inl ⟨SqL.of hDl, fun p4 hp4 => ?_⟩⟩
      have e4 := same_upd (o := .tup vD) hp4
      refine k _ _ (s1.trans e4) ⟨p4, vD, rfl, SqT.of upd_same, rows_same e4 ?_⟩
      have z : (n : Int).toNat = n := by omega
      rw [z] at pD
      exact pD
end
end K09
end
section
set_option maxRecDepth 100000
set_option maxHeartbeats 4000000
namespace K09
open PySem PySem.Spec PyProof.Rows L2 MB LM
open LamX hiding takes0
section
variable {w : World} {K : PySem.W.Frag} {mg : Str → Option Value} {base : Heap}
def inFrom (lo hi : Int) : Option Int → Bool
  | none => false
  | some i => decide (lo ≤ i) && decide (i ≤ hi)
def spFrom (K : PySem.W.Frag) : Sp := fun vs H Q _ => ∃ (v : V) (lo hi : Int) (o : Option Int), vs = [v, .int lo, .int hi] ∧ IntQ K H v o ∧ Q (.bl (inFrom lo hi o)) H
theorem ok_is_integer_from (T : Txt K mg) : FnOk P w K mg base CX0 2 T.a_is_integer_from T.d_is_integer_from P_is_integer_from (spFrom K) := by
  refine T.F_is_integer_from.ok sc_is_integer_from (fun vs H Q E h => ?_) (fun cdv A outer s H vs Q E hr h => ?_)
  · obtain ⟨v, lo, hi, o, rfl, _⟩ := h
    rfl
  · obtain ⟨v, lo, hi, o, rfl, hv, k⟩ := h
    refine ⟨_, 
      (pss_one (ps_ret (pe_and (pe_call (ok_is_integer T) (hr.mono (by decide)) rfl T.m_is_integer T.F_is_integer.kp T.b_is_integer .nil pass0 (pa_cons (pv 0) pa_nil)) (pe_one (pe_chain op_le op_le (pv 1) (pv 0) (pv 2)))))), ?_⟩
    refine ⟨_, rfl, v, o, rfl, hv, o.isSome, rfl, ?_⟩
    cases o with
    | none => exact iteF k
    | some i =>
      obtain rfl : v = .int i := hv
      refine iteT ?_
      have k' : Q (.bl (decide (lo ≤ i) && decide (i ≤ hi))) H := k
      refine ⟨_, rfl, _, rfl, _, _, rfl, rfl, decide (lo ≤ i), rfl, ?_⟩
      by_cases c : lo ≤ i
      · rw [decide_eq_true c] at k' ⊢
        exact iteT ⟨_, rfl, _, _, rfl, rfl, k'⟩
      · rw [decide_eq_false c] at k' ⊢
        exact iteF k'
def allFrom (lo hi : Int) : Option (List (Option Int)) → Bool
  | none => false
  | some os => os.all (inFrom lo hi)
def spsFrom (K : PySem.W.Frag) : Sp := fun vs H Q _ => ∃ (v : V) (lo hi : Int) (o : Option (List (Option Int))), vs = [v, .int lo, .int hi] ∧ Lev K H v o ∧ ∀ H', Same H H' → Q (.bl (allFrom lo hi o)) H'
theorem ok_are_integers_from (T : Txt K mg) : FnOk P w K mg base CX0 3 T.a_are_integers_from T.d_are_integers_from P_are_integers_from (spsFrom K) := by
  refine T.F_are_integers_from.ok sc_are_integers_from (fun vs H Q E h => ?_) (fun cdv A outer s H vs Q E hr h => ?_)
  · obtain ⟨v, lo, hi, o, rfl, _⟩ := h
    rfl
  · obtain ⟨v, lo, hi, o, rfl, hv, k⟩ := h
    refine ⟨_, 
      (pss_one (ps_ret (pe_and (pe_callB (id := "isinstance") (r := rIsi K) call_isi (by rfl) T.m_isinstance (by decide +kernel) (pa_cons (pv 0) (pa_cons (pe_bltn (by rfl) T.m_tuple (v := .ty "tuple") (by decide +kernel) rfl) pa_nil))) (pe_one (pe_callB (id := "all") (r := rAll K) (cr_all rfl) (by rfl) T.m_all (by decide +kernel) (pa_cons (pe_lc (own := [("item", 3)]) (g := gName 3) (tt := tYes) rfl sc_are_integers_from.nd (pi_tup (pv 0)) (blkOk_by (own := [("item", 3)]) (N := N_are_integers_from) (sc := (defScope s_are_integers_from)) (by decide +kernel)) (fun _ _ _ _ _ => (pg_name (i := 3) sc_are_integers_from.nd rfl (Or.inl rfl))) (fun _ _ _ _ _ => pts_nil) (fun _ _ _ _ _ => (pe_call (ok_is_integer_from T) (hr.mono (by decide)) rfl T.m_is_integer_from T.F_is_integer_from.kp T.b_is_integer_from .nil pass0 (pa_cons (pv 3) (pa_cons (pv 1) (pa_cons (pv 2) pa_nil)))))) pa_nil)))))), ?_⟩
    cases o with
    | none =>
      obtain ⟨t, ht, hk⟩ := hv
      refine ⟨_, rfl, _, _, _, _, _, rfl, .ty "tuple", ht, hk, false, rfl, ?_⟩
      exact iteF (k H (Same.refl _))
    | some os =>
      obtain ⟨xs, ⟨a, rfl, ha⟩, hp, hl⟩ := hv
      refine ⟨_, rfl, _, _, _, _, _, rfl, .ty "tuple", tyx_tup ha, kit_ty (r := true) (by decide +kernel), true, rfl, ?_⟩
      refine iteT ?_
      refine ⟨_, rfl, a, rfl, ⟨_, ha⟩, fun D hD => lc_it (walk_tup (K := K) (a := a) (xs := xs))
        (fun i H' => ∃ H0, Same H H0 ∧ H' = upd H0 D (.lst ((os.take i).map fun o => V.bl (inFrom lo hi o)))) ⟨H, Same.refl _, rfl⟩ ?_ ?_ ?_⟩
      · rintro i _ _ ⟨H0, e, rfl⟩
        exact (same_set hD e).tup ha
      · rintro i x _ _ hi ⟨H0, e, rfl⟩ ⟨rfl, hx⟩
        obtain ⟨y, hy, r⟩ := paired_at hp hx
        refine ⟨rfl, ?_⟩
        refine ⟨_, rfl, _, rfl, _, rfl, x, lo, _, y, rfl, r.same (same_set hD e), _, upd_same, by rw [List.length_map, List.length_take]; exact line_le (by omega), H0, e, ?_⟩
        rw [upd_upd, take_map_add _ hy]
      · rintro _ ⟨H0, e, rfl⟩
        have hle : os.length = xs.length := hp.length.symm
        refine ⟨D, os.map (inFrom lo hi), rfl, SqL.of (by rw [upd_same, ← hle, List.take_length, List.map_map]; rfl), ?_⟩
        have z := k _ (same_set (o := .lst ((os.take xs.length).map fun o => V.bl (inFrom lo hi o))) hD e)
        rw [List.all_map]
        exact z
def spLets (K : PySem.W.Frag) : Sp := fun vs H Q _ => ∃ (q : Int) (v : V) (o : Option (List (Option Int))), vs = [.int q, v] ∧ Lev K H v o ∧ ∀ H', Same H H' → Q (.bl (allFrom 0 (q - 1) o)) H'
theorem ok_are_letters (T : Txt K mg) : FnOk P w K mg base CX0 4 T.a_are_letters T.d_are_letters P_are_letters (spLets K) := by
  refine T.F_are_letters.ok sc_are_letters (fun vs H Q E h => ?_) (fun cdv A outer s H vs Q E hr h => ?_)
  · obtain ⟨q, v, o, rfl, _⟩ := h
    rfl
  · obtain ⟨q, v, o, rfl, hv, k⟩ := h
    refine ⟨_, 
      (pss_one (ps_ret (pe_call (ok_are_integers_from T) (hr.mono (by decide)) rfl T.m_are_integers_from T.F_are_integers_from.kp T.b_are_integers_from .nil pass0 (pa_cons (pv 1) (pa_cons pe_int (pa_cons (pe_op op_sub (pv 0) pe_int) pa_nil)))))), ?_⟩
    exact ⟨_, rfl, _, rfl, _, _, rfl, rfl, v, 0, _, o, rfl, hv, k⟩
def rowQ (q : Int) (n : Int) : Option (List (Option Int)) → Bool
  | none => false
  | some os => allFrom 0 (q - 1) (some os) && decide ((os.length : Int) = n)
def spIsRow (K : PySem.W.Frag) : Sp := fun vs H Q _ => ∃ (q n : Int) (v : V) (o : Option (List (Option Int))), vs = [.int q, .int n, v] ∧ Lev K H v o ∧ ∀ H', Same H H' → Q (.bl (rowQ q n o)) H'
theorem ok_is_row (T : Txt K mg) : FnOk P w K mg base CX0 5 T.a_is_row T.d_is_row P_is_row (spIsRow K) := by
  refine T.F_is_row.ok sc_is_row (fun vs H Q E h => ?_) (fun cdv A outer s H vs Q E hr h => ?_)
  · obtain ⟨q, n, v, o, rfl, _⟩ := h
    rfl
  · obtain ⟨q, n, v, o, rfl, hv, k⟩ := h
    refine ⟨_, 
      (pss_one (ps_ret (pe_and (pe_call (ok_are_letters T) (hr.mono (by decide)) rfl T.m_are_letters T.F_are_letters.kp T.b_are_letters .nil pass0 (pa_cons (pv 0) (pa_cons (pv 2) pa_nil))) (pe_one (pe_cmpR op_eq (pe_callB call_len_seq (by rfl) T.m_len (by decide +kernel) (pa_cons (pv 2) pa_nil)) (pv 1) (nomark _)))))), ?_⟩
    refine ⟨_, rfl, _, rfl, q, v, o, rfl, hv, fun H1 s1 => ⟨allFrom 0 (q - 1) o, rfl, ?_⟩⟩
    cases o with
    | none => exact iteF (k H1 s1)
    | some os =>
      obtain ⟨xs, ⟨a, rfl, ha⟩, hp, hl⟩ := hv
      have z := k H1 s1
      refine ite2 (fun e => ?_) (fun e => ?_)
      · refine ⟨_, rfl, a, _, rfl, .inr (s1.tup ha), _, rfl, rfl, ?_⟩
        rw [dec_int, hp.length]
        have e2 : rowQ q n (some os) = decide ((os.length : Int) = n) := by
          show (allFrom 0 (q - 1) (some os) && _) = _
          rw [e, Bool.true_and]
        rw [e2] at z
        exact z
      · have e1 : allFrom 0 (q - 1) (some os) = false := by simpa using e
        have e2 : rowQ q n (some os) = false := by
          show (allFrom 0 (q - 1) (some os) && _) = _
          rw [e1, Bool.false_and]
        rw [e2] at z
        exact z
def spChkF : Sp := fun vs H Q _ => ∃ q : Int, vs = [.int q] ∧ LetQ q ∧ Q .non H
theorem ok0_check_field (T : Txt K mg) : FnOk P w K mg base CX0 3 T.a_check_field T.d_check_field P_check_field spChkF := by
  refine T.F_check_field.ok sc_check_field (fun vs H Q E h => ?_) (fun cdv A outer s H vs Q E hr h => ?_)
  · obtain ⟨q, rfl, _⟩ := h
    rfl
  · obtain ⟨q, rfl, hq, k⟩ := h
    refine ⟨_, 
      (pss_one (ps_if (pt_not (pt_val (pe_call (ok_is_integer_from T) (hr.mono (by decide)) rfl T.m_is_integer_from T.F_is_integer_from.kp T.b_is_integer_from .nil pass0 (pa_cons (pv 0) (pa_cons pe_int (pa_cons pe_int pa_nil)))))) (pss_one ps_never) pss_nil)), ?_⟩
    have e : inFrom 2 5 (some q) = true := by
      show (decide (2 ≤ q) && decide (q ≤ 5)) = true
      rw [decide_eq_true hq.lo, decide_eq_true hq.hi]
      rfl
    refine ⟨_, rfl, _, 2, 5, some q, rfl, rfl, _, rfl, ?_⟩
    rw [e]
    exact iteF k
end
end K09
end
section
set_option maxRecDepth 100000
set_option maxHeartbeats 4000000
namespace K09
open PySem PySem.Spec PyProof.Rows L2 MB LM
open LamX hiding takes0
theorem ti_lev {K : PySem.W.Frag} {H : Hp} {v : V} {ns : List Int} (h : TI K H v ns) (hl : ns.length ≤ 1000) : Lev K H v (some (ns.map some)) := by
  obtain ⟨a, rfl, ha⟩ := h
  refine ⟨ns.map V.int, ⟨a, rfl, ha⟩, ?_, by rw [List.length_map]; exact hl⟩
  clear ha hl
  induction ns with
  | nil => exact .nil
  | cons c r ih => exact .cons rfl ih
theorem rowQ_row {q n : Int} {r : List Int} (h : IsRow q r) (hl : (r.length : Int) = n) : rowQ q n (some (r.map some)) = true := by
  show ((r.map some).all (inFrom 0 (q - 1)) && decide (((r.map some).length : Int) = n)) = true
  rw [List.length_map, decide_eq_true hl, Bool.and_true, List.all_map, List.all_eq_true]
  intro c hc
  obtain ⟨h1, h2⟩ := h c hc
  show (decide (0 ≤ c) && decide (c ≤ q - 1)) = true
  rw [decide_eq_true h1, decide_eq_true (by omega)]
  rfl
theorem sqT_ins {K : PySem.W.Frag} {H : Hp} {b C dx : Addr} {fs : List (Str × V)} {o : HO} {a : Addr} {xs : List V} (hb : H b = some (.ins C dx fs)) (h : SqT K H a xs) : SqT K (upd H b o) a xs := by
  rcases h with (q | ⟨ob, q⟩) | q
  · exact .inl (.inl ((upd_ne (ne_of q hb (by intro z; cases z))).trans q))
  · exact .inl (.inr ⟨ob, (upd_ne (ne_of q hb (by intro z; cases z))).trans q⟩)
  · exact .inr q
theorem rows_ins {K : PySem.W.Frag} {H : Hp} {b C dx : Addr} {fs : List (Str × V)} {o : HO} {vs : List V} {Ls : List (List Int)} (hb : H b = some (.ins C dx fs)) (h : Paired (TI K H) vs Ls) : Paired (TI K (upd H b o)) vs Ls := by
  induction h with
  | nil => exact .nil
  | cons r _ ih =>
    obtain ⟨t, rfl, ht⟩ := r
    exact .cons ⟨t, rfl, sqT_ins hb ht⟩ ih
section
variable {w : World} {K : PySem.W.Frag} {mg : Str → Option Value} {base : Heap}
def BookAt (K : PySem.W.Frag) (C : Addr) (H : Hp) (b : Addr) (q n : Int) (Rs : List (List Int)) : Prop := ∃ (dx : Addr) (fs : List (Str × V)) (z : V), H b = some (.ins C dx fs) ∧
  fs.lookup ("q" : Str) = some (.int q) ∧ fs.lookup ("n" : Str) = some (.int n) ∧ fs.lookup ("rows" : Str) = some z ∧ fs.lookup ("dimension" : Str) = some (.int (Rs.length : Int)) ∧ TupRows K H z Rs
def spBook (K : PySem.W.Frag) (C : Addr) : Sp := fun vs H Q _ => ∃ (H0 : Hp) (b dx : Addr) (q : Int) (n : Nat) (v : V) (Ls : List (List Int)), vs = [.ref b, .int q, .int (n : Int), v] ∧ Same H0 H ∧ H0 b = none ∧ H b = some (.ins C dx []) ∧
  LetQ q ∧ (1 ≤ n ∧ n ≤ 8) ∧ TupRows K H0 v Ls ∧ AllR q n Ls ∧ Ls.length ≤ 16 ∧ ∀ H', Same H0 H' → BookAt K C H' b q n (gauss q n Ls) → Q .non H'
theorem ok_Book___init__ (T : Txt K mg) : FnOk P w K mg base CX0 6 T.a_Book___init__ T.d_Book___init__ P_Book___init__ (spBook K T.C_Book) := by
  refine T.F_Book___init__.ok sc_Book___init__ (fun vs H Q E h => ?_) (fun cdv A outer s H vs Q E hr h => ?_)
  · obtain ⟨H0, b, dx, q, n, v, Ls, rfl, _⟩ := h
    rfl
  · obtain ⟨H0, b, dx, q, n, _, Ls, rfl, s0, b0, hb, hq, ⟨n1, n8⟩, ⟨a, vs, rfl, ha, hp⟩, hall, hl, k⟩ := h
    refine ⟨_, 
      (pss_cons (ps_expr (pe_call (ok0_check_field T) (hr.mono (by decide)) rfl T.m_check_field T.F_check_field.kp T.b_check_field .nil pass0 (pa_cons (pv 1) pa_nil)))
      (pss_cons (ps_if (pt_not (pt_val (pe_call (ok_is_integer_from T) (hr.mono (by decide)) rfl T.m_is_integer_from T.F_is_integer_from.kp T.b_is_integer_from .nil pass0 (pa_cons (pv 2) (pa_cons pe_int (pa_cons (pe_glob (v := .int 8) rfl T.m_MOST_PLACES ⟨_, rfl⟩) pa_nil)))))) (pss_one ps_never) pss_nil)
      (pss_cons (ps_if (PW.pt (pw_or (pt_not (pt_val (pe_callB (id := "isinstance") (r := rIsi K) call_isi (by rfl) T.m_isinstance (by decide +kernel) (pa_cons (pv 3) (pa_cons (pe_bltn (by rfl) T.m_tuple (v := .ty "tuple") (by decide +kernel) rfl) pa_nil))))) (pw_or1 (pt_cmpR op_gt (pe_callB call_len_seq (by rfl) T.m_len (by decide +kernel) (pa_cons (pv 3) pa_nil)) (pe_glob (v := .int 16) rfl T.m_MOST_ROWS ⟨_, rfl⟩) (nomark _))))) (pss_one ps_never) pss_nil)
      (pss_cons (ps_for PassesOwn.never rfl (pi_enumT (by rfl) T.m_enumerate (pa_cons (pv 3) pa_nil)) (pg_tup rfl (pgs_cons (pg_name (i := 4) sc_Book___init__.nd rfl (Or.inl rfl)) (pgs_cons (pg_name (i := 5) sc_Book___init__.nd rfl (Or.inl rfl)) pgs_nil))) (pss_one (ps_if (pt_not (pt_val (pe_call (ok_is_row T) (hr.mono (by decide)) rfl T.m_is_row T.F_is_row.kp T.b_is_row .nil pass0 (pa_cons (pv 1) (pa_cons (pv 2) (pa_cons (pv 5) pa_nil)))))) (pss_one ps_never) pss_nil)))
      (pss_cons (ps_fld (pv 0) (pv 1) rfl)
      (pss_cons (ps_fld (pv 0) (pv 2) rfl)
      (pss_cons (ps_fld (pv 0) (pe_call (ok_reduced_rows T) (hr.mono (by decide)) rfl T.m_reduced_rows T.F_reduced_rows.kp T.b_reduced_rows .nil pass0 (pa_cons (pv 1) (pa_cons (pv 2) (pa_cons (pv 3) pa_nil)))) rfl)
      (pss_one (ps_fld (pv 0) (pe_callB call_len_seq (by rfl) T.m_len (by decide +kernel) (pa_cons (pe_fld (pv 0) rfl) pa_nil)) rfl))))))))), ?_⟩
    have haH := sqT_same s0 ha
    have hpH := rows_same s0 hp
    have lv : vs.length ≤ 16 := by rw [hp.length]; exact hl
    refine ⟨_, rfl, q, rfl, hq, ?_⟩
    have e1 : inFrom 1 8 (some (n : Int)) = true := by
      show (decide ((1 : Int) ≤ (n : Int)) && decide ((n : Int) ≤ 8)) = true
      rw [decide_eq_true (by omega), decide_eq_true (by omega)]
      rfl
    refine ⟨_, rfl, _, 1, 8, some (n : Int), rfl, rfl, _, rfl, ?_⟩
    rw [e1]
    refine iteF ?_
    refine ⟨_, rfl, _, _, _, _, _, rfl, .ty "tuple", tyx_tup haH, kit_ty (r := true) (by decide +kernel), true, rfl, iteF ?_⟩
    refine ⟨_, rfl, a, _, rfl, .inr haH, _, _, rfl, rfl, _, rfl, ?_⟩
    rw [decide_eq_false (by omega)]
    refine iteF ?_
    refine ⟨_, rfl, a, _, rfl, haH, for_it (walk_enumT (K := K) (a := a) (xs := vs))
      (fun i σ H' => ∃ u4 u5, σ = [some (.ref b), some (.int q), some (.int (n : Int)), some (.ref a), u4, u5] ∧ Same H H') ⟨none, none, rfl, Same.refl _⟩ (fun i σ H' _ ⟨_, _, _, e⟩ => e.tup haH) ?_ ?_⟩
    · rintro i v _ H' H'' hi ⟨u4, u5, rfl, e⟩ ⟨T0, x, y, rfl, hT0, rfl, hx, hy⟩
      obtain rfl : x = V.int (i : Nat) := (Option.some.inj hx).symm
      obtain ⟨r, hr2, ti⟩ := paired_at hpH hy
      obtain ⟨ir, lr⟩ := hall r (List.mem_of_getElem? hr2)
      have e1' : Same H (upd H' T0 (.tup [.int (i : Nat), y])) := e.trans (same_upd hT0)
      refine ⟨T0, _, rfl, SqT.of upd_same, rfl, _, _, rfl, _, _, rfl, rfl, ?_⟩
      refine ⟨_, rfl, _, rfl, _, rfl, q, (n : Int), y, some (r.map some), rfl, ti_lev (TI.same ti e1') (by omega), fun H3 s3 => ⟨rowQ q n (some (r.map some)), rfl, ?_⟩⟩
      rw [rowQ_row ir (by rw [lr])]
      exact iteF ⟨_, _, rfl, e1'.trans s3⟩
    · rintro _ H' ⟨u4, u5, rfl, e⟩
      have bne : ∀ {o : HO} {p : Addr}, H0 p = some o → p ≠ b := fun {o p} z w => by
        rw [w, b0] at z
        cases z
      have put : ∀ {G : Hp} {o : HO}, Same H0 G → Same H0 (upd G b o) := fun {G o} z c u w => by
        rw [upd_ne (bne w)]
        exact z c u w
      have sb := s0.trans e
      refine ⟨_, rfl, _, rfl, b, T.C_Book, dx, _, rfl, e _ _ hb, T.cl_Book, T.no_Book_q, (by decide : 0 < 1000), ?_⟩
      refine ⟨_, rfl, _, rfl, b, T.C_Book, dx, _, rfl, upd_same, T.cl_Book, T.no_Book_n, (by decide : 1 < 1000), ?_⟩
      have s2 := put (o := .ins T.C_Book dx (putF "n" (.int (n : Int)) (putF "q" (.int q) []))) (put (o := .ins T.C_Book dx (putF "q" (.int q) [])) sb)
      refine ⟨_, rfl, _, rfl, _, rfl, q, n, _, Ls, rfl, hq, n8, ⟨a, vs, rfl, sqT_same s2 ha, rows_same s2 hp⟩, hall, by omega, fun z H3 s3 hz => ?_⟩
      refine ⟨_, rfl, b, T.C_Book, dx, _, rfl, s3 _ _ upd_same, T.cl_Book, T.no_Book_rows, (by decide : 2 < 1000), ?_⟩
      obtain ⟨az, vz, rfl, haz, hpz⟩ := hz
      have hb3 := s3 _ _ (upd_same (a := b))
      have haz4 := sqT_ins (o := .ins T.C_Book dx (putF "rows" (.ref az) (putF "n" (.int (n : Int)) (putF "q" (.int q) [])))) hb3 haz
      refine ⟨_, rfl, b, T.C_Book, dx, _, .ref az, rfl, upd_same, T.cl_Book, T.no_Book_rows, rfl, az, vz, rfl, .inr haz4, _, rfl, b, T.C_Book, dx, _, rfl, upd_same, T.cl_Book, T.no_Book_dimension, (by decide : 3 < 1000), ?_⟩
      rw [upd_upd]
      refine k _ (put (s2.trans s3)) ⟨dx, _, .ref az, upd_same, rfl, rfl, rfl, ?_, az, vz, rfl, sqT_ins hb3 haz, rows_ins hb3 hpz⟩
      rw [← hpz.length]
      rfl
end
end K09
end
section
set_option maxRecDepth 100000
set_option maxHeartbeats 4000000
set_option exponentiation.threshold 9000
namespace K09
open PySem PySem.Spec PyProof.Rows L2 MB LM
open LamX hiding takes0
theorem line_s {n : Nat} (h : n ≤ 100000) : n ≤ sizeLine := Nat.le_of_lt (line_le h)
theorem zip_next {α β : Type} {as : List α} {bs : List β} {i : Nat} {c : α} {d : β} (hc : as[i]? = some c) (hd : bs[i]? = some d) : (as.zip bs).take (i + 1) = (as.zip bs).take i ++ [(c, d)] := by
  rw [List.take_add_one]
  have : (as.zip bs)[i]? = some (c, d) := by
    rw [List.getElem?_zip_eq_some]
    exact ⟨hc, hd⟩
  rw [this]
  rfl
theorem zeros_flat {k : Int} {n : Nat} (h : k.toNat = n) : (List.replicate k.toNat [V.int 0]).flatten = (zrow n).map V.int := by
  rw [h]
  simp [zrow]
theorem supp_lead {ns : List Int} {h : Nat} (hl : h < ns.length) (h0 : ∀ p, p < h → ns.getD p 0 = 0) (h1 : ns.getD h 0 ≠ 0) : ((supp ns).map V.int)[0]? = some (.int (h : Nat)) := by
  have e : ((List.range ns.length).filter fun i => ns.getD i 0 != 0).head? = some h := by
    rw [List.head?_filter, List.find?_range_eq_some]
    refine ⟨by simpa using h1, List.mem_range.mpr hl, fun j hj => ?_⟩
    rw [h0 j hj]
    rfl
  unfold supp
  rw [List.getElem?_map, List.getElem?_map, ← List.head?_eq_getElem?, e]
  rfl
def nats (ps : List Nat) : List Int := ps.map fun p : Nat => (p : Int)
section
variable {w : World} {K : PySem.W.Frag} {mg : Str → Option Value} {base : Heap}
def spLead (K : PySem.W.Frag) : Sp := fun vs H Q _ => ∃ (v : V) (ns : List Int) (h : Nat), vs = [v] ∧ TI K H v ns ∧ ns.length ≤ 1000 ∧ h < ns.length ∧ (∀ p, p < h → ns.getD p 0 = 0) ∧ ns.getD h 0 ≠ 0 ∧ ∀ H', Same H H' → Q (.int (h : Int)) H'
theorem ok_lead_of (T : Txt K mg) : FnOk P w K mg base CX0 2 T.a_lead_of T.d_lead_of P_lead_of (spLead K) := by
  refine T.F_lead_of.ok sc_lead_of (fun vs H Q E h => ?_) (fun cdv A outer s H vs Q E hr h => ?_)
  · obtain ⟨v, ns, h, rfl, _⟩ := h
    rfl
  · obtain ⟨v, ns, h, rfl, hv, hl, h1, h2, h3, k⟩ := h
    refine ⟨_, 
      (pss_one (ps_ret (pe_ix (r := rIxT K) ix_tup (pe_call (ok_row_support T) (hr.mono (by decide)) rfl T.m_row_support T.F_row_support.kp T.b_row_support .nil pass0 (pa_cons (pv 0) pa_nil)) pe_int (fun _ _ => rfl)))), ?_⟩
    refine ⟨_, rfl, v, ns, rfl, hv, hl, fun z H1 s1 hz => ?_⟩
    obtain ⟨c, rfl, hc⟩ := hz
    exact ⟨c, _, 0, _, rfl, rfl, hc, atI_nat (j := 0) (supp_lead h1 h2 h3), k H1 s1⟩
def TupRed (K : PySem.W.Frag) (H : Hp) (v : V) (Ps : List (Nat × List Int)) : Prop := TupRows K H v (Ps.map (·.2))
theorem TupRows.same {H H' : Hp} {v : V} {Ls : List (List Int)} (h : TupRows K H v Ls) (e : Same H H') : TupRows K H' v Ls := by
  obtain ⟨a, vs, rfl, ha, hp⟩ := h
  exact ⟨a, vs, rfl, e.tup ha, rows_same e hp⟩
theorem red_at {q : Int} {n : Nat} {Ps : List (Nat × List Int)} (h : RR q n Ps) {i : Nat} {r : List Int} (hr : (Ps.map (·.2))[i]? = some r) : ∃ x, Ps[i]? = some x ∧ x ∈ Ps ∧ r = x.2 := by
  rw [List.getElem?_map] at hr
  cases e : Ps[i]? with
  | none =>
    rw [e] at hr
    cases hr
  | some x =>
    rw [e] at hr
    exact ⟨x, rfl, List.mem_of_getElem? e, (Option.some.inj hr).symm⟩
theorem getD_at {ns : List Int} {i : Nat} (h : i < ns.length) : (ns.map V.int)[i]? = some (.int (ns.getD i 0)) := by
  rw [List.getElem?_map, List.getD_eq_getElem?_getD, List.getElem?_eq_getElem h]
  rfl
end
end K09
end
section
set_option maxRecDepth 100000
namespace MB
open PySem PySem.Spec PyProof.Rows L2
def rTupIdx (K : PySem.W.Frag) : V → List V → Hp → VK → Prop := fun x xs H Q => ∃ (p : Addr) (ys : List Int) (z : Int) (j : Nat), x = .ref p ∧ xs = [.int z] ∧ SqT K H p (ys.map V.int) ∧ ys[j]? = some z ∧ (∀ m, m < j → ys[m]? ≠ some z) ∧ Q (.int (j : Nat)) H
theorem flat_ints' (ys : List Int) : (ys.map V.int).all flatV = true := by
  rw [List.all_map]
  exact List.all_eq_true.mpr fun _ _ => rfl
theorem mt_tupIdx {X : Cx} : MtR X "tuple.index" (rTupIdx X.K) := by
  intro pins s σ H x xs v us Q I rx rs h
  obtain ⟨p, ys, z, j, rfl, rfl, hq, hy, hno, q⟩ := h
  cases rx
  obtain ⟨u, rfl, t, rfl⟩ := vals1 rs
  obtain ⟨its, r, pl, hz⟩ := I.tuple hq
  obtain ⟨⟨cls, dd, dt, sl⟩, ho, hc, n, hd⟩ := pl
  simp only at hc hd
  subst hc
  subst hd
  have hl : its.toArray.size = ys.length := by rw [List.size_toArray, ← r.length, List.length_map]
  have hj : j < its.toArray.size := by rw [hl]; exact (List.getElem?_eq_some_iff.mp hy).1
  have at' : ∀ (m : Nat) (hm : m < its.toArray.size), ∃ y t', ys[m]? = some y ∧ its.toArray[m] = Value.int y t' := fun m hm => by
    have hm' : m < ys.length := by rw [← hl]; exact hm
    obtain ⟨w, hw, t', hw'⟩ := r.get (i := m) (x := .int ys[m]) (by simp [hm'])
    refine ⟨ys[m], t', List.getElem?_eq_getElem hm', ?_⟩
    have e := (List.getElem?_eq_some_iff.mp hw).2
    rw [← hw', ← e]
    simp
  refine call_meets PySem.F.slot_tuple_index ⟨_, ho, rfl⟩ PySem.F.entry_tuple_index (PySem.F.args_tuple_index_2 _ _) (TI.tuple_indexAt p its.toArray n dd sl (.int z t) (eqU (.int z)) j hj ?_ ?_)
    ⟨ho, fun w hw => mem_eqAt (x := .int z) ⟨t, rfl⟩ rfl r (flat_ints' ys) w (by simpa using hw), ⟨.int (j : Nat), H, I.tok _, ⟨_, rfl⟩, q⟩⟩
  · obtain ⟨y, t', h1, h2⟩ := at' j hj
    rw [hy] at h1
    cases h1
    rw [h2]
    show (z == z) = true
    exact beq_self_eq_true z
  · intro m hm hmj
    obtain ⟨y, t', h1, h2⟩ := at' m hm
    rw [h2]
    show (y == z) = false
    exact beq_eq_false_iff_ne.mpr fun e => hno m hmj (e ▸ h1)
end MB
end
section
set_option maxRecDepth 100000
namespace MB
open PySem PySem.Spec PyProof.Rows L2
def rTupF (K : PySem.W.Frag) : List V → Hp → VK → Prop := fun xs H Q => ∃ p ys, xs = [.ref p] ∧ SqL K H p ys ∧ ∀ (l : Addr) (o : Obj), H l = none → o.cls = .type "tuple" → o.dict = none → Q (.ref l) (upd H l (.frz o (.tup ys)))
theorem call_tupleF {X : Cx} : CallR X (.type "tuple") (rTupF X.K) := by
  intro pins s σ H xs us Q I r h
  obtain ⟨p, ys, rfl, hq, q⟩ := h
  obtain ⟨u, rfl, rx⟩ := vals1 r
  cases rx
  obtain ⟨its, r', pl, hz⟩ := I.list hq
  have hlen := r'.length
  refine call_tuple_list pl.isList (fun h' kp => ?_) (by simp only [List.size_toArray] <;> omega)
  have I1 : Inv X pins σ H { s with heap := h' } := I.kept (t' := s.toks) kp
  have I2 : Inv X pins σ (upd H h'.objs.size (.frz { cls := .type "tuple", data := .seq its.toArray } (.tup ys))) { s with heap := h'.push { cls := .type "tuple", data := .seq its.toArray } } :=
    I1.laid (t' := s.toks) (fun b o e => Heap.get?_push_of_some _ e) (Nat.le_refl _) (show ObjOk X.prog X.w _ _ _ (.frz _ (.tup ys)) from ⟨Heap.get?_push_size _ rfl, hz, its, r', IsTup.new _ _⟩)
  exact ⟨.ref h'.objs.size, _, I2, rfl, q _ _ (I1.hok.fresh (Nat.le_refl _)) rfl rfl⟩
def FzT (H : Hp) (x : V) : Prop := ∃ (p : Addr) (o : Obj) (u : HO), x = .ref p ∧ H p = some (.frz o u) ∧ o.cls = .type "tuple" ∧ o.dict = none
def tBT (r : V → List V → Hp → VK → Prop) (to : TE) (t : TA) : TE := fun σ H Q => to σ H fun x H1 => FzT H1 x ∧ t σ H1 fun xs H2 => r x xs H2 Q
theorem pe_bmT {X : Cx} {o e : Expr} {es : List Expr} {to : TE} {t : TA} {name : Str} {id : String} {r : V → List V → Hp → VK → Prop} {apos cpos : Pos} (pa : PlainAttrs "tuple") (slot : Slot "tuple" name id) (hty : typeOf (.builtin id) = pure (.type "method_descriptor")) (hm : MtR X id r) (ho : PE X o to) (ha : PA X (e :: es) t)
    (hbase : attributeBase o name X.env (eval o X.env) = eval o X.env := by rfl)
    (hfew : ((backTo cpos (starEach (e :: es) X.env)).all (fun x => !x.1) && (backToKw cpos (keywordEach [] X.env)).all (fun x => x.1.isSome)
      && decide ((e :: es).length + ([] : List Keyword).length + (if ([] : List Keyword).isEmpty then 0 else 1) < 30)) = true := by rfl)
    (hline : (apos.endLine == cpos.line) = true := by rfl) (hs : starEach (e :: es) X.env = (false, eval e X.env) :: starEach es X.env := by rfl) (hplain : (backTo cpos (starEach es X.env)).any (·.1) = false := by rfl) :
    PE X (.Call (.Attribute o name apos) (e :: es) [] cpos) (tBT r to t) := by
  refine ⟨fun pins s σ H Q I h => ?_⟩
  refine wpAny_Call_method_late hbase hfew hline rfl (thn (ho.run pins s σ H _ I h) fun v s1 ⟨x, H1, I1, r1, ty, q1⟩ => ?_)
  obtain ⟨p, ob, u, rfl, hp, hc, hd⟩ := ty
  cases (show v = Value.ref p from r1)
  have hk := (I1.hok p _ hp).1
  refine ⟨"tuple", id, pa, slot, hty, ⟨ob, hk, hc⟩, fun a e => ?_, ?_⟩
  · cases e
    exact ⟨ob, hk, hd⟩
  have hA := ha.run cpos pins s1 σ H1 _ I1 q1
  rw [hs] at hA ⊢
  refine Calls.callWith_builtin (by show (false || (backTo cpos (starEach es X.env)).any (·.1)) = false; rw [hplain] <;> rfl) (Calls.evalArgs_plain ?_)
  exact thn hA fun us s2 ⟨vs, H2, I2, r2, q2⟩ => hm pins s2 σ H2 (.ref p) vs _ us Q I2 rfl r2 q2
end MB
end
section
set_option maxRecDepth 100000
set_option maxHeartbeats 4000000
namespace MB
open PySem PySem.Spec PyProof.Rows L2
def ItM (K : PySem.W.Frag) (a b : Addr) : It where
  go := fun i H => ∃ (xs ys : List V) (x y : V), SqT K H a xs ∧ SqL K H b ys ∧ xs[i]? = some x ∧ ys[i]? = some y
  yld := fun i H v H' => ∃ T x y, v = .ref T ∧ H T = none ∧ H' = upd H T (.tup [x, y]) ∧ (∀ xs, SqT K H a xs → xs[i]? = some x) ∧ ∀ ys, SqL K H b ys → ys[i]? = some y
  stop := fun i H => ∃ xs ys : List V, SqT K H a xs ∧ SqL K H b ys ∧ i = xs.length ∧ i ≤ ys.length
def five (N : Nat) : List Addr := [N + 4, N + 2, N + 3, N, N + 1]
structure AtM (N a b : Addr) (i : Nat) (h : Heap) : Prop where
  z : IsZip h (N + 4) (N + 2) (N + 3) .none
  ti : IsTupOf2 h (N + 2) (.ref N) (.ref (N + 1))
  to : ∃ x y, IsTupOf2 h (N + 3) x y
  s1 : h.IsTupleIter N a i
  s2 : h.IsListIter (N + 1) b i
theorem mem_five {N : Nat} {c : Addr} (h : c ∈ five N) : c = N + 4 ∨ c = N + 2 ∨ c = N + 3 ∨ c = N ∨ c = N + 1 := by
  unfold five at h
  simpa using h
theorem off_five {N : Nat} {c : Addr} (h : c ∉ five N) : c ≠ N + 4 ∧ c ≠ N + 3 ∧ c ≠ N ∧ c ≠ N + 1 := by
  unfold five at h
  simp only [List.mem_cons, List.not_mem_nil, or_false, not_or] at h
  exact ⟨h.1, h.2.2.1, h.2.2.2.1, h.2.2.2.2⟩
theorem ne_add {N k : Nat} (hk : k ≠ 0) : (N + k : Nat) ≠ N := by omega
theorem ne_adds {N j k : Nat} (h : j ≠ k) : (N + j : Nat) ≠ N + k := by omega
theorem turn_M {P : Program} {w : World} {K : PySem.W.Frag} {elts : List Expr} {kk : Nat} {tpos : Pos} {a b : Addr} {N : Nat} (ha : a < N) (hb : b < N) :
    Turn P w K (.Tuple elts kk tpos) (ItM K a b) (five N) (N + 4) (fun i h => AtM N a b i h) := by
  have sep : ZipSep2 (N + 4) (N + 2) (N + 3) N (N + 1) [N, a] [N + 1, b] := zip_sep2 (fp1 := [a]) (fp2 := [b]) (fun c hc => by rw [List.mem_singleton.mp hc]; exact ha) fun c hc => by rw [List.mem_singleton.mp hc]; exact hb
  have na : a ≠ N := Nat.ne_of_lt ha
  have nb : b ≠ N + 1 := Nat.ne_of_lt (Nat.lt_succ_of_lt hb)
  refine
    { mem := by simp [five]
      obj := fun i h st c hc => ?_
      keep := fun i h h' st k => ?_
      item := ?_
      done := ?_
      self := fun A i s Q E st h => wpAny_pyIter_zip st.z h }
  · obtain ⟨x, y, hto⟩ := st.to
    obtain ⟨o1, e1, _, d1⟩ := st.s1
    obtain ⟨o2, e2, _, d2⟩ := st.s2
    rcases mem_five hc with q | q | q | q | q <;> rw [q]
    · exact ⟨_, st.z, fun v r => nomatch r⟩
    · exact ⟨_, st.ti, fun v r => nomatch r⟩
    · exact ⟨_, hto, fun v r => nomatch r⟩
    · exact ⟨o1, e1, fun v r => by rw [d1] at r; cases r⟩
    · exact ⟨o2, e2, fun v r => by rw [d2] at r; cases r⟩
  · obtain ⟨x, y, hto⟩ := st.to
    have km : ∀ c ∈ five N, ∀ o, h.get? c = some o → h'.get? c = some o := fun c hc o e => k c hc o e
    exact ⟨km _ (by simp [five]) _ st.z, km _ (by simp [five]) _ st.ti, ⟨x, y, km _ (by simp [five]) _ hto⟩, st.s1.at fun o e => km _ (by simp [five]) o e, st.s2.at fun o e => km _ (by simp [five]) o e⟩
  · intro X hP hw hK hc i pins s σ H E I hf st hg
    subst hP hw hK
    obtain ⟨x0, y0, hto⟩ := st.to
    obtain ⟨xs, ys, x, y, hqx, hqy, hx, hy⟩ := hg
    obtain ⟨its, rv, p, _⟩ := I.tuple hqx
    obtain ⟨its2, rv2, p2, _⟩ := I.list hqy
    obtain ⟨u, hu, ru⟩ := rv.get hx
    obtain ⟨u2, hu2, ru2⟩ := rv2.get hy
    have hh : X.A.in1.handled = none := I.ok.hd hc
    have lt1 : i < its.toArray.size := by
      rw [List.size_toArray, ← rv.length]
      exact (List.getElem?_eq_some_iff.mp hx).1
    have lt2 : i < its2.toArray.size := by
      rw [List.size_toArray, ← rv2.length]
      exact (List.getElem?_eq_some_iff.mp hy).1
    have zl : N + 4 < s.heap.objs.size := Heap.lt_size st.z
    refine wpAny_pyNext_zipD2_item sep (Draws.tuple hh N a na its.toArray) (Draws.list hh (N + 1) b nb its2.toArray) st.z st.ti hto ⟨st.s1, p⟩ ⟨st.s2, p2.isList⟩ lt1 lt2
      fun w1 w2 h' tk e1 e2 z' to' st1 st2 hT hsz hk => ?_
    obtain rfl : w1 = u := by
      have q : its.toArray[i]? = some u := by simpa using hu
      exact Option.some.inj (e1.symm.trans q)
    obtain rfl : w2 = u2 := by
      have q : its2.toArray[i]? = some u2 := by simpa using hu2
      exact Option.some.inj (e2.symm.trans q)
    refine ⟨_, rfl, wpAny_letOwnedTupleGo_zip (s := { s with heap := h', toks := tk }) z' fun h'' z'' sb => ?_⟩
    have other : ∀ c o, c ≠ N + 4 → h'.get? c = some o → h''.get? c = some o := fun c o n e => (sb.2 c n).trans e
    have hT2 : h''.get? s.heap.objs.size = some { cls := .type "tuple", data := .seq #[w1, w2] } := other _ _ (Nat.ne_of_gt zl) hT
    have new : ObjOk X.prog X.w (upd H s.heap.objs.size (.tup [x, y])) h'' s.heap.objs.size (.tup [x, y]) :=
      ⟨(by decide : 2 ≤ sizeLine), [w1, w2], .cons ru (.cons ru2 .nil), ⟨_, hT2, rfl, _, rfl⟩⟩
    have I1 : Inv X pins σ (upd H s.heap.objs.size (.tup [x, y])) { s with heap := h'', toks := tk } :=
      I.turnedNew (ch := five N) (fun c o n e => by
        obtain ⟨n1, n2, n3, n4⟩ := off_five n
        exact other c o n1 (hk c o n1 n2 n3 n4 e)) hf (Nat.le_refl _) new
    refine ⟨.ref s.heap.objs.size, _, I1, rfl, ⟨_, x, y, rfl, I.hok.fresh (Nat.le_refl _), rfl, fun l hl => by rw [I.tuple_inj hl hqx]; exact hx, fun l hl => by rw [I.list_inj hl hqy]; exact hy⟩, ⟨z'', ?_, ⟨w1, w2, ?_⟩, ?_, ?_⟩, fun c hcm => ?_⟩
    · exact other _ _ sep.TIz (hk _ _ sep.TIz sep.TITO sep.TIi1 sep.TIi2 st.ti)
    · exact other _ _ sep.TOz to'
    · exact st1.1.at fun o e => other _ o (ne_add (by decide)).symm e
    · exact st2.1.at fun o e => other _ o (ne_adds (by decide)) e
    · have lt : c < s.heap.objs.size := by
        rcases mem_five hcm with q | q | q | q | q <;> rw [q] <;> first | exact zl | exact Nat.lt_of_le_of_lt (by omega) zl
      rw [upd_ne (Nat.ne_of_lt lt)]
      exact (hf c hcm).1
  · intro X hP hw hK hc i pins s σ H E I hf st hg
    subst hP hw hK
    obtain ⟨x0, y0, hto⟩ := st.to
    obtain ⟨xs, ys, hqx, hqy, en, le2⟩ := hg
    obtain ⟨its, rv, p, _⟩ := I.tuple hqx
    obtain ⟨its2, rv2, p2, _⟩ := I.list hqy
    have hh : X.A.in1.handled = none := I.ok.hd hc
    have z1 : its.toArray.size = xs.length := by rw [List.size_toArray, ← rv.length]
    have z2 : its2.toArray.size = ys.length := by rw [List.size_toArray, ← rv2.length]
    refine wpAny_pyNext_zipD2_end sep (Draws.tuple hh N a na its.toArray) (Draws.list hh (N + 1) b nb its2.toArray) st.z st.ti hto ⟨st.s1, p⟩ ⟨st.s2, p2.isList⟩ (by omega) (by omega) (.inl (by omega)) fun h' tk hk => ?_
    exact ⟨rfl, I.turnedL (t' := tk) (ch := five N) (fun c o n e => by
      obtain ⟨n1, n2, n3, n4⟩ := off_five n
      exact hk c o n1 n2 n3 n4 e) hf⟩
def iZipM (K : PySem.W.Frag) (ta : TA) : TI := fun σ H R => ta σ H fun vs H1 => ∃ a b xs ys, vs = [.ref a, .ref b] ∧ SqT K H1 a xs ∧ SqL K H1 b ys ∧ R (ItM K a b) H1
theorem pi_zipM {X : Cx} {e e2 : Expr} {ta : TA} {p pos tpos : Pos} {elts : List Expr} {kk : Nat} (hg : Gl X "zip") (hm : X.mg "zip" = none) (ha : PA X [e, e2] ta)
    (hs : starEach [e, e2] X.env = (false, eval e X.env) :: starEach [e2] X.env := by rfl) (hpl : (backTo pos (starEach [e2] X.env)).any (·.1) = false := by rfl) :
    PI X (.Tuple elts kk tpos) (.Call (.Name "zip" p) [e, e2] [] pos) (iZipM X.K ta) := by
  refine ⟨fun pins s σ H R I h => Call_ (ld_blt I hg hm PyProof.Rows.boot_zip (PyProof.Rows.callWith_type1 (thn (ha.run pos pins s σ H _ I h) fun us s1 ⟨vs, H1, I1, r1, a, b, xs, ys, ex, hx, hy, q⟩ => ?_) hs hpl))⟩
  subst ex
  obtain ⟨u1, u2, rfl, r, r'⟩ := vals2 r1
  cases r
  cases r'
  obtain ⟨its, rv, p1, _⟩ := I1.tuple hx
  obtain ⟨its2, rv2, p2, _⟩ := I1.list hy
  refine zip_begins2 (begins_tuple a its.toArray) (begins_list b its2.toArray) p1 p2.isList fun h' z ti to g1 g2 _ hk => wpAny_pyIter_zip z ?_
  have I2 : Inv X pins σ H1 { s1 with heap := h' } := I1.kept (t' := s1.toks) hk
  refine ⟨s1.heap.objs.size + 4, five s1.heap.objs.size, _, _, H1, rfl, I2, turn_M p1.lt p2.lt, ⟨z, ti, ⟨_, _, to⟩, ⟨_, g1, rfl, rfl⟩, ⟨_, g2, rfl, rfl⟩⟩, fun c hc => ?_, q⟩
  have le : s1.heap.objs.size ≤ c := by
    rcases mem_five hc with q | q | q | q | q <;> rw [q] <;> first | exact Nat.le_refl _ | exact Nat.le_add_right _ _
  exact I1.fpOk le (I1.hok.fresh le)
theorem walk_M {K : PySem.W.Frag} {a b : Addr} {xs ys : List V} (hl : xs.length ≤ ys.length) :
    Walk (ItM K a b) xs.length (fun H => SqT K H a xs ∧ SqL K H b ys) (YPair (fun i => xs[i]?) (fun i => ys[i]?)) := by
  refine ⟨fun i _ hi q => ⟨xs, ys, xs[i], ys[i]'(by omega), q.1, q.2, by simp [hi], by simp [show i < ys.length by omega]⟩, fun _ q => ⟨xs, ys, q.1, q.2, rfl, hl⟩, fun i H v H' _ q y => ?_⟩
  obtain ⟨T, x, z, h1, h2, h3, h4, h5⟩ := y
  exact ⟨T, x, z, h1, h2, h3, h4 xs q.1, h5 ys q.2⟩
end MB
end
section
set_option maxRecDepth 100000
set_option maxHeartbeats 4000000
namespace MB
open PySem PySem.Spec PyProof.Rows L2
def ItN (K : PySem.W.Frag) (a b : Addr) : It where
  go := fun i H => ∃ (xs ys : List V) (x y : V), SqL K H a xs ∧ SqT K H b ys ∧ xs[i]? = some x ∧ ys[i]? = some y
  yld := fun i H v H' => ∃ T x y, v = .ref T ∧ H T = none ∧ H' = upd H T (.tup [x, y]) ∧ (∀ xs, SqL K H a xs → xs[i]? = some x) ∧ ∀ ys, SqT K H b ys → ys[i]? = some y
  stop := fun i H => ∃ xs ys : List V, SqL K H a xs ∧ SqT K H b ys ∧ i = xs.length ∧ i ≤ ys.length
structure AtN (N a b : Addr) (i : Nat) (h : Heap) : Prop where
  z : IsZip h (N + 4) (N + 2) (N + 3) .none
  ti : IsTupOf2 h (N + 2) (.ref N) (.ref (N + 1))
  to : ∃ x y, IsTupOf2 h (N + 3) x y
  s1 : h.IsListIter N a i
  s2 : h.IsTupleIter (N + 1) b i
theorem turn_N {P : Program} {w : World} {K : PySem.W.Frag} {elts : List Expr} {kk : Nat} {tpos : Pos} {a b : Addr} {N : Nat} (ha : a < N) (hb : b < N) :
    Turn P w K (.Tuple elts kk tpos) (ItN K a b) (five N) (N + 4) (fun i h => AtN N a b i h) := by
  have sep : ZipSep2 (N + 4) (N + 2) (N + 3) N (N + 1) [N, a] [N + 1, b] := zip_sep2 (fp1 := [a]) (fp2 := [b]) (fun c hc => by rw [List.mem_singleton.mp hc]; exact ha) fun c hc => by rw [List.mem_singleton.mp hc]; exact hb
  have na : a ≠ N := Nat.ne_of_lt ha
  have nb : b ≠ N + 1 := Nat.ne_of_lt (Nat.lt_succ_of_lt hb)
  refine
    { mem := by simp [five]
      obj := fun i h st c hc => ?_
      keep := fun i h h' st k => ?_
      item := ?_
      done := ?_
      self := fun A i s Q E st h => wpAny_pyIter_zip st.z h }
  · obtain ⟨x, y, hto⟩ := st.to
    obtain ⟨o1, e1, _, d1⟩ := st.s1
    obtain ⟨o2, e2, _, d2⟩ := st.s2
    rcases mem_five hc with q | q | q | q | q <;> rw [q]
    · exact ⟨_, st.z, fun v r => nomatch r⟩
    · exact ⟨_, st.ti, fun v r => nomatch r⟩
    · exact ⟨_, hto, fun v r => nomatch r⟩
    · exact ⟨o1, e1, fun v r => by rw [d1] at r; cases r⟩
    · exact ⟨o2, e2, fun v r => by rw [d2] at r; cases r⟩
  · obtain ⟨x, y, hto⟩ := st.to
    have km : ∀ c ∈ five N, ∀ o, h.get? c = some o → h'.get? c = some o := fun c hc o e => k c hc o e
    exact ⟨km _ (by simp [five]) _ st.z, km _ (by simp [five]) _ st.ti, ⟨x, y, km _ (by simp [five]) _ hto⟩, st.s1.at fun o e => km _ (by simp [five]) o e, st.s2.at fun o e => km _ (by simp [five]) o e⟩
  · intro X hP hw hK hc i pins s σ H E I hf st hg
    subst hP hw hK
    obtain ⟨x0, y0, hto⟩ := st.to
    obtain ⟨xs, ys, x, y, hqx, hqy, hx, hy⟩ := hg
    obtain ⟨its, rv, p, _⟩ := I.list hqx
    obtain ⟨its2, rv2, p2, _⟩ := I.tuple hqy
    obtain ⟨u, hu, ru⟩ := rv.get hx
    obtain ⟨u2, hu2, ru2⟩ := rv2.get hy
    have hh : X.A.in1.handled = none := I.ok.hd hc
    have lt1 : i < its.toArray.size := by
      rw [List.size_toArray, ← rv.length]
      exact (List.getElem?_eq_some_iff.mp hx).1
    have lt2 : i < its2.toArray.size := by
      rw [List.size_toArray, ← rv2.length]
      exact (List.getElem?_eq_some_iff.mp hy).1
    have zl : N + 4 < s.heap.objs.size := Heap.lt_size st.z
    refine wpAny_pyNext_zipD2_item sep (Draws.list hh N a na its.toArray) (Draws.tuple hh (N + 1) b nb its2.toArray) st.z st.ti hto ⟨st.s1, p.isList⟩ ⟨st.s2, p2⟩ lt1 lt2
      fun w1 w2 h' tk e1 e2 z' to' st1 st2 hT hsz hk => ?_
    obtain rfl : w1 = u := by
      have q : its.toArray[i]? = some u := by simpa using hu
      exact Option.some.inj (e1.symm.trans q)
    obtain rfl : w2 = u2 := by
      have q : its2.toArray[i]? = some u2 := by simpa using hu2
      exact Option.some.inj (e2.symm.trans q)
    refine ⟨_, rfl, wpAny_letOwnedTupleGo_zip (s := { s with heap := h', toks := tk }) z' fun h'' z'' sb => ?_⟩
    have other : ∀ c o, c ≠ N + 4 → h'.get? c = some o → h''.get? c = some o := fun c o n e => (sb.2 c n).trans e
    have hT2 : h''.get? s.heap.objs.size = some { cls := .type "tuple", data := .seq #[w1, w2] } := other _ _ (Nat.ne_of_gt zl) hT
    have new : ObjOk X.prog X.w (upd H s.heap.objs.size (.tup [x, y])) h'' s.heap.objs.size (.tup [x, y]) :=
      ⟨(by decide : 2 ≤ sizeLine), [w1, w2], .cons ru (.cons ru2 .nil), ⟨_, hT2, rfl, _, rfl⟩⟩
    have I1 : Inv X pins σ (upd H s.heap.objs.size (.tup [x, y])) { s with heap := h'', toks := tk } :=
      I.turnedNew (ch := five N) (fun c o n e => by
        obtain ⟨n1, n2, n3, n4⟩ := off_five n
        exact other c o n1 (hk c o n1 n2 n3 n4 e)) hf (Nat.le_refl _) new
    refine ⟨.ref s.heap.objs.size, _, I1, rfl, ⟨_, x, y, rfl, I.hok.fresh (Nat.le_refl _), rfl, fun l hl => by rw [I.list_inj hl hqx]; exact hx, fun l hl => by rw [I.tuple_inj hl hqy]; exact hy⟩, ⟨z'', ?_, ⟨w1, w2, ?_⟩, ?_, ?_⟩, fun c hcm => ?_⟩
    · exact other _ _ sep.TIz (hk _ _ sep.TIz sep.TITO sep.TIi1 sep.TIi2 st.ti)
    · exact other _ _ sep.TOz to'
    · exact st1.1.at fun o e => other _ o (ne_add (by decide)).symm e
    · exact st2.1.at fun o e => other _ o (ne_adds (by decide)) e
    · have lt : c < s.heap.objs.size := by
        rcases mem_five hcm with q | q | q | q | q <;> rw [q] <;> first | exact zl | exact Nat.lt_of_le_of_lt (by omega) zl
      rw [upd_ne (Nat.ne_of_lt lt)]
      exact (hf c hcm).1
  · intro X hP hw hK hc i pins s σ H E I hf st hg
    subst hP hw hK
    obtain ⟨x0, y0, hto⟩ := st.to
    obtain ⟨xs, ys, hqx, hqy, en, le2⟩ := hg
    obtain ⟨its, rv, p, _⟩ := I.list hqx
    obtain ⟨its2, rv2, p2, _⟩ := I.tuple hqy
    have hh : X.A.in1.handled = none := I.ok.hd hc
    have z1 : its.toArray.size = xs.length := by rw [List.size_toArray, ← rv.length]
    have z2 : its2.toArray.size = ys.length := by rw [List.size_toArray, ← rv2.length]
    refine wpAny_pyNext_zipD2_end sep (Draws.list hh N a na its.toArray) (Draws.tuple hh (N + 1) b nb its2.toArray) st.z st.ti hto ⟨st.s1, p.isList⟩ ⟨st.s2, p2⟩ (by omega) (by omega) (.inl (by omega)) fun h' tk hk => ?_
    exact ⟨rfl, I.turnedL (t' := tk) (ch := five N) (fun c o n e => by
      obtain ⟨n1, n2, n3, n4⟩ := off_five n
      exact hk c o n1 n2 n3 n4 e) hf⟩
def iZipN (K : PySem.W.Frag) (ta : TA) : TI := fun σ H R => ta σ H fun vs H1 => ∃ a b xs ys, vs = [.ref a, .ref b] ∧ SqL K H1 a xs ∧ SqT K H1 b ys ∧ R (ItN K a b) H1
theorem pi_zipN {X : Cx} {e e2 : Expr} {ta : TA} {p pos tpos : Pos} {elts : List Expr} {kk : Nat} (hg : Gl X "zip") (hm : X.mg "zip" = none) (ha : PA X [e, e2] ta)
    (hs : starEach [e, e2] X.env = (false, eval e X.env) :: starEach [e2] X.env := by rfl) (hpl : (backTo pos (starEach [e2] X.env)).any (·.1) = false := by rfl) :
    PI X (.Tuple elts kk tpos) (.Call (.Name "zip" p) [e, e2] [] pos) (iZipN X.K ta) := by
  refine ⟨fun pins s σ H R I h => Call_ (ld_blt I hg hm PyProof.Rows.boot_zip (PyProof.Rows.callWith_type1 (thn (ha.run pos pins s σ H _ I h) fun us s1 ⟨vs, H1, I1, r1, a, b, xs, ys, ex, hx, hy, q⟩ => ?_) hs hpl))⟩
  subst ex
  obtain ⟨u1, u2, rfl, r, r'⟩ := vals2 r1
  cases r
  cases r'
  obtain ⟨its, rv, p1, _⟩ := I1.list hx
  obtain ⟨its2, rv2, p2, _⟩ := I1.tuple hy
  refine zip_begins2 (begins_list a its.toArray) (begins_tuple b its2.toArray) p1.isList p2 fun h' z ti to g1 g2 _ hk => wpAny_pyIter_zip z ?_
  have I2 : Inv X pins σ H1 { s1 with heap := h' } := I1.kept (t' := s1.toks) hk
  refine ⟨s1.heap.objs.size + 4, five s1.heap.objs.size, _, _, H1, rfl, I2, turn_N p1.lt p2.lt, ⟨z, ti, ⟨_, _, to⟩, ⟨_, g1, rfl, rfl⟩, ⟨_, g2, rfl, rfl⟩⟩, fun c hc => ?_, q⟩
  have le : s1.heap.objs.size ≤ c := by
    rcases mem_five hc with q | q | q | q | q <;> rw [q] <;> first | exact Nat.le_refl _ | exact Nat.le_add_right _ _
  exact I1.fpOk le (I1.hok.fresh le)
theorem walk_N {K : PySem.W.Frag} {a b : Addr} {xs ys : List V} (hl : xs.length ≤ ys.length) :
    Walk (ItN K a b) xs.length (fun H => SqL K H a xs ∧ SqT K H b ys) (YPair (fun i => xs[i]?) (fun i => ys[i]?)) := by
  refine ⟨fun i _ hi q => ⟨xs, ys, xs[i], ys[i]'(by omega), q.1, q.2, by simp [hi], by simp [show i < ys.length by omega]⟩, fun _ q => ⟨xs, ys, q.1, q.2, rfl, hl⟩, fun i H v H' _ q y => ?_⟩
  obtain ⟨T, x, z, h1, h2, h3, h4, h5⟩ := y
  exact ⟨T, x, z, h1, h2, h3, h4 xs q.1, h5 ys q.2⟩
end MB
end
section
set_option maxRecDepth 100000
set_option maxHeartbeats 4000000
set_option exponentiation.threshold 9000
namespace K09
open PySem PySem.Spec PyProof.Rows L2 MB LM
open LamX hiding takes0
def TIF (K : PySem.W.Frag) (H : Hp) (v : V) (ns : List Int) : Prop := ∃ (a : Addr) (o : Obj), v = .ref a ∧ H a = some (.frz o (.tup (ns.map V.int))) ∧ o.cls = .type "tuple" ∧ o.dict = none
theorem TIF.ti {K : PySem.W.Frag} {H : Hp} {v : V} {ns : List Int} (h : TIF K H v ns) : TI K H v ns := by
  obtain ⟨a, o, rfl, h1, _⟩ := h
  exact ⟨a, rfl, .inl (.inr ⟨o, h1⟩)⟩
theorem TIF.same {K : PySem.W.Frag} {H H' : Hp} {v : V} {ns : List Int} (h : TIF K H v ns) (e : Same H H') : TIF K H' v ns := by
  obtain ⟨a, o, rfl, h1, h2⟩ := h
  exact ⟨a, o, rfl, e _ _ h1, h2⟩
theorem TIF.fz {K : PySem.W.Frag} {H : Hp} {v : V} {ns : List Int} (h : TIF K H v ns) : FzT H v := by
  obtain ⟨a, o, rfl, h1, h2, h3⟩ := h
  exact ⟨a, o, _, rfl, h1, h2, h3⟩
theorem pairedF {K : PySem.W.Frag} {H : Hp} {vs : List V} {Ls : List (List Int)} (h : Paired (TIF K H) vs Ls) : Paired (TI K H) vs Ls := by
  induction h with
  | nil => exact .nil
  | cons r _ ih => exact .cons r.ti ih
theorem pairedF_same {K : PySem.W.Frag} {H H' : Hp} {vs : List V} {Ls : List (List Int)} (e : Same H H') (h : Paired (TIF K H) vs Ls) : Paired (TIF K H') vs Ls := by
  induction h with
  | nil => exact .nil
  | cons r _ ih => exact .cons (r.same e) ih
def RowsF (K : PySem.W.Frag) (H : Hp) (v : V) (Ps : List (Nat × List Int)) : Prop := ∃ a vs, v = .ref a ∧ SqT K H a vs ∧ Paired (TIF K H) vs (Ps.map (·.2))
theorem RowsF.red {K : PySem.W.Frag} {H : Hp} {v : V} {Ps : List (Nat × List Int)} (h : RowsF K H v Ps) : TupRed K H v Ps := by
  obtain ⟨a, vs, rfl, h1, h2⟩ := h
  exact ⟨a, vs, rfl, h1, pairedF h2⟩
theorem RowsF.same {K : PySem.W.Frag} {H H' : Hp} {v : V} {Ps : List (Nat × List Int)} (h : RowsF K H v Ps) (e : Same H H') : RowsF K H' v Ps := by
  obtain ⟨a, vs, rfl, h1, h2⟩ := h
  exact ⟨a, vs, rfl, e.tup h1, pairedF_same e h2⟩
section
variable {w : World} {K : PySem.W.Frag} {mg : Str → Option Value} {base : Heap}
end
end K09
end
section
set_option maxRecDepth 100000
namespace TX
open PySem LM
def sep : Str := " "
def nl : Str := "\n"
def num (i : Int) : Str := Str.ofString (toString i)
def headS (q n : Int) : Str := Str.ofString "book " ++ num q ++ sep ++ num n
def sgn (q : Int) : List Str := (List.range q.toNat).map fun k : Nat => num (k : Int)
def rowS (r : List Int) : Str := PySem.Txt.join sep (r.map num)
def bookS (q n : Int) (Rs : List (List Int)) : Str := PySem.Txt.join nl (headS q n :: Rs.map rowS)
def headOf (x : Str) : Option Nat := (List.range 32).find? fun a => decide (x = headS (2 + (a / 8 : Nat)) (1 + (a % 8 : Nat)))
def rowOf (q : Int) (n : Nat) (x : Str) : Option (List Int) := if (PySem.Txt.split x sep).length = n ∧ ∀ p ∈ PySem.Txt.split x sep, p ∈ sgn q then some ((PySem.Txt.split x sep).map fun p => ((sgn q).idxOf p : Int)) else none
def leadOf (r : List Int) : Option Nat := (List.range r.length).find? fun p => decide (r.getD p 0 ≠ 0)
def nextLead (Ps : List (Nat × List Int)) (r : List Int) : Option Nat := match leadOf r with
  | some h => if r.getD h 0 = 1 ∧ ∀ x ∈ Ps, x.1 < h ∧ x.2.getD h 0 = 0 then some h else none
  | none => none
def nextRow (q : Int) (n : Nat) (Ps : List (Nat × List Int)) (x : Str) : Option (Nat × List Int) := match rowOf q n x with
  | some r => (nextLead Ps r).map fun h => (h, r)
  | none => none
def readRows (q : Int) (n : Nat) : List Str → Nat → List (Nat × List Int) → Except Int (List (Nat × List Int))
  | [], _, Ps => .ok Ps
  | x :: xs, i, Ps => match nextRow q n Ps x with
    | some p => readRows q n xs (i + 1) (Ps ++ [p])
    | none => .error (i + 2 : Nat)
def readT (x : Str) : Except Int (Int × Nat × List (Nat × List Int)) := match headOf ((PySem.Txt.split x nl).getD 0 Str.empty) with
  | none => .error 1
  | some a => match readRows (2 + (a / 8 : Nat)) (1 + a % 8) ((PySem.Txt.split x nl).drop 1) 0 [] with
    | .ok Ps => .ok (2 + (a / 8 : Nat), 1 + a % 8, Ps)
    | .error e => .error e
theorem join_split (x y : Str) : PySem.Txt.join y (PySem.Txt.split x y) = x := by
  show Builtin.Str.glued y _ = x
  rw [StrLaws.glued_eq_join, StrLaws.join_split]
theorem sgn_get {q : Int} {k : Nat} (h : k < q.toNat) : (sgn q)[k]? = some (num (k : Int)) := by
  unfold sgn
  rw [List.getElem?_map, List.getElem?_range h]
  rfl
theorem sgn_at {q : Int} {p : Str} (h : p ∈ sgn q) : num ((sgn q).idxOf p : Int) = p ∧ ((sgn q).idxOf p : Int) < q := by
  have hl := List.idxOf_lt_length_iff.mpr h
  have hl2 : (sgn q).idxOf p < q.toNat := by
    have : (sgn q).length = q.toNat := by unfold sgn; simp
    rw [← this]
    exact hl
  have e : (sgn q)[(sgn q).idxOf p]? = some p := by rw [List.getElem?_eq_getElem hl, List.getElem_idxOf hl]
  rw [sgn_get hl2] at e
  exact ⟨Option.some.inj e, by omega⟩
theorem rowOf_text {q : Int} {n : Nat} {x : Str} {r : List Int} (h : rowOf q n x = some r) : rowS r = x ∧ IsRow q r ∧ r.length = n := by
  unfold rowOf at h
  split at h
  · rename_i c
    obtain ⟨c1, c2⟩ := c
    cases h
    refine ⟨?_, ?_, ?_⟩
    · unfold rowS
      rw [List.map_map]
      have : (PySem.Txt.split x sep).map (num ∘ fun p => ((sgn q).idxOf p : Int)) = PySem.Txt.split x sep := by
        conv => rhs; rw [← List.map_id (PySem.Txt.split x sep)]
        exact List.map_congr_left fun p hp => (sgn_at (c2 p hp)).1
      rw [this, join_split]
    · intro c hc
      obtain ⟨p, hp, rfl⟩ := List.mem_map.mp hc
      exact ⟨by omega, (sgn_at (c2 p hp)).2⟩
    · rw [List.length_map, c1]
  · cases h
theorem leadOf_some {r : List Int} {h : Nat} (e : leadOf r = some h) : h < r.length ∧ r.getD h 0 ≠ 0 ∧ ∀ p, p < h → r.getD p 0 = 0 := by
  unfold leadOf at e
  obtain ⟨h1, as, bs, e2, h3⟩ := List.find?_eq_some_iff_append.mp e
  have hm : h ∈ List.range r.length := List.mem_of_find?_eq_some e
  refine ⟨List.mem_range.mp hm, of_decide_eq_true h1, fun p hp => ?_⟩
  have hp2 : p ∈ as := by
    have hlt : h = as.length := by
      have : (List.range r.length)[as.length]? = some h := by rw [e2]; simp
      rw [List.getElem?_range] at this
      · simpa using this.symm
      · have := congrArg List.length e2
        simp at this
        omega
    have : (List.range r.length)[p]? = some p := List.getElem?_range (by have := List.mem_range.mp hm; omega)
    rw [e2, List.getElem?_append_left (by omega)] at this
    exact List.mem_of_getElem? this
  have := h3 p hp2
  simpa using this
theorem leadOf_none {r : List Int} (e : leadOf r = none) : ∀ p, p < r.length → r.getD p 0 = 0 := fun p hp => by
  have := List.find?_eq_none.mp e p (List.mem_range.mpr hp)
  simpa using this
theorem leadOf_of {r : List Int} {h : Nat} (h1 : h < r.length) (h2 : r.getD h 0 ≠ 0) (h3 : ∀ p, p < h → r.getD p 0 = 0) : leadOf r = some h := by
  cases e : leadOf r with
  | none => exact absurd (leadOf_none e h h1) h2
  | some k =>
    obtain ⟨k1, k2, k3⟩ := leadOf_some e
    rcases Nat.lt_trichotomy h k with z | z | z
    · exact absurd (k3 h z) h2
    · rw [z]
    · exact absurd (h3 k z) k2
theorem nextLead_some {Ps : List (Nat × List Int)} {r : List Int} {h : Nat} (e : nextLead Ps r = some h) : leadOf r = some h ∧ r.getD h 0 = 1 ∧ ∀ x ∈ Ps, x.1 < h ∧ x.2.getD h 0 = 0 := by
  unfold nextLead at e
  split at e
  · rename_i k hk
    split at e
    · rename_i c
      cases e
      exact ⟨hk, c.1, c.2⟩
    · cases e
  · cases e
theorem RR.snoc {q : Int} {n h : Nat} {Ps : List (Nat × List Int)} {r : List Int} (H : RR q n Ps) (hr : IsRow q r) (hl : r.length = n) (e : nextLead Ps r = some h) : RR q n (Ps ++ [(h, r)]) := by
  obtain ⟨e1, e2, e3⟩ := nextLead_some e
  obtain ⟨l1, l2, l3⟩ := leadOf_some e1
  refine ⟨fun x hx => ?_, ?_⟩
  · rcases List.mem_append.mp hx with hx | hx
    · exact H.one x hx
    · rw [List.mem_singleton.mp hx]
      exact ⟨hr, hl, by omega, l3, e2⟩
  · exact List.pairwise_append.mpr ⟨H.two, List.pairwise_singleton _ _, fun a ha b hb => by rw [List.mem_singleton.mp hb]; exact e3 a ha⟩
theorem nextRow_some {q : Int} {n : Nat} {Ps : List (Nat × List Int)} {x : Str} {p : Nat × List Int} (e : nextRow q n Ps x = some p) : rowOf q n x = some p.2 ∧ nextLead Ps p.2 = some p.1 := by
  unfold nextRow at e
  split at e
  · rename_i r hr
    cases e2 : nextLead Ps r with
    | none => rw [e2] at e; cases e
    | some h =>
      rw [e2] at e
      cases e
      exact ⟨hr, e2⟩
  · cases e
theorem RR.next {q : Int} {n : Nat} {Ps : List (Nat × List Int)} {x : Str} {p : Nat × List Int} (H : RR q n Ps) (e : nextRow q n Ps x = some p) : RR q n (Ps ++ [p]) ∧ rowS p.2 = x := by
  obtain ⟨e1, e2⟩ := nextRow_some e
  obtain ⟨t, hr, hl⟩ := rowOf_text e1
  exact ⟨RR.snoc H hr hl e2, t⟩
theorem readRows_ok {q : Int} {n : Nat} : ∀ {xs : List Str} {i : Nat} {Ps Qs : List (Nat × List Int)}, RR q n Ps → readRows q n xs i Ps = .ok Qs → RR q n Qs ∧ Qs.map (fun p => rowS p.2) = Ps.map (fun p => rowS p.2) ++ xs
  | [], i, Ps, Qs, H, e => by
    unfold readRows at e
    cases e
    exact ⟨H, by simp⟩
  | x :: xs, i, Ps, Qs, H, e => by
    unfold readRows at e
    split at e
    · rename_i p hp
      obtain ⟨H2, t⟩ := RR.next H hp
      obtain ⟨a, b⟩ := readRows_ok H2 e
      refine ⟨a, ?_⟩
      rw [b]
      simp [t]
    · cases e
theorem readRows_err {q : Int} {n : Nat} : ∀ {xs : List Str} {i : Nat} {Ps : List (Nat × List Int)} {e : Int}, readRows q n xs i Ps = .error e → 2 ≤ e ∧ e < i + xs.length + 2
  | [], i, Ps, e, h => by unfold readRows at h; cases h
  | x :: xs, i, Ps, e, h => by
    unfold readRows at h
    split at h
    · have := readRows_err h
      simp only [List.length_cons]
      omega
    · cases h
      simp only [List.length_cons]
      omega
theorem headOf_some {x : Str} {a : Nat} (e : headOf x = some a) : a < 32 ∧ x = headS (2 + (a / 8 : Nat)) (1 + (a % 8 : Nat)) :=
  by
  have h := List.find?_some e
  exact ⟨List.mem_range.mp (List.mem_of_find?_eq_some e), of_decide_eq_true h⟩
theorem find_first {α : Type} {p : α → Bool} {l : List α} {i : Nat} {x : α} (h : l[i]? = some x) (hp : p x = true) (hn : ∀ j y, j < i → l[j]? = some y → p y = false) : l.find? p = some x := by
  induction l generalizing i with
  | nil => simp at h
  | cons z r ih =>
    cases i with
    | zero =>
      simp only [List.getElem?_cons_zero, Option.some.injEq] at h
      rw [h, List.find?_cons, hp]
    | succ i =>
      have hz := hn 0 z (by omega) rfl
      rw [List.find?_cons, hz]
      exact ih (by simpa using h) fun j y hj hy => hn (j + 1) y (by omega) (by simpa using hy)
theorem headOf_of {x : Str} {a : Nat} (h : a < 32) (e : x = headS (2 + (a / 8 : Nat)) (1 + (a % 8 : Nat))) (hn : ∀ b, b < a → x ≠ headS (2 + (b / 8 : Nat)) (1 + (b % 8 : Nat))) : headOf x = some a := by
  unfold headOf
  refine find_first (i := a) (List.getElem?_range h) (decide_eq_true e) fun j y hj hy => ?_
  rw [List.getElem?_range (by omega)] at hy
  cases hy
  exact decide_eq_false (hn j hj)
theorem headOf_nil {x : Str} (hn : ∀ b, b < 32 → x ≠ headS (2 + (b / 8 : Nat)) (1 + (b % 8 : Nat))) : headOf x = none := by
  unfold headOf
  refine List.find?_eq_none.mpr fun b hb => ?_
  have := hn b (List.mem_range.mp hb)
  simpa using this
theorem split_ne (x y : Str) : PySem.Txt.split x y ≠ [] := by
  intro e
  have := PyProof.Rows.split_pos x y
  rw [e] at this
  exact absurd this (by decide)
theorem readT_ok {x : Str} {q : Int} {n : Nat} {Ps : List (Nat × List Int)} (e : readT x = .ok (q, n, Ps)) : bookS q n (Ps.map (·.2)) = x ∧ RR q n Ps ∧ LetQ q ∧ 1 ≤ n ∧ n ≤ 8 := by
  unfold readT at e
  split at e
  · cases e
  · rename_i a ha
    obtain ⟨a1, a2⟩ := headOf_some ha
    split at e
    · rename_i Qs hQ
      cases e
      obtain ⟨H, t⟩ := readRows_ok RR.nil hQ
      refine ⟨?_, H, ?_, by omega, by omega⟩
      · unfold bookS
        rw [List.map_map]
        have t2 : Ps.map (rowS ∘ fun x => x.2) = (PySem.Txt.split x nl).drop 1 := t
        have hs : headS (2 + (a / 8 : Nat)) ((1 + a % 8 : Nat) : Int) = (PySem.Txt.split x nl).getD 0 Str.empty := by rw [a2]; rfl
        rw [t2, hs]
        conv => rhs; rw [← join_split x nl]
        congr 1
        cases e : PySem.Txt.split x nl with
        | nil => exact absurd e (split_ne x nl)
        | cons b r => rfl
      · exact ⟨by omega, by omega⟩
    · cases e
end TX
end
section
set_option maxRecDepth 100000
set_option maxHeartbeats 4000000
namespace K09
open PySem PySem.Spec PyProof.Rows L2 MB PM LM
open LamX hiding takes0
def rowsD (Rs : List (List Int)) : PyData := .tuple (Rs.map fun r => .tuple (r.map PyData.int))
theorem dp_rows {K : PySem.W.Frag} {H : Hp} {vs : List V} {Rs : List (List Int)} (h : Paired (TI K H) vs Rs) : DpAll K H vs (Rs.map fun r => PyData.tuple (r.map PyData.int)) := by
  induction h with
  | nil => exact .nil
  | cons r _ ih =>
    obtain ⟨a, rfl, ha⟩ := r
    exact .cons (.tup ha (dp_ints _)) ih
theorem rows_lay : ∀ Rs : List (List Int), PyData.canLayAll0 (Rs.map fun r => PyData.tuple (r.map PyData.int)) = true
  | [] => by simp only [List.map_nil, PyData.canLayAll0]
  | r :: Rs => by simp only [List.map_cons, PyData.canLayAll0, PyData.canLay0, ints_lay, rows_lay Rs, Bool.and_self]
theorem rows_depth : ∀ Rs : List (List Int), PyData.depthAll (Rs.map fun r => PyData.tuple (r.map PyData.int)) ≤ 1
  | [] => by simp only [List.map_nil, PyData.depthAll]; decide
  | r :: Rs => by
    simp only [List.map_cons, PyData.depthAll, PyData.depth, ints_depth]
    exact Nat.max_le.mpr ⟨Nat.le_refl _, rows_depth Rs⟩
theorem rows_can (Rs : List (List Int)) : (rowsD Rs).canLay0 = true := by
  unfold rowsD
  simp only [PyData.canLay0]
  exact rows_lay Rs
theorem rows_shaped (Rs : List (List Int)) : SeqAt.shaped (rowsD Rs) = true := by
  unfold SeqAt.shaped
  rw [rows_can, Bool.true_and]
  have h := rows_depth Rs
  refine decide_eq_true ?_
  unfold rowsD
  simp only [PyData.depth]
  omega
theorem rows_refl (Rs : List (List Int)) : PyData.eqv (rowsD Rs) (rowsD Rs) = true := by
  first | exact P3.eqv_refl _ (rows_can Rs) | exact PyData.eqv_refl _ (rows_can Rs) | exact PySem.eqv_refl _ (rows_can Rs) | exact SeqAt.eqv_refl _ (rows_can Rs)
section
variable {w : World} {K : PySem.W.Frag} {mg : Str → Option Value} {base : Heap}
def Alike (K : PySem.W.Frag) (C : Addr) (a b : Addr) (H : Hp) : Prop := ∃ (q n : Int) (Rs : List (List Int)), BookAt K C H a q n Rs ∧ BookAt K C H b q n Rs ∧ Rs.length ≤ 20
theorem kit_self {K : PySem.W.Frag} {C : Addr} : PySem.W.kitOne K (.ref C) (.ref C) = some true := by
  show (if (Value.ref C == Value.ref C) = true then some true else _) = some true
  rw [beq_self_eq_true]
  rfl
theorem ty_book (T : Txt K mg) {H : Hp} {b dx : Addr} {fs : List (Str × V)} (h : H b = some (.ins T.C_Book dx fs)) : TyX K H (.ref b) (.ref T.C_Book) :=
  .base (.ins h T.cl_Book T.is_Book.ha T.is_Book.hn T.is_Book.ht T.is_Book.hm)
end
end K09
end
section
set_option maxRecDepth 100000
set_option maxHeartbeats 4000000
set_option exponentiation.threshold 9000
namespace K09
open PySem PySem.Spec PyProof.Rows L2 MB LM
open LamX hiding takes0
theorem rr_len {q : Int} {n : Nat} {Ps : List (Nat × List Int)} (h : RR q n Ps) : Ps.length ≤ n := by
  have key : ∀ {Ps : List (Nat × List Int)} (m : Nat), RR q n Ps → m ≤ n → (∀ x ∈ Ps, m ≤ x.1) → Ps.length + m ≤ n := by
    intro Ps
    induction Ps with
    | nil =>
      intro m _ hm _
      simpa using hm
    | cons y r ih =>
      intro m h hm hx
      have hp := (List.pairwise_cons.mp h.two).1
      have h1 := hx y List.mem_cons_self
      have h2 := (h.one y List.mem_cons_self).2.2.1
      have := ih (y.1 + 1) h.tail (by omega) fun x hx' => (hp x hx').1
      simp only [List.length_cons]
      omega
  have := key 0 h (Nat.zero_le _) fun _ _ => Nat.zero_le _
  omega
theorem eqvAll_rows : ∀ As Bs : List (List Int), PyData.eqvAll (As.map fun r => PyData.tuple (r.map PyData.int)) (Bs.map fun r => PyData.tuple (r.map PyData.int)) = decide (As = Bs)
  | [], [] => by simp only [List.map_nil, PyData.eqvAll, decide_true]
  | [], b :: Bs => by simp [PyData.eqvAll]
  | a :: As, [] => by simp [PyData.eqvAll]
  | a :: As, b :: Bs => by
    rw [List.map_cons, List.map_cons, PyData.eqvAll, eqv_ints, eqvAll_rows As Bs]
    by_cases h1 : a = b
    · by_cases h2 : As = Bs
      · simp [h1, h2]
      · simp [h1, h2]
    · simp [h1]
theorem eqv_rows (As Bs : List (List Int)) : PyData.eqv (rowsD As) (rowsD Bs) = decide (As = Bs) := by
  unfold rowsD
  rw [PyData.eqv]
  exact eqvAll_rows As Bs
section
variable {w : World} {K : PySem.W.Frag} {mg : Str → Option Value} {base : Heap}
def EqB (T : Txt K mg) (H : Hp) (a : Addr) (y : V) (c : Bool) : Prop := ∃ (q n : Int) (Rs : List (List Int)), BookAt K T.C_Book H a q n Rs ∧
  ((∃ t, TyX K H y t ∧ PySem.W.kitOne K t (.ref T.C_Book) = some false ∧ c = false) ∨ ∃ (b : Addr) (q' n' : Int) (Rs' : List (List Int)), y = .ref b ∧ BookAt K T.C_Book H b q' n' Rs' ∧ c = decide (q = q' ∧ n = n' ∧ Rs = Rs'))
def spEqB (T : Txt K mg) : Sp := fun vs H Q _ => ∃ (a : Addr) (y : V) (c : Bool), vs = [.ref a, y] ∧ EqB T H a y c ∧ Q (.bl c) H
theorem ok_Book___eq__ (T : Txt K mg) : FnOk P w K mg base CX0 1 T.a_Book___eq__ T.d_Book___eq__ P_Book___eq__ (spEqB T) := by
  refine T.F_Book___eq__.ok sc_Book___eq__ (fun vs H Q E h => ?_) (fun cdv A outer s H vs Q E hr h => ?_)
  · obtain ⟨a, y, c, rfl, _⟩ := h
    rfl
  · obtain ⟨a, y, c, rfl, ⟨q, n, Rs, ⟨dx, fs, z, ha, aq, an, ar, ad, hz⟩, hy⟩, k⟩ := h
    refine ⟨_, 
      (pss_one (ps_ret (pe_and (pe_callB (id := "isinstance") (r := rIsi K) call_isi (by rfl) T.m_isinstance (by decide +kernel) (pa_cons (pv 1) (pa_cons (pe_glob (v := .ref T.C_Book) rfl T.g_Book rfl) pa_nil))) (pe_and (pe_cmpR op_eq (pe_fld (pv 0) rfl) (pe_fld (pv 1) rfl) (nomark _)) (pe_and (pe_cmpR op_eq (pe_fld (pv 0) rfl) (pe_fld (pv 1) rfl) (nomark _)) (pe_one (pe_cmpR (op_eqD hr.units) (pe_fld (pv 0) rfl) (pe_fld (pv 1) rfl) (nomark _)))))))), ?_⟩
    rcases hy with ⟨t, ht, hk, rfl⟩ | ⟨b, q', n', Rs', rfl, ⟨dy, gs, y, hb, bq, bn, br, bd, hy⟩, rfl⟩
    · exact ⟨_, rfl, _, _, _, _, _, rfl, .own T.C_Book, ht, hk, false, rfl, iteF k⟩
    refine ⟨_, rfl, _, _, _, _, _, rfl, .own T.C_Book, ty_book T hb, kit_self, true, rfl, iteT ?_⟩
    refine ⟨_, rfl, a, _, dx, fs, _, rfl, ha, T.cl_Book, T.no_Book_q, aq, _, rfl, b, _, dy, gs, _, rfl, hb, T.cl_Book, T.no_Book_q, bq, rfl, ?_⟩
    by_cases e1 : q = q'
    case neg =>
      refine ⟨false, by rw [decide_eq_false (fun e => e1 (V.int.inj e))], iteF ?_⟩
      rw [decide_eq_false (fun e => e1 e.1)] at k
      exact k
    refine ⟨true, by rw [decide_eq_true (by rw [e1])], iteT ?_⟩
    refine ⟨_, rfl, a, _, dx, fs, _, rfl, ha, T.cl_Book, T.no_Book_n, an, _, rfl, b, _, dy, gs, _, rfl, hb, T.cl_Book, T.no_Book_n, bn, rfl, ?_⟩
    by_cases e2 : n = n'
    case neg =>
      refine ⟨false, by rw [decide_eq_false (fun e => e2 (V.int.inj e))], iteF ?_⟩
      rw [decide_eq_false (fun e => e2 e.2.1)] at k
      exact k
    refine ⟨true, by rw [decide_eq_true (by rw [e2])], iteT ?_⟩
    refine ⟨_, rfl, a, _, dx, fs, z, rfl, ha, T.cl_Book, T.no_Book_rows, ar, _, rfl, b, _, dy, gs, y, rfl, hb, T.cl_Book, T.no_Book_rows, br, ?_⟩
    obtain ⟨c, vc, rfl, hc, pc⟩ := hz
    obtain ⟨e, ve, rfl, he, pe⟩ := hy
    refine ⟨rowsD Rs, rowsD Rs', .tup hc (dp_rows pc), .tup he (dp_rows pe), rows_shaped Rs, rows_shaped Rs', ?_⟩
    rw [eqv_rows]
    have ed : decide (Rs = Rs') = decide (q = q' ∧ n = n' ∧ Rs = Rs') := by
      by_cases e3 : Rs = Rs'
      · rw [decide_eq_true e3, decide_eq_true ⟨e1, e2, e3⟩]
      · rw [decide_eq_false e3, decide_eq_false (fun z => e3 z.2.2)]
    rw [ed]
    exact k
def spLeads (T : Txt K mg) : Sp := fun vs H Q _ => ∃ (b : Addr) (q : Int) (n : Nat) (Ps : List (Nat × List Int)), vs = [.ref b] ∧ BookAt K T.C_Book H b q n (Ps.map (·.2)) ∧ RR q n Ps ∧ n ≤ 8 ∧ ∀ z H', Same H H' → TI K H' z (Ps.map fun x => (x.1 : Int)) → Q z H'
theorem ok_leads (T : Txt K mg) : FnOk P w K mg base CX0 3 T.a_leads T.d_leads P_leads (spLeads T) := by
  refine T.F_leads.ok sc_leads (fun vs H Q E h => ?_) (fun cdv A outer s H vs Q E hr h => ?_)
  · obtain ⟨b, q, n, Ps, rfl, _⟩ := h
    rfl
  · obtain ⟨b, q, n, Ps, rfl, ⟨dx, fs, z, hb, bq, bn, br, bd, a, vs, rfl, ha, hpr⟩, hR, n8, k⟩ := h
    refine ⟨_, 
      (pss_one (ps_ret (pe_callTy call_tuple_of (by rfl) T.m_tuple (by decide +kernel) (pa_cons (pe_lc (own := [("row", 1)]) (g := gName 1) (tt := tYes) rfl sc_leads.nd (pi_tup (pe_fld (pv 0) rfl)) (blkOk_by (own := [("row", 1)]) (N := N_leads) (sc := (defScope s_leads)) (by decide +kernel)) (fun _ _ _ _ _ => (pg_name (i := 1) sc_leads.nd rfl (Or.inl rfl))) (fun _ _ _ _ _ => pts_nil) (fun _ _ _ _ _ => (pe_call (ok_lead_of T) (hr.mono (by decide)) rfl T.m_lead_of T.F_lead_of.kp T.b_lead_of .nil pass0 (pa_cons (pv 1) pa_nil)))) pa_nil)))), ?_⟩
    have lR := rr_len hR
    have lv : vs.length = Ps.length := by rw [hpr.length, List.length_map]
    refine ⟨_, rfl, b, _, dx, fs, _, rfl, hb, T.cl_Book, T.no_Book_rows, br, a, rfl, ⟨vs, ha⟩, fun L hL => ?_⟩
    refine lc_it (walk_tup (K := K) (a := a) (xs := vs))
      (fun i H' => Same H H' ∧ H' L = some (.lst (((Ps.take i).map fun x => (x.1 : Int)).map V.int))) ⟨same_upd hL, upd_same⟩ (fun i H' _ ⟨e, _⟩ => e.tup ha) ?_ ?_
    · rintro i v _ H' hi ⟨e, hN⟩ ⟨rfl, hv⟩
      obtain ⟨r, hr, ti⟩ := paired_at hpr hv
      obtain ⟨x, hx, hxm, rfl⟩ := red_at hR hr
      obtain ⟨xr, xl, xn, x0, x1⟩ := hR.one x hxm
      refine ⟨rfl, ?_⟩
      refine ⟨_, rfl, v, x.2, x.1, rfl, ti.same e, by omega, by omega, x0, by rw [x1]; decide, fun H2 s2 => ?_⟩
      refine ⟨_, s2 _ _ hN, ?_, same_set hL (e.trans s2), ?_⟩
      · rw [List.length_map, List.length_map, List.length_take]
        exact line_le (by omega)
      · rw [upd_same, List.take_add_one, hx, List.map_append, List.map_append]
        rfl
    rintro H1 ⟨s1, hL1⟩
    rw [lv, List.take_length] at hL1
    refine ⟨L, _, rfl, .inl ⟨SqL.of hL1, fun p hp => ?_⟩⟩
    exact k _ _ (s1.trans (same_upd hp)) ⟨p, rfl, SqT.of upd_same⟩
end
end K09
end
section
set_option maxRecDepth 100000
set_option maxHeartbeats 4000000
namespace K09
open PySem PySem.Spec PyProof.Rows L2 MB LM
open LamX hiding takes0
def wby (q a b : Int) : Int := if q = 4 then (if inV (.int 0) [.int a, .int b] = true then 0 else 1 + (a + b - 2) % 3) else (a * b).fmod q
theorem letsN {q : Int} (h : LetQ q) : ∃ n : Nat, q = (n : Int) ∧ 2 ≤ n ∧ n < 6 := ⟨q.toNat, by have := h.lo; omega, by have := h.lo; omega, by have := h.hi; omega⟩
theorem letN {n : Nat} {a : Int} (h : IsLet (n : Int) a) : ∃ m : Nat, a = (m : Int) ∧ m < n := ⟨a.toNat, by have := h.1; omega, by have := h.1; have := h.2; omega⟩
theorem by_eq {q a b : Int} (hq : LetQ q) (ha : IsLet q a) (hb : IsLet q b) : wby q a b = ltim q a b := by
  obtain ⟨n, rfl, n2, n6⟩ := letsN hq
  obtain ⟨x, rfl, hx⟩ := letN ha
  obtain ⟨y, rfl, hy⟩ := letN hb
  have all : ∀ n : Nat, n < 6 → ∀ x : Nat, x < n → ∀ y : Nat, y < n → 2 ≤ n → wby (n : Int) (x : Int) (y : Int) = ltim (n : Int) (x : Int) (y : Int) := by decide +kernel
  exact all n n6 x hx y hy n2
section
variable {w : World} {K : PySem.W.Frag} {mg : Str → Option Value} {base : Heap}
def spWby (K : PySem.W.Frag) : Sp := fun vs H Q _ => ∃ q a b : Int, vs = [.int q, .int a, .int b] ∧ LetQ q ∧ IsLet q a ∧ IsLet q b ∧ ∀ H', Same H H' → Q (.int (wby q a b)) H'
theorem ok__law_by (T : Txt K mg) : FnOk P w K mg base CX0 1 T.a__law_by T.d__law_by P__law_by (spWby K) := by
  refine T.F__law_by.ok sc__law_by (fun vs H Q E h => ?_) (fun cdv A outer s H vs Q E hr h => ?_)
  · obtain ⟨q, a, b, rfl, _⟩ := h
    rfl
  · obtain ⟨q, a, b, rfl, ⟨q2, q5⟩, ⟨a0, a1⟩, ⟨b0, b1⟩, k⟩ := h
    refine ⟨_, 
      (pss_cons (ps_if (pt_cmpR op_ne (pv 0) pe_int (nomark _)) (pss_one (ps_ret (pe_op op_modN (pe_callTy call_int1 (by rfl) T.m_int (by decide +kernel) (pa_cons (pe_op op_mulW (pv 1) (pv 2)) pa_nil)) (pv 0)))) pss_nil)
      (pss_one (ps_ret (pe_ifExp (pt_cmpR (show OpR _ _ (rIn K false) from op_in_seq) pe_int (pe_tup (pa_cons (pv 1) (pa_cons (pv 2) pa_nil))) rfl) pe_int (pe_op op_add pe_int (pe_op op_mod (pe_callTy call_int1 (by rfl) T.m_int (by decide +kernel) (pa_cons (pe_op op_sub (pe_op op_add (pv 1) (pv 2)) pe_int) pa_nil)) pe_int)))))), ?_⟩
    refine ⟨_, rfl, rfl, _, rfl, ?_⟩
    rw [dec_int]
    unfold wby at k
    by_cases e : q = 4
    · rw [decide_eq_true e]
      rw [if_pos e] at k
      refine iteF ?_
      refine ⟨_, rfl, _, rfl, line_s (Nat.le_of_ble_eq_true rfl), fun p hp => ?_⟩
      refine ⟨p, [.int a, .int b], rfl, .inr (SqT.of upd_same), rfl, rfl, ?_⟩
      have z := k _ (same_upd (o := .tup [.int a, .int b]) hp)
      refine ⟨_, rfl, ?_⟩
      refine ite2 (fun c => ?_) (fun c => ?_)
      · rw [if_pos (show inV (.int 0) [.int a, .int b] = true from c)] at z
        exact z
      · rw [if_neg (show ¬ inV (.int 0) [.int a, .int b] = true from c)] at z
        refine ⟨_, rfl, _, rfl, _, _, rfl, rfl, _, _, rfl, rfl, .inl ⟨_, rfl, ?_⟩⟩
        exact ⟨_, _, rfl, rfl, (by decide : (0 : Int) < 3), _, _, rfl, rfl, z⟩
    · rw [decide_eq_false e]
      rw [if_neg e] at k
      refine iteT ?_
      refine ⟨_, rfl, _, rfl, _, _, rfl, rfl, wide_mul (a := 3) (b := 3) (by omega) (by omega) (by decide) (by decide) (by decide), .inl ⟨_, rfl, ?_⟩⟩
      exact ⟨_, rfl, _, _, rfl, rfl, (by omega : q ≠ 0), k H (Same.refl _)⟩
def spPlus (K : PySem.W.Frag) : Sp := fun vs H Q _ => ∃ (q : Int) (u v : V) (ns ms : List Int), vs = [.int q, u, v] ∧ LetQ q ∧ TI K H u ns ∧ TI K H v ms ∧ ns.length ≤ 1000 ∧
  ∀ z H', Same H H' → TI K H' z (List.zipWith (lsum q) ns ms) → Q z H'
theorem ok__law_plus (T : Txt K mg) : FnOk P w K mg base CX0 1 T.a__law_plus T.d__law_plus P__law_plus (spPlus K) := by
  refine T.F__law_plus.ok sc__law_plus (fun vs H Q E h => ?_) (fun cdv A outer s H vs Q E hr h => ?_)
  · obtain ⟨q, u, v, ns, ms, rfl, _⟩ := h
    rfl
  · obtain ⟨q, _, _, ns, ms, rfl, hq, ⟨a, rfl, ha⟩, ⟨b, rfl, hb⟩, hl, k⟩ := h
    refine ⟨_, 
      (pss_cons (ps_if (pt_cmpR op_eq (pv 0) pe_int (nomark _)) (pss_one (ps_ret (pe_callTy call_tuple_of (by rfl) T.m_tuple (by decide +kernel) (pa_cons (pe_lc (own := [("_law_x", 3), ("_law_y", 4)]) (g := gTup K 2 (gCons (gName 3) (gCons (gName 4) gNil))) (tt := tYes) rfl sc__law_plus.nd (RZ.pi_zipA (by rfl) T.m_zip (pa_cons (pv 1) (pa_cons (pv 2) pa_nil))) (blkOk_by (own := [("_law_x", 3), ("_law_y", 4)]) (N := N__law_plus) (sc := (defScope s__law_plus)) (by decide +kernel)) (fun _ _ _ _ _ => (pg_tup rfl (pgs_cons (pg_name (i := 3) sc__law_plus.nd rfl (Or.inl rfl)) (pgs_cons (pg_name (i := 4) sc__law_plus.nd rfl (Or.inl rfl)) pgs_nil)))) (fun _ _ _ _ _ => pts_nil) (fun _ _ _ _ _ => (pe_op op_xor (pv 3) (pv 4)))) pa_nil)))) pss_nil)
      (pss_one (ps_ret (pe_callTy call_tuple_of (by rfl) T.m_tuple (by decide +kernel) (pa_cons (pe_lc (own := [("_law_x", 3), ("_law_y", 4)]) (g := gTup K 2 (gCons (gName 3) (gCons (gName 4) gNil))) (tt := tYes) rfl sc__law_plus.nd (RZ.pi_zipA (by rfl) T.m_zip (pa_cons (pv 1) (pa_cons (pv 2) pa_nil))) (blkOk_by (own := [("_law_x", 3), ("_law_y", 4)]) (N := N__law_plus) (sc := (defScope s__law_plus)) (by decide +kernel)) (fun _ _ _ _ _ => (pg_tup rfl (pgs_cons (pg_name (i := 3) sc__law_plus.nd rfl (Or.inl rfl)) (pgs_cons (pg_name (i := 4) sc__law_plus.nd rfl (Or.inl rfl)) pgs_nil)))) (fun _ _ _ _ _ => pts_nil) (fun _ _ _ _ _ => (pe_op op_modN (pe_callTy call_int1 (by rfl) T.m_int (by decide +kernel) (pa_cons (pe_op op_add (pv 3) (pv 4)) pa_nil)) (pv 0)))) pa_nil))))), ?_⟩
    have q2 := hq.lo
    refine ⟨_, rfl, rfl, _, rfl, ?_⟩
    rw [dec_int]
    by_cases e4 : q = 4
    · rw [decide_eq_true e4]
      refine iteT ?_
      refine ⟨_, rfl, _, rfl, a, b, _, _, rfl, .inr ⟨ha, hb, ?_⟩⟩
      refine fun D hD => lc_it (walk_zipT (K := K) (a := a) (b := b) (xs := ns.map V.int) (ys := ms.map V.int) rfl)
        (fun i H' => Same H H' ∧ H' D = some (.lst (((List.zipWith (lsum q) ns ms).take i).map V.int)))
        ⟨same_upd hD, by rw [upd_same]; simp⟩ (fun i H' _ ⟨e, _⟩ => ⟨e.tup ha, e.tup hb⟩) ?_ ?_
      · rintro i v H' H'' hi ⟨e, hacc⟩ ⟨T0, x, y, rfl, hT0, rfl, hx, hy⟩
        obtain ⟨c, hc, rfl⟩ := int_at hx
        obtain ⟨d, hd, rfl⟩ := int_at hy
        have hiL : i < ns.length := (List.getElem?_eq_some_iff.mp hc).1
        refine ⟨T0, _, rfl, SqT.of upd_same, rfl, _, _, rfl, _, _, rfl, rfl, rfl, ?_⟩
        refine ⟨_, rfl, _, rfl, _, _, rfl, rfl, _, (upd_ne (ne_of_none hacc hT0)).trans hacc, ?_, ?_, ?_⟩
        · rw [List.length_map, List.length_take]
          exact line_le (by omega)
        · exact same_set hD (e.trans (same_upd hT0))
        · rw [upd_same, List.take_add_one, List.getElem?_zipWith, hc, hd]
          have : lsum q c d = Builtin.bitXor c d := if_pos e4
          simp [this]
      · rintro H' ⟨e, hacc⟩
        rw [List.length_map, List.length_map, List.take_of_length_le (by rw [List.length_zipWith]; exact Nat.le_refl _)] at hacc
        refine ⟨D, _, rfl, .inl ⟨SqL.of hacc, fun p8 hp8 => ?_⟩⟩
        exact k _ _ (e.trans (same_upd hp8)) ⟨p8, rfl, SqT.of upd_same⟩
    · rw [decide_eq_false e4]
      refine iteF ?_
      refine ⟨_, rfl, _, rfl, a, b, _, _, rfl, .inr ⟨ha, hb, ?_⟩⟩
      refine fun D hD => lc_it (walk_zipT (K := K) (a := a) (b := b) (xs := ns.map V.int) (ys := ms.map V.int) rfl)
        (fun i H' => Same H H' ∧ H' D = some (.lst (((List.zipWith (lsum q) ns ms).take i).map V.int)))
        ⟨same_upd hD, by rw [upd_same]; simp⟩ (fun i H' _ ⟨e, _⟩ => ⟨e.tup ha, e.tup hb⟩) ?_ ?_
      · rintro i v H' H'' hi ⟨e, hacc⟩ ⟨T0, x, y, rfl, hT0, rfl, hx, hy⟩
        obtain ⟨c, hc, rfl⟩ := int_at hx
        obtain ⟨d, hd, rfl⟩ := int_at hy
        have hiL : i < ns.length := (List.getElem?_eq_some_iff.mp hc).1
        refine ⟨T0, _, rfl, SqT.of upd_same, rfl, _, _, rfl, _, _, rfl, rfl, rfl, ?_⟩
        refine ⟨_, rfl, _, rfl, _, _, rfl, rfl, .inl ⟨_, rfl, ?_⟩⟩
        refine ⟨_, rfl, _, _, rfl, rfl, (by omega : q ≠ 0), _, (upd_ne (ne_of_none hacc hT0)).trans hacc, ?_, ?_, ?_⟩
        · rw [List.length_map, List.length_take]
          exact line_le (by omega)
        · exact same_set hD (e.trans (same_upd hT0))
        · rw [upd_same, List.take_add_one, List.getElem?_zipWith, hc, hd]
          have : lsum q c d = (c + d).fmod q := if_neg e4
          simp [this]
      · rintro H' ⟨e, hacc⟩
        rw [List.length_map, List.length_map, List.take_of_length_le (by rw [List.length_zipWith]; exact Nat.le_refl _)] at hacc
        refine ⟨D, _, rfl, .inl ⟨SqL.of hacc, fun p8 hp8 => ?_⟩⟩
        exact k _ _ (e.trans (same_upd hp8)) ⟨p8, rfl, SqT.of upd_same⟩
end
end K09
end
section
set_option maxRecDepth 100000
set_option maxHeartbeats 4000000
set_option exponentiation.threshold 9000
namespace K09
open PySem PySem.Spec PyProof.Rows L2 MB LM
open LamX hiding takes0
section
variable {w : World} {K : PySem.W.Frag} {mg : Str → Option Value} {base : Heap}
def spMinus : Sp := fun vs H Q _ => ∃ q a : Int, vs = [.int q, .int a] ∧ LetQ q ∧ Q (.int (lneg q a)) H
theorem ok__law_minus (T : Txt K mg) : FnOk P w K mg base CX0 1 T.a__law_minus T.d__law_minus P__law_minus spMinus := by
  refine T.F__law_minus.ok sc__law_minus (fun vs H Q E h => ?_) (fun cdv A outer s H vs Q E hr h => ?_)
  · obtain ⟨q, a, rfl, _⟩ := h
    rfl
  · obtain ⟨q, a, rfl, hq, k⟩ := h
    refine ⟨_, 
      (pss_one (ps_ret (pe_ifExp (pt_cmpR op_eq (pv 0) pe_int (nomark _)) (pv 1) (pe_op op_modN (pe_callTy call_int1 (by rfl) T.m_int (by decide +kernel) (pa_cons (pe_un un_neg (pv 1)) pa_nil)) (pv 0))))), ?_⟩
    refine ⟨_, rfl, rfl, _, rfl, ?_⟩
    rw [dec_int]
    unfold lneg at k
    by_cases e : q = 4
    · rw [decide_eq_true e]
      rw [if_pos e] at k
      exact iteT ⟨_, rfl, k⟩
    · rw [decide_eq_false e]
      rw [if_neg e] at k
      rw [show (0 : Int) - a = -a from by omega] at k
      exact iteF ⟨_, rfl, _, rfl, .inl ⟨_, rfl, _, rfl, _, _, rfl, rfl, (by have := hq.lo; omega : q ≠ 0), k⟩⟩
def spTimes (K : PySem.W.Frag) : Sp := fun vs H Q _ => ∃ (q a : Int) (u : V) (ns : List Int), vs = [.int q, .int a, u] ∧ LetQ q ∧ IsLet q a ∧ TI K H u ns ∧ IsRow q ns ∧ ns.length ≤ 1000 ∧ ∀ z H', Same H H' → TI K H' z (vtim q a ns) → Q z H'
theorem ok__law_times (T : Txt K mg) : FnOk P w K mg base CX0 2 T.a__law_times T.d__law_times P__law_times (spTimes K) := by
  refine T.F__law_times.ok sc__law_times (fun vs H Q E h => ?_) (fun cdv A outer s H vs Q E hr h => ?_)
  · obtain ⟨q, a, u, ns, rfl, _⟩ := h
    rfl
  · obtain ⟨q, a, _, ns, rfl, hq, la, ⟨b, rfl, hb⟩, hn, hl, k⟩ := h
    refine ⟨_, 
      (pss_one (ps_ret (pe_callTy call_tuple_of (by rfl) T.m_tuple (by decide +kernel) (pa_cons (pe_lc (own := [("_law_x", 3)]) (g := gName 3) (tt := tYes) rfl sc__law_times.nd (pi_tup (pv 2)) (blkOk_by (own := [("_law_x", 3)]) (N := N__law_times) (sc := (defScope s__law_times)) (by decide +kernel)) (fun _ _ _ _ _ => (pg_name (i := 3) sc__law_times.nd rfl (Or.inl rfl))) (fun _ _ _ _ _ => pts_nil) (fun _ _ _ _ _ => (pe_call (ok__law_by T) (hr.mono (by decide)) rfl T.m__law_by T.F__law_by.kp T.b__law_by .nil pass0 (pa_cons (pv 0) (pa_cons (pv 1) (pa_cons (pv 3) pa_nil)))))) pa_nil)))), ?_⟩
    refine ⟨_, rfl, b, rfl, ⟨_, hb⟩, fun L hL => ?_⟩
    refine lc_it (walk_tup (K := K) (a := b) (xs := ns.map V.int)) (fun i H' => Same H H' ∧ H' L = some (.lst (((vtim q a ns).take i).map V.int))) ⟨same_upd hL, by rw [upd_same]; simp⟩ (fun i H' _ ⟨e, _⟩ => e.tup hb) ?_ ?_
    · rintro i v _ H' hi ⟨e, hN⟩ ⟨rfl, hv⟩
      obtain ⟨m, hm, rfl⟩ := int_at hv
      have lm := hn m (List.mem_of_getElem? hm)
      have hiL : i < ns.length := (List.getElem?_eq_some_iff.mp hm).1
      refine ⟨rfl, ?_⟩
      refine ⟨_, rfl, _, rfl, _, rfl, q, a, m, rfl, hq, la, lm, fun H2 s2 => ?_⟩
      refine ⟨_, s2 _ _ hN, ?_, same_set hL (e.trans s2), ?_⟩
      · rw [List.length_map, List.length_take, vtim_len]
        exact line_le (by omega)
      · rw [upd_same, List.take_add_one, by_eq hq la lm]
        have e1 : (vtim q a ns)[i]? = some (ltim q a m) := by
          unfold vtim
          rw [List.getElem?_map, hm]
          rfl
        rw [e1, List.map_append]
        rfl
    rintro H1 ⟨s1, hL1⟩
    rw [List.length_map, List.take_of_length_le (by rw [vtim_len]; exact Nat.le_refl _)] at hL1
    refine ⟨L, _, rfl, .inl ⟨SqL.of hL1, fun p hp => ?_⟩⟩
    exact k _ _ (s1.trans (same_upd hp)) ⟨p, rfl, SqT.of upd_same⟩
theorem sqT_lst {H : Hp} {b : Addr} {ys : List V} {o : HO} {a : Addr} {xs : List V} (hb : H b = some (.lst ys)) (h : SqT K H a xs) : SqT K (upd H b o) a xs := by
  rcases h with (q | ⟨ob, q⟩) | q
  · exact .inl (.inl ((upd_ne (ne_of q hb (by intro z; cases z))).trans q))
  · exact .inl (.inr ⟨ob, (upd_ne (ne_of q hb (by intro z; cases z))).trans q⟩)
  · exact .inr q
theorem seq_cut {t u : TS} {D : Ends} {σ : L2.St} {H : Hp} (P : L2.St → Hp → Prop) (h1 : ∀ D' : Ends, (∀ σ' H', P σ' H' → D'.nx σ' H') → t D' σ H) (h2 : ∀ σ' H', P σ' H' → u D σ' H') : tSeq t u D σ H := h1 { D with nx := u D } h2
theorem seq_cutI {c : TT} {ta tb u : TS} {D : Ends} {σ : L2.St} {H : Hp} (P : L2.St → Hp → Prop) (h1 : ∀ D' : Ends, (∀ σ' H', P σ' H' → D'.nx σ' H') → tIfS c ta tb D' σ H) (h2 : ∀ σ' H', P σ' H' → u D σ' H') : tSeq (tIfS c ta tb) u D σ H := seq_cut P h1 h2
theorem seq_cutA {te : TE} {g : TG} {u : TS} {D : Ends} {σ : L2.St} {H : Hp} (P : L2.St → Hp → Prop) (h1 : ∀ D' : Ends, (∀ σ' H', P σ' H' → D'.nx σ' H') → tAsg te g D' σ H) (h2 : ∀ σ' H', P σ' H' → u D σ' H') : tSeq (tAsg te g) u D σ H := seq_cut P h1 h2
theorem seq_cutF {te : L2.TI} {g : TG} {tb : TS} {u : TS} {D : Ends} {σ : L2.St} {H : Hp} (P : L2.St → Hp → Prop) (h1 : ∀ D' : Ends, (∀ σ' H', P σ' H' → D'.nx σ' H') → tFor te g tb D' σ H) (h2 : ∀ σ' H', P σ' H' → u D σ' H') : tSeq (tFor te g tb) u D σ H := seq_cut P h1 h2
theorem take_next {α : Type} {l : List α} {i : Nat} {x : α} (h : l[i]? = some x) : l.take (i + 1) = l.take i ++ [x] := by
  rw [List.take_add_one, h]
  rfl
def KeptAt (K : PySem.W.Frag) (H : Hp) (v : V) (x : Nat × List Int) : Prop := ∃ t u, v = .ref t ∧ SqT K H t [.int (x.1 : Int), u] ∧ TI K H u x.2
theorem KeptAt.same {H H' : Hp} {v : V} {x : Nat × List Int} (h : KeptAt K H v x) (s : Same H H') : KeptAt K H' v x := by
  obtain ⟨t, u, rfl, h1, h2⟩ := h
  exact ⟨t, u, rfl, s.tup h1, h2.same s⟩
theorem kept_same {H H' : Hp} {zs : List V} {Ks : List (Nat × List Int)} (s : Same H H') (h : Paired (KeptAt K H) zs Ks) : Paired (KeptAt K H') zs Ks := by
  induction h with
  | nil => exact .nil
  | cons r _ ih => exact .cons (r.same s) ih
theorem KeptAt.lst {H : Hp} {b : Addr} {ys : List V} {o : HO} {v : V} {x : Nat × List Int} (hb : H b = some (.lst ys)) (h : KeptAt K H v x) : KeptAt K (upd H b o) v x := by
  obtain ⟨t, u, rfl, h1, a, rfl, h2⟩ := h
  exact ⟨t, _, rfl, sqT_lst hb h1, a, rfl, sqT_lst hb h2⟩
theorem kept_lst {H : Hp} {b : Addr} {ys : List V} {o : HO} {zs : List V} {Ks : List (Nat × List Int)} (hb : H b = some (.lst ys)) (h : Paired (KeptAt K H) zs Ks) : Paired (KeptAt K (upd H b o)) zs Ks := by
  induction h with
  | nil => exact .nil
  | cons r _ ih => exact .cons (r.lst hb) ih
theorem ech_take {q : Int} {n : Nat} {Ls : List (List Int)} (hq : LetQ q) (hL : AllR q n Ls) (i : Nat) : Ech q n ((Ls.take i).foldl (rstep q) []) :=
  (rank_inv hq (Ls.take i) (Ls := []) (Ks := []) (fun r hr => by cases hr) (fun r hr => hL r (List.mem_of_mem_take hr)) ⟨(fun x hx => by cases hx), List.Pairwise.nil⟩ ⟨(fun r hr => by cases hr), fun r hr => by cases hr⟩).1
def RowsLT (K : PySem.W.Frag) (H : Hp) (v : V) (Ls : List (List Int)) : Prop := ∃ a vs, v = .ref a ∧ (SqL K H a vs ∨ SqT K H a vs) ∧ Paired (TI K H) vs Ls
theorem rstep_take {q : Int} {Ls : List (List Int)} {i : Nat} {r : List Int} (h : Ls[i]? = some r) : (Ls.take (i + 1)).foldl (rstep q) [] = rstep q ((Ls.take i).foldl (rstep q) []) r := by
  rw [List.take_add_one, h, List.foldl_append]
  rfl
theorem headL_heads {q : Int} {n : Nat} {r : List Int} (hq : LetQ q) (hr : Wd q n r) : (((List.range r.length).filter fun p => decide (0 < r.getD p 0))).head? = headL r := by
  rw [List.head?_filter]
  rfl
def spRank (K : PySem.W.Frag) : Sp := fun vs H Q _ => ∃ (q : Int) (n : Nat) (v : V) (Ls : List (List Int)), vs = [.int q, v] ∧ LetQ q ∧ n ≤ 8 ∧ RowsLT K H v Ls ∧ AllR q n Ls ∧ Ls.length ≤ 1000 ∧ ∀ H', Same H H' → Q (.int ((rankL q Ls : Nat) : Int)) H'
theorem ok__law_rank (T : Txt K mg) : FnOk P w K mg base CX0 3 T.a__law_rank T.d__law_rank P__law_rank (spRank K) := by
  refine T.F__law_rank.ok sc__law_rank (fun vs H Q E h => ?_) (fun cdv A outer s H vs Q E hr h => ?_)
  · obtain ⟨q, n, v, Ls, rfl, _⟩ := h
    rfl
  · obtain ⟨q, n, _, Ls, rfl, hq, n8, ⟨a, vs, rfl, hsq, hpr⟩, hL, lL, k⟩ := h
    refine ⟨_, 
      (pss_cons (ps_set (i := 2) sc__law_rank.nd rfl (Or.inl rfl) (pe_lst pa_nil))
      (pss_cons (ps_for PassesOwn.never rfl (pi_seq (pv 1)) (pg_name (i := 3) sc__law_rank.nd rfl (Or.inl rfl)) (pss_cons (ps_for PassesOwn.never rfl (pi_list (pv 2)) (pg_tup rfl (pgs_cons (pg_name (i := 4) sc__law_rank.nd rfl (Or.inl rfl)) (pgs_cons (pg_name (i := 5) sc__law_rank.nd rfl (Or.inl rfl)) pgs_nil))) (pss_one (ps_if (pt_cmpR op_gt (pe_ix (r := rIxT K) ix_tup (pv 3) (pv 4) (fun _ _ => rfl)) pe_int (nomark _)) (pss_one (ps_set (i := 3) sc__law_rank.nd rfl (Or.inl rfl) (pe_call (ok__law_plus T) (hr.mono (by decide)) rfl T.m__law_plus T.F__law_plus.kp T.b__law_plus .nil pass0 (pa_cons (pv 0) (pa_cons (pe_call (ok__law_times T) (hr.mono (by decide)) rfl T.m__law_times T.F__law_times.kp T.b__law_times .nil pass0 (pa_cons (pv 0) (pa_cons (pe_ix (r := rIxT K) ix_tup (pv 5) (pv 4) (fun _ _ => rfl)) (pa_cons (pv 3) pa_nil)))) (pa_cons (pe_call (ok__law_times T) (hr.mono (by decide)) rfl T.m__law_times T.F__law_times.kp T.b__law_times .nil pass0 (pa_cons (pv 0) (pa_cons (pe_call (ok__law_minus T) (hr.mono (by decide)) rfl T.m__law_minus T.F__law_minus.kp T.b__law_minus .nil pass0 (pa_cons (pv 0) (pa_cons (pe_ix (r := rIxT K) ix_tup (pv 3) (pv 4) (fun _ _ => rfl)) pa_nil))) (pa_cons (pv 5) pa_nil)))) pa_nil)))))) pss_nil)))
      (pss_cons (ps_setLc (i := 6) (own := [("_law_at", 7), ("_law_x", 8)]) (g := gTup K 2 (gCons (gName 7) (gCons (gName 8) gNil)))  rfl sc__law_rank.nd rfl rfl (sw_true rfl rfl rfl (by decide +kernel)) (pi_enumT (by rfl) T.m_enumerate (pa_cons (pv 3) pa_nil)) (blkOk_by (own := [("_law_at", 7), ("_law_x", 8)]) (N := N__law_rank) (sc := (defScope s__law_rank)) (by decide +kernel)) (fun _ _ _ _ _ => (pg_tup rfl (pgs_cons (pg_name (i := 7) sc__law_rank.nd rfl (Or.inl rfl)) (pgs_cons (pg_name (i := 8) sc__law_rank.nd rfl (Or.inl rfl)) pgs_nil)))) (fun _ _ _ _ _ => (pts_one (pt_cmpR op_gt (pv 8) pe_int (nomark _)))) (fun _ _ _ _ _ => (pv 7)))
      (pss_one (ps_if (pt_cmpR (op_neNil hr.units) (pv 6) (pe_lst pa_nil) (nomark _)) (pss_one (ps_expr (pe_bm PySem.F.plainAttrs_list PySem.F.slot_list_append PySem.F.type_list_append mt_append (pv 2) (pa_cons (pe_tup (pa_cons (pe_ix (r := rIxL K) ix_list (pv 6) pe_int (fun _ _ => rfl)) (pa_cons (pv 3) pa_nil))) pa_nil)))) pss_nil)))))
      (pss_one (ps_ret (pe_callB call_len_seq (by rfl) T.m_len (by decide +kernel) (pa_cons (pv 2) pa_nil)))))), ?_⟩
    refine ⟨line_s (Nat.zero_le _), fun Kp hKp => ?_⟩
    have s1 : Same H (upd H Kp (.lst [])) := same_upd hKp
    have lv := hpr.length
    have fin : ∀ G, Same H G → Q (.int ((rankL q Ls : Nat) : Int)) G := k
    have e0 : ∀ i, Ech q n ((Ls.take i).foldl (rstep q) []) := fun i => ech_take hq hL i
    rcases hsq with hsq | hsq
    case' inl => refine .inl ⟨_, rfl, a, rfl, ⟨_, sqL_same s1 hsq⟩, for_it (walk_list (K := K) (a := a) (xs := vs))
        (fun i σ' G => ∃ (u3 u4 u5 u6 : Option V) (zs : List V), σ' = [some (.int q), some (.ref a), some (.ref Kp), u3, u4, u5, u6, none, none] ∧ Same H G ∧ G Kp = some (.lst zs) ∧ Paired (KeptAt K G) zs ((Ls.take i).foldl (rstep q) []))
        ⟨none, none, none, none, [], rfl, s1, upd_same, .nil⟩ (fun i σ' G _ ⟨_, _, _, _, _, _, s, _⟩ => sqL_same s hsq) ?_ ?_⟩
    case' inr => refine .inr ⟨_, rfl, a, rfl, ⟨_, s1.tup hsq⟩, for_it (walk_tup (K := K) (a := a) (xs := vs))
        (fun i σ' G => ∃ (u3 u4 u5 u6 : Option V) (zs : List V), σ' = [some (.int q), some (.ref a), some (.ref Kp), u3, u4, u5, u6, none, none] ∧ Same H G ∧ G Kp = some (.lst zs) ∧ Paired (KeptAt K G) zs ((Ls.take i).foldl (rstep q) []))
        ⟨none, none, none, none, [], rfl, s1, upd_same, .nil⟩ (fun i σ' G _ ⟨_, _, _, _, _, _, s, _⟩ => s.tup hsq) ?_ ?_⟩
    case inl.refine_2 | inr.refine_2 =>
      rintro _ G ⟨u3, u4, u5, u6, zs, rfl, sG, hZ, pZ⟩
      refine ⟨_, rfl, Kp, _, rfl, .inl (SqL.of hZ), ?_⟩
      rw [lv, List.take_length] at pZ
      rw [pZ.length]
      exact fin G sG
    case inl.refine_1 | inr.refine_1 =>
      rintro i v _ G00 G hi ⟨u3, u4, u5, u6, zs, rfl, sG, hZ, pZ⟩ ⟨rfl, hv⟩
      obtain ⟨r, hr2, ti⟩ := paired_at hpr hv
      have wr : Wd q n r := hL r (List.mem_of_getElem? hr2)
      have hE := e0 i
      rw [rstep_take hr2]
      have lK : ((Ls.take i).foldl (rstep q) []).length ≤ 8 := Nat.le_trans (by
        have h2 := le_of_sub (ech_nodup hq hE) (bs := List.range n) fun x hx => by
          obtain ⟨y, hy, rfl⟩ := List.mem_map.mp hx
          exact List.mem_range.mpr (hE.one y hy).2.1
        rw [List.length_map, List.length_range] at h2
        exact h2) n8
      generalize (Ls.take i).foldl (rstep q) [] = Ks at pZ hE lK ⊢
      dsimp only [gName]
      refine (seq_cutF (fun σ' G' => ∃ (u4 u5 : Option V) (v' : V), σ' = [some (.int q), some (.ref a), some (.ref Kp), some v', u4, u5, u6, none, none] ∧ Same G G' ∧ TI K G' v' (Ks.foldl (crs q) r)) (fun D' go => ?_) ?_)
      · refine ⟨_, rfl, Kp, rfl, ⟨_, SqL.of hZ⟩, for_it (walk_list (K := K) (a := Kp) (xs := zs))
          (fun j σ' G' => ∃ (u4 u5 : Option V) (v' : V), σ' = [some (.int q), some (.ref a), some (.ref Kp), some v', u4, u5, u6, none, none] ∧ Same G G' ∧ TI K G' v' ((Ks.take j).foldl (crs q) r))
          ⟨u4, u5, v, rfl, Same.refl _, ti.same sG⟩ (fun j σ' G' _ ⟨_, _, _, _, s, _⟩ => SqL.of (s _ _ hZ)) ?_ (fun σ' G' h => go σ' G' (by rw [pZ.length, List.take_length] at h; exact h))⟩
        rintro j y _ G01 G1 hj ⟨w4, w5, v', rfl, t1, ti1⟩ ⟨rfl, hy⟩
        obtain ⟨x, hx, kp⟩ := paired_at pZ hy
        have hxm := List.mem_of_getElem? hx
        obtain ⟨wx, xn, xl⟩ := hE.one x hxm
        obtain ⟨t, u, rfl, h1, h2⟩ := kp.same t1
        have et : Ech q n (Ks.take j) := ⟨fun z hz => hE.one z (List.mem_of_mem_take hz), hE.two.sublist (List.take_sublist _ _)⟩
        have wr' := (fold_crs hq et wr).1
        rw [take_next hx, List.foldl_append]
        show ∃ _, _
        generalize (Ks.take j).foldl (crs q) r = r' at ti1 wr' ⊢
        refine ⟨t, _, rfl, h1, rfl, _, _, rfl, _, _, rfl, rfl, ?_⟩
        obtain ⟨a', rfl, ha'⟩ := id ti1
        obtain ⟨au, rfl, hau⟩ := id h2
        have l1 := wr'.2
        have l2 := wx.2
        refine ⟨_, rfl, _, rfl, a', _, _, .int (r'.getD x.1 0), rfl, rfl, ha', atI_nat (getD_at (by omega)), _, _, rfl, rfl, _, rfl, ?_⟩
        have ec : ∀ z : List (Nat × List Int) → Prop, True := fun _ => trivial
        by_cases c : 0 < r'.getD x.1 0
        · rw [show decide (0 < r'.getD x.1 0) = true from decide_eq_true c]
          have lr := wd_at hq wr' x.1
          have lx := wd_at hq wx x.1
          refine iteT ⟨_, rfl, _, rfl, _, rfl, _, rfl, au, _, _, .int (x.2.getD x.1 0), rfl, rfl, hau, atI_nat (getD_at (by omega)), _, rfl, q, x.2.getD x.1 0, .ref a', r', rfl, hq, lx, ti1, wr'.1, by omega, fun z1 G2 s2 hz1 => ⟨_, rfl, _, rfl, _, rfl, _, rfl, a', _, _, .int (r'.getD x.1 0), rfl, rfl, s2.tup ha', atI_nat (getD_at (by omega)), q, r'.getD x.1 0, rfl, hq, _, rfl, q, _, .ref au, x.2, rfl, hq, let_neg hq lr, h2.same s2, wx.1, by omega, fun z2 G3 s3 hz2 => ⟨q, z1, z2, _, _, rfl, hq, hz1.same s3, hz2, by rw [vtim_len]; omega, fun z3 G4 s4 hz3 => ?_⟩⟩⟩
          refine ⟨_, _, z3, rfl, t1.trans (s2.trans (s3.trans s4)), ?_⟩
          show TI K G4 z3 (crs q r' x)
          unfold crs
          rw [if_pos c]
          exact hz3
        · rw [show decide (0 < r'.getD x.1 0) = false from decide_eq_false c]
          refine iteF ⟨_, _, .ref a', rfl, t1, ?_⟩
          show TI K G1 (.ref a') (crs q r' x)
          unfold crs
          rw [if_neg c]
          exact ti1
      rintro _ G2 ⟨w4, w5, v', rfl, t2, ti2⟩
      obtain ⟨i1, i2, i3, i4⟩ := fold_crs hq hE wr
      have hhd := headL_heads hq i1
      have es : rstep q Ks r = match headL (Ks.foldl (crs q) r) with
        | some h => Ks ++ [(h, Ks.foldl (crs q) r)]
        | none => Ks := rfl
      rw [es]
      clear es i2 i3 i4
      have s2 := sG.trans t2
      have hZ2 := t2 _ _ hZ
      have pZ2 := kept_same t2 pZ
      generalize Ks.foldl (crs q) r = r' at ti2 i1 hhd ⊢
      obtain ⟨a', rfl, hT⟩ := id ti2
      have rl := i1.2
      refine ⟨_, rfl, a', _, rfl, hT, fun D hD => ?_⟩
      refine lc_it (walk_enumT (K := K) (a := a') (xs := r'.map V.int)) (fun i H' => Same G2 H' ∧ H' D = some (.lst ((((List.range i).filter fun p => decide (0 < r'.getD p 0)).map fun p : Nat => (p : Int)).map V.int))) ⟨same_upd hD, upd_same⟩ (fun i H' _ ⟨e, _⟩ => e.tup hT) ?_ ?_
      · rintro i v H' H'' hi ⟨e, hN⟩ ⟨T0, x0, y0, rfl, hT0, rfl, hx0, hy0⟩
        obtain rfl : x0 = V.int (i : Nat) := (Option.some.inj hx0).symm
        obtain ⟨c, hc, rfl⟩ := int_at hy0
        have hi' : i < r'.length := (List.getElem?_eq_some_iff.mp hc).1
        have e' := e.trans (same_upd (o := .tup [.int (i : Nat), .int c]) hT0)
        have hN0 := same_upd (o := .tup [.int (i : Nat), .int c]) hT0 _ _ hN
        refine ⟨T0, _, rfl, SqT.of upd_same, rfl, _, _, rfl, _, _, rfl, rfl, rfl, ?_⟩
        refine ⟨_, rfl, _, _, rfl, rfl, _, rfl, ?_⟩
        by_cases hz : 0 < c
        · rw [show decide (0 < c) = true from decide_eq_true hz]
          refine iteT ⟨_, rfl, _, hN0, ?_, same_set hD e', ?_⟩
          · rw [List.length_map, List.length_map]
            exact line_le (Nat.le_trans (List.length_filter_le _ _) (by rw [List.length_range]; omega))
          · rw [upd_same, List.range_succ, List.filter_append]
            simp [List.filter_cons, hc, hz]
        · rw [show decide (0 < c) = false from decide_eq_false hz]
          refine iteF ⟨e', ?_⟩
          rw [hN0, List.range_succ, List.filter_append]
          simp [List.filter_cons, hc]
          omega
      rintro G3 ⟨t3, hD3⟩
      rw [List.length_map] at hD3
      generalize ((List.range r'.length).filter fun p => decide (0 < r'.getD p 0)) = hs at hhd hD3
      have s3 := s2.trans t3
      have hZ3 := t3 _ _ hZ2
      have pZ3 := kept_same t3 pZ2
      refine ⟨_, rfl, line_s (Nat.zero_le _), fun N2 hN2 => ⟨D, N2, _, rfl, rfl, SqL.of (same_upd hN2 _ _ hD3), SqL.of upd_same, _, rfl, ?_⟩⟩
      have t4 := same_upd (o := .lst []) hN2
      have hD4 := t4 _ _ hD3
      have hZ4 := t4 _ _ hZ3
      have pZ4 := kept_same t4 pZ3
      have s4 := s3.trans t4
      have ti4 := ti2.same (t3.trans t4)
      generalize upd G3 N2 (.lst []) = G4 at t4 hD4 hZ4 pZ4 s4 ti4 ⊢
      cases hs with
      | nil =>
        have e1 : headL r' = none := hhd.symm
        rw [e1]
        exact iteF ⟨_, _, _, _, zs, rfl, s4, hZ4, pZ4⟩
      | cons h hs =>
        have e1 : headL r' = some h := hhd.symm
        rw [e1]
        refine iteT ⟨_, rfl, .inl ⟨rfl, _, SqL.of hZ4⟩, _, rfl, D, _, ((0 : Nat) : Int), .int (h : Int), rfl, rfl, SqL.of hD4, atI_nat rfl, _, rfl, line_s (show 2 ≤ 100000 by decide), fun p5 hp5 => ?_⟩
        have t5 := same_upd (o := .tup [.int (h : Int), .ref a']) hp5
        have hZ5 := t5 _ _ hZ4
        have g5 : SqT K (upd G4 p5 (.tup [.int (h : Int), .ref a'])) p5 [.int (h : Int), .ref a'] := SqT.of upd_same
        refine ⟨Kp, _, _, rfl, rfl, hZ5, line_le (by rw [pZ4.length]; omega), ?_⟩
        refine ⟨_, _, _, _, zs ++ [.ref p5], rfl, same_set hKp (s4.trans t5), upd_same, ?_⟩
        exact paired_snoc (kept_lst hZ5 (kept_same t5 pZ4)) (KeptAt.lst hZ5 ⟨p5, _, rfl, g5, ti4.same t5⟩)
end
end K09
end
section
set_option maxRecDepth 100000
set_option maxHeartbeats 4000000
set_option exponentiation.threshold 9000
namespace K09
open PySem PySem.Spec PyProof.Rows L2 MB LM
open LamX hiding takes0
theorem headL_lead {q : Int} {n h : Nat} {r : List Int} (hq : LetQ q) (hr : Wd q n r) (hn : h < n) (hl : Lead r h) : headL r = some h := by
  unfold headL
  rw [List.find?_eq_some_iff_getElem]
  have h1 := (wd_at hq hr h).1
  have h2 := hl.2
  have hle := hr.2
  refine ⟨decide_eq_true (by omega), h, by rw [List.length_range]; omega, List.getElem_range _, fun j hj => ?_⟩
  rw [List.getElem_range, hl.1 j hj]
  rfl
theorem from_let {q a : Int} (h : IsLet q a) : inFrom 0 (q - 1) (some a) = true := by
  show (decide ((0 : Int) ≤ a) && decide (a ≤ q - 1)) = true
  rw [decide_eq_true h.1, decide_eq_true (by have := h.2; omega)]
  rfl
theorem ilist_shaped (ns : List Int) : SeqAt.shaped (.list (ns.map PyData.int)) = true := by
  unfold SeqAt.shaped
  simp only [PyData.canLay0, ints_lay, Bool.true_and, PyData.depth]
  exact decide_eq_true (by rw [ints_depth]; decide)
theorem eqv_ilist (as bs : List Int) : PyData.eqv (.list (as.map PyData.int)) (.list (bs.map PyData.int)) = decide (as = bs) := by
  rw [PyData.eqv]
  exact eqvAll_ints as bs
theorem leads_asc {q : Int} {n : Nat} {Ps : List (Nat × List Int)} (h : RR q n Ps) : (Ps.map fun x => (x.1 : Int)).Pairwise (· < ·) :=
  List.pairwise_map.mpr (h.two.imp fun {a b} e => by have := e.1; omega)
theorem unit_at {q : Int} {n : Nat} {Ps : List (Nat × List Int)} (h : RR q n Ps) {i : Nat} {x : Nat × List Int} (hx : Ps[i]? = some x) : (Ps.map fun y => x.2.getD y.1 0) = (List.range Ps.length).map fun j => if j = i then (1 : Int) else 0 := by
  refine List.ext_getElem? fun j => ?_
  rw [List.getElem?_map, List.getElem?_map]
  rcases Nat.lt_or_ge j Ps.length with hj | hj
  · rw [List.getElem?_eq_getElem hj, List.getElem?_range hj]
    show some (x.2.getD Ps[j].1 0) = some (if j = i then (1 : Int) else 0)
    congr 1
    have hxm := List.mem_of_getElem? hx
    by_cases e : j = i
    · subst e
      rw [List.getElem?_eq_getElem hj] at hx
      rw [if_pos rfl, Option.some.inj hx]
      exact (h.one x hxm).2.2.2.2
    · rw [if_neg e]
      refine h.other hxm (List.getElem_mem hj) fun e2 => ?_
      have e3 := h.same hxm (List.getElem_mem hj) e2
      obtain ⟨hi, e4⟩ := List.getElem?_eq_some_iff.mp hx
      have hp := List.pairwise_iff_getElem.mp h.two
      rcases Nat.lt_or_ge i j with c | c
      · have := (hp i j hi hj c).1
        rw [e4, ← e3] at this
        exact absurd this (Nat.lt_irrefl _)
      · have := (hp j i hj hi (by omega)).1
        rw [e4, ← e3] at this
        exact absurd this (Nat.lt_irrefl _)
  · rw [List.getElem?_eq_none hj, List.getElem?_eq_none (by rw [List.length_range]; exact hj)]
    rfl
def rLenK (K : PySem.W.Frag) : List V → Hp → VK → Prop := fun xs H Q => ∃ p ys, xs = [V.ref p] ∧ (SqL K H p ys ∨ SqT K H p ys) ∧ Q (.int ys.length) H
theorem call_lenK {X : Cx} : CallR X (.builtin "len") (rLenK X.K) := call_len_seq
section
variable {w : World} {K : PySem.W.Frag} {mg : Str → Option Value} {base : Heap}
def spLtr (K : PySem.W.Frag) : Sp := fun vs H Q _ => ∃ (q : Int) (v : V) (o : Option Int), vs = [.int q, v] ∧ IntQ K H v o ∧ Q (.bl (inFrom 0 (q - 1) o)) H
theorem ok__law_is_letter (T : Txt K mg) : FnOk P w K mg base CX0 1 T.a__law_is_letter T.d__law_is_letter P__law_is_letter (spLtr K) := by
  refine T.F__law_is_letter.ok sc__law_is_letter (fun vs H Q E h => ?_) (fun cdv A outer s H vs Q E hr h => ?_)
  · obtain ⟨q, v, o, rfl, _⟩ := h
    rfl
  · obtain ⟨q, v, o, rfl, hv, k⟩ := h
    refine ⟨_, 
      (pss_one (ps_ret (pe_and (pe_callB (id := "isinstance") (r := rIsi K) call_isi (by rfl) T.m_isinstance (by decide +kernel) (pa_cons (pv 1) (pa_cons (pe_bltn (by rfl) T.m_int (v := .ty "int") (by decide +kernel) rfl) pa_nil))) (pe_and (pe_not (pe_callB (id := "isinstance") (r := rIsi K) call_isi (by rfl) T.m_isinstance (by decide +kernel) (pa_cons (pv 1) (pa_cons (pe_bltn (by rfl) T.m_bool (v := .ty "bool") (by decide +kernel) rfl) pa_nil)))) (pe_one (pe_chain op_le op_lt pe_int (pv 1) (pv 0))))))), ?_⟩
    cases o with
    | none =>
      rcases hv with ⟨b, rfl⟩ | ⟨t, ht, hk⟩
      · refine ⟨_, rfl, _, _, _, _, _, rfl, .ty "int", .base (.bl b), kit_ty (r := true) (by decide +kernel), true, rfl, iteT ?_⟩
        exact ⟨_, rfl, _, _, _, _, _, rfl, .ty "bool", .base (.bl b), kit_ty (r := true) (by decide +kernel), true, rfl, false, rfl, iteF k⟩
      · exact ⟨_, rfl, _, _, _, _, _, rfl, .ty "int", ht, hk, false, rfl, iteF k⟩
    | some i =>
      obtain rfl : v = .int i := hv
      have k' : Q (.bl (decide (0 ≤ i) && decide (i ≤ q - 1))) H := k
      refine ⟨_, rfl, _, _, _, _, _, rfl, .ty "int", .base (.int i), kit_ty (r := true) (by decide +kernel), true, rfl, iteT ?_⟩
      refine ⟨_, rfl, _, _, _, _, _, rfl, .ty "bool", .base (.int i), kit_ty (r := false) (by decide +kernel), false, rfl, true, rfl, iteT ?_⟩
      refine ⟨_, rfl, _, _, rfl, rfl, decide (0 ≤ i), rfl, ?_⟩
      by_cases c : 0 ≤ i
      · rw [decide_eq_true c] at k' ⊢
        have e : decide (i ≤ q - 1) = decide (i < q) := by
          by_cases z : i < q
          · rw [decide_eq_true z, decide_eq_true (by omega)]
          · rw [decide_eq_false z, decide_eq_false (by omega)]
        rw [e] at k'
        exact iteT ⟨_, rfl, _, _, rfl, rfl, k'⟩
      · rw [decide_eq_false c] at k' ⊢
        exact iteF k'
def spARed (K : PySem.W.Frag) : Sp := fun vs H Q _ => ∃ (q : Int) (n : Nat) (v : V) (Ps : List (Nat × List Int)), vs = [.int q, .int (n : Int), v] ∧ LetQ q ∧ n ≤ 8 ∧ RR q n Ps ∧ TupRows K H v (Ps.map (·.2)) ∧ ∀ H', Same H H' → Q (.bl true) H'
theorem ok__law_are_reduced (T : Txt K mg) (sm : SM base) : FnG P w K mg base 2 T.a__law_are_reduced T.d__law_are_reduced P__law_are_reduced (spARed K) := by
  refine fnG T.F__law_are_reduced sc__law_are_reduced (fun vs H Q E h => ?_) (fun cdv A outer s H vs Q E hr hgu h => ?_)
  · obtain ⟨q, n, v, Ps, rfl, _⟩ := h
    rfl
  · obtain ⟨q, n, _, Ps, rfl, hq, n8, hR, ⟨a, vs, rfl, ha, hpr⟩, k⟩ := h
    refine ⟨_, 
      (pss_cons (ps_if (PW.pt (pw_or (pt_not (pt_val (pe_callB (id := "isinstance") (r := rIsi K) call_isi (by rfl) T.m_isinstance (by decide +kernel) (pa_cons (pv 2) (pa_cons (pe_bltn (by rfl) T.m_tuple (v := .ty "tuple") (by decide +kernel) rfl) pa_nil))))) (pw_or1 (pt_cmpR (op_neNil hr.units) (pe_lc (own := [("_law_row", 3)]) (g := gName 3)  rfl sc__law_are_reduced.nd (pi_tup (pv 2)) (blkOk_by (own := [("_law_row", 3)]) (N := N__law_are_reduced) (sc := (defScope s__law_are_reduced)) (by decide +kernel)) (fun _ _ _ _ _ => (pg_name (i := 3) sc__law_are_reduced.nd rfl ((by first | exact Or.inl rfl | exact Or.inr rfl)))) (fun _ _ _ _ _ => (pts_one (PW.pt (pw_or (pt_not (pt_val (pe_callB (id := "isinstance") (r := rIsi K) call_isi (by rfl) T.m_isinstance (by decide +kernel) (pa_cons (pv 3) (pa_cons (pe_bltn (by rfl) T.m_tuple (v := .ty "tuple") (by decide +kernel) rfl) pa_nil))))) (pw_or1 (pt_cmpR op_ne (pe_callB (id := "len") (r := rLenK K) call_lenK (by rfl) T.m_len (by decide +kernel) (pa_cons (pv 3) pa_nil)) (pv 1) (nomark _))))))) (fun _ _ _ _ _ => (pv 3))) (pe_lst pa_nil) (nomark _))))) (pss_one (ps_ret pe_bl)) pss_nil)
      (pss_cons (ps_set (i := 4) sc__law_are_reduced.nd rfl (Or.inr rfl) (pe_lst pa_nil))
      (pss_cons (ps_for PassesOwn.never rfl (pi_tup (pv 2)) (pg_name (i := 3) sc__law_are_reduced.nd rfl (Or.inl rfl)) (pss_cons (ps_setLc (i := 5) (own := [("_law_at", 6), ("_law_x", 7)]) (g := gTup K 2 (gCons (gName 6) (gCons (gName 7) gNil)))  rfl sc__law_are_reduced.nd rfl rfl (sw_true rfl rfl rfl (by decide +kernel)) (pi_enumT (by rfl) T.m_enumerate (pa_cons (pv 3) pa_nil)) (blkOk_by (own := [("_law_at", 6), ("_law_x", 7)]) (N := N__law_are_reduced) (sc := (defScope s__law_are_reduced)) (by decide +kernel)) (fun _ _ _ _ _ => (pg_tup rfl (pgs_cons (pg_name (i := 6) sc__law_are_reduced.nd rfl ((by first | exact Or.inl rfl | exact Or.inr rfl))) (pgs_cons (pg_name (i := 7) sc__law_are_reduced.nd rfl (Or.inl rfl)) pgs_nil)))) (fun _ _ _ _ _ => (pts_one (PW.pt (pw_or (pt_not (pt_val (pe_call (ok__law_is_letter T) (hr.mono (by decide)) rfl T.m__law_is_letter T.F__law_is_letter.kp T.b__law_is_letter .nil pass0 (pa_cons (pv 0) (pa_cons (pv 7) pa_nil))))) (pw_or1 (pt_cmpR op_gt (pv 7) pe_int (nomark _))))))) (fun _ _ _ _ _ => (pv 6)))
      (pss_cons (ps_if (PW.pt (pw_or (pt_cmpR (op_eqNil hr.units) (pv 5) (pe_lst pa_nil) (nomark _)) (pw_or (pt_cmpR op_ne (pe_callB (call_tell sm hgu hr.units) (by rfl) T.m_repr (by decide +kernel) (pa_cons (pe_ix (r := rIxT K) ix_tup (pv 3) (pe_ix (r := rIxL K) ix_list (pv 5) pe_int (fun _ _ => rfl)) (fun _ _ => rfl)) pa_nil)) pe_str (nomark _)) (pw_or1 (pt_cmpR (op_neNil hr.units) (pe_lc (own := [("_law_x", 7)]) (g := gName 7)  rfl sc__law_are_reduced.nd (pi_tup (pv 3)) (blkOk_by (own := [("_law_x", 7)]) (N := N__law_are_reduced) (sc := (defScope s__law_are_reduced)) (by decide +kernel)) (fun _ _ _ _ _ => (pg_name (i := 7) sc__law_are_reduced.nd rfl (Or.inl rfl))) (fun _ _ _ _ _ => (pts_one (pt_not (pt_val (pe_call (ok__law_is_letter T) (hr.mono (by decide)) rfl T.m__law_is_letter T.F__law_is_letter.kp T.b__law_is_letter .nil pass0 (pa_cons (pv 0) (pa_cons (pv 7) pa_nil))))))) (fun _ _ _ _ _ => (pv 7))) (pe_lst pa_nil) (nomark _)))))) (pss_one (ps_ret pe_bl)) pss_nil)
      (pss_one (ps_expr (pe_bm PySem.F.plainAttrs_list PySem.F.slot_list_append PySem.F.type_list_append mt_append (pv 4) (pa_cons (pe_ix (r := rIxL K) ix_list (pv 5) pe_int (fun _ _ => rfl)) pa_nil)))))))
      (pss_cons (ps_if (pt_cmpR (op_neD hr.units) (pv 4) (pe_callB (cr_sortedSet rfl) (by rfl) T.m_sorted (by decide +kernel) (pa_cons (pe_callTy (T := "set") (cr_setL rfl) (by rfl) T.m_set (by decide +kernel) (pa_cons (pv 4) pa_nil)) pa_nil)) (nomark _)) (pss_one (ps_ret pe_bl)) pss_nil)
      (pss_one (ps_ret (pe_cmpR (op_eqNil hr.units) (pe_lc (own := [("_law_at", 6), ("_law_row", 3)]) (g := gTup K 2 (gCons (gName 6) (gCons (gName 3) gNil)))  rfl sc__law_are_reduced.nd (pi_enumT (by rfl) T.m_enumerate (pa_cons (pv 2) pa_nil)) (blkOk_by (own := [("_law_at", 6), ("_law_row", 3)]) (N := N__law_are_reduced) (sc := (defScope s__law_are_reduced)) (by decide +kernel)) (fun _ _ _ _ _ => (pg_tup rfl (pgs_cons (pg_name (i := 6) sc__law_are_reduced.nd rfl ((by first | exact Or.inl rfl | exact Or.inr rfl))) (pgs_cons (pg_name (i := 3) sc__law_are_reduced.nd rfl ((by first | exact Or.inl rfl | exact Or.inr rfl))) pgs_nil)))) (fun _ _ _ _ _ => (pts_one (pt_cmpR (show OpR _ _ (rNeD K) from op_neD hr.units) (pe_lc (own := [("_law_head", 8)]) (g := gName 8) (tt := tYes) rfl sc__law_are_reduced.nd (show PI _ _ _ (iList K (tVar 4)) from pi_list (pv 4)) (blkOk_by (own := [("_law_head", 8)]) (N := N__law_are_reduced) (sc := { kind := .function, names := [(".0", .local), ("_law_at", .cell), ("_law_row", .cell), ("range", .globalImplicit), ("len", .globalImplicit), ("_law_heads", .cell), ("_law_rows_here", .cell)], isGenerator := false, isCoroutine := false }) (by decide +kernel)) (fun _ _ _ _ _ => (pg_name (i := 8) sc__law_are_reduced.nd rfl (Or.inl rfl))) (fun _ _ _ _ _ => pts_nil) (fun _ _ _ _ _ => (pe_ix (r := rIxT K) ix_tup (pv 3) (pv 8) (fun _ _ => rfl)))) (pe_lc (own := [("_law_other", 9)]) (g := gName 9) (tt := tYes) rfl sc__law_are_reduced.nd (pi_range1 rfl T.m_range (pa_cons (pe_callB (id := "len") (r := rLenK K) call_lenK (by rfl) T.m_len (by decide +kernel) (pa_cons (pv 2) pa_nil)) pa_nil)) (blkOk_by (own := [("_law_other", 9)]) (N := N__law_are_reduced) (sc := { kind := .function, names := [(".0", .local), ("_law_at", .cell), ("_law_row", .cell), ("range", .globalImplicit), ("len", .globalImplicit), ("_law_heads", .cell), ("_law_rows_here", .cell)], isGenerator := false, isCoroutine := false }) (by decide +kernel)) (fun _ _ _ _ _ => (pg_name (i := 9) sc__law_are_reduced.nd rfl (Or.inl rfl))) (fun _ _ _ _ _ => pts_nil) (fun _ _ _ _ _ => (pe_callTy call_int1 (by rfl) T.m_int (by decide +kernel) (pa_cons (pe_cmpR op_eq (pv 9) (pv 6) (nomark _)) pa_nil)))) (nomark _)))) (fun _ _ _ _ _ => (pv 6))) (pe_lst pa_nil) (nomark _)))))))), ?_⟩
    have lR := rr_len hR
    have lv : vs.length = Ps.length := by rw [hpr.length, List.length_map]
    have q5 := hq.hi
    refine ⟨_, rfl, _, _, _, _, _, rfl, .ty "tuple", tyx_tup ha, kit_ty (r := true) (by decide +kernel), true, rfl, iteF ?_⟩
    refine ⟨_, rfl, a, rfl, ⟨_, ha⟩, fun L hL => ?_⟩
    refine lc_it (walk_tup (K := K) (a := a) (xs := vs)) (fun i H' => Same H H' ∧ H' L = some (.lst [])) ⟨same_upd hL, upd_same⟩ (fun i H' _ ⟨e, _⟩ => e.tup ha) ?_ ?_
    · rintro i v _ H' hi ⟨e, hN⟩ ⟨rfl, hv⟩
      obtain ⟨r, hr2, ti⟩ := paired_at hpr hv
      obtain ⟨x, hx, hxm, rfl⟩ := red_at hR hr2
      obtain ⟨a', rfl, ha'⟩ := ti.same e
      refine ⟨rfl, ?_⟩
      refine ⟨_, rfl, _, _, _, _, _, rfl, .ty "tuple", tyx_tup ha', kit_ty (r := true) (by decide +kernel), true, rfl, iteF ?_⟩
      refine ⟨_, rfl, a', _, rfl, .inr ha', _, rfl, rfl, _, rfl, ?_⟩
      rw [show (!decide (V.int (((x.2.map V.int).length : Nat) : Int) = V.int (n : Int))) = false by rw [List.length_map, (hR.one x hxm).2.1, decide_eq_true rfl]; rfl]
      exact iteF ⟨e, hN⟩
    rintro H1 ⟨s1, hL1⟩
    refine ⟨line_s (Nat.zero_le _), fun N2 hN2 => ⟨L, N2, _, rfl, rfl, SqL.of (same_upd hN2 _ _ hL1), SqL.of upd_same, _, rfl, iteF ?_⟩⟩
    have s2 := s1.trans (same_upd (o := .lst []) hN2)
    generalize upd H1 N2 (.lst []) = H2 at s2 ⊢
    clear hL1 s1 hN2
    refine ⟨line_s (Nat.zero_le _), fun Hd hHd => ?_⟩
    have s3 := s2.trans (same_upd (o := .lst []) hHd)
    have hHd3 : (upd H2 Hd (.lst [])) Hd = some (.lst []) := upd_same
    have Hd0 : H Hd = none := by
      cases e : H Hd with
      | none => rfl
      | some o => exact absurd ((s2 _ _ e).symm.trans hHd) (by intro z; cases z)
    generalize upd H2 Hd (.lst []) = H3 at s3 hHd3 ⊢
    dsimp only [gName]
    refine (seq_cutF (fun σ' G => ∃ u3 u5 : Option V, σ' = [some (.int q), some (.int (n : Int)), some (.ref a), u3, some (.ref Hd), u5, none, none, none, none] ∧ Same H G ∧ G Hd = some (.lst ((Ps.map fun x => (x.1 : Int)).map V.int))) (fun D' go => ?_) ?_)
    · refine ⟨_, rfl, a, rfl, ⟨_, s3.tup ha⟩, for_it (walk_tup (K := K) (a := a) (xs := vs))
        (fun i σ' G => ∃ u3 u5 : Option V, σ' = [some (.int q), some (.int (n : Int)), some (.ref a), u3, some (.ref Hd), u5, none, none, none, none] ∧ Same H G ∧ G Hd = some (.lst (((Ps.take i).map fun x => (x.1 : Int)).map V.int)))
        ⟨none, none, rfl, s3, hHd3⟩ (fun i σ' G _ ⟨_, _, _, s, _⟩ => s.tup ha) ?_ (fun σ' G h => go σ' G (by rw [lv, List.take_length] at h; exact h))⟩
      rintro i v _ G0 G hi ⟨u3, u5, rfl, sG, hG⟩ ⟨rfl, hv⟩
      obtain ⟨r, hr2, ti⟩ := paired_at hpr hv
      obtain ⟨x, hx, hxm, rfl⟩ := red_at hR hr2
      have ox := hR.one x hxm
      have wx : Wd q n x.2 := rr_wd hR hxm
      have lx := wx.2
      obtain ⟨a', rfl, ha'⟩ := id (ti.same sG)
      refine ⟨_, rfl, a', _, rfl, ha', fun D hD => ?_⟩
      refine lc_it (walk_enumT (K := K) (a := a') (xs := x.2.map V.int)) (fun i H' => Same G H' ∧ H' D = some (.lst ((((List.range i).filter fun p => decide (0 < x.2.getD p 0)).map fun p : Nat => (p : Int)).map V.int))) ⟨same_upd hD, upd_same⟩ (fun i H' _ ⟨e, _⟩ => e.tup ha') ?_ ?_
      · rintro j v H' H'' hj ⟨e, hN⟩ ⟨T0, x0, y0, rfl, hT0, rfl, hx0, hy0⟩
        obtain rfl : x0 = V.int (j : Nat) := (Option.some.inj hx0).symm
        obtain ⟨c, hc, rfl⟩ := int_at hy0
        have hi' : j < x.2.length := (List.getElem?_eq_some_iff.mp hc).1
        have lc := wx.1 c (List.mem_of_getElem? hc)
        have e' := e.trans (same_upd (o := .tup [.int (j : Nat), .int c]) hT0)
        have hN0 := same_upd (o := .tup [.int (j : Nat), .int c]) hT0 _ _ hN
        refine ⟨T0, _, rfl, SqT.of upd_same, rfl, _, _, rfl, _, _, rfl, rfl, rfl, ?_⟩
        refine ⟨_, rfl, _, rfl, q, .int c, some c, rfl, rfl, true, by rw [from_let lc], iteF ?_⟩
        refine ⟨_, rfl, _, _, rfl, rfl, _, rfl, ?_⟩
        by_cases hz : 0 < c
        · rw [show decide (0 < c) = true from decide_eq_true hz]
          refine iteT ⟨_, rfl, _, hN0, ?_, same_set hD e', ?_⟩
          · rw [List.length_map, List.length_map]
            exact line_le (Nat.le_trans (List.length_filter_le _ _) (by rw [List.length_range]; omega))
          · rw [upd_same, List.range_succ, List.filter_append]
            simp [List.filter_cons, hc, hz]
        · rw [show decide (0 < c) = false from decide_eq_false hz]
          refine iteF ⟨e', ?_⟩
          rw [hN0, List.range_succ, List.filter_append]
          simp [List.filter_cons, hc]
          omega
      rintro G1 ⟨t1, hD1⟩
      rw [List.length_map] at hD1
      have hhd := headL_heads hq wx
      rw [headL_lead hq wx ox.2.2.1 (rr_lead hq hR hxm)] at hhd
      generalize ((List.range x.2.length).filter fun p => decide (0 < x.2.getD p 0)) = hs at hhd hD1
      cases hs with
      | nil => cases hhd
      | cons h hs =>
      obtain rfl : h = x.1 := by simpa using hhd
      have s4 := sG.trans t1
      have hG1 := t1 _ _ hG
      have nDH : Hd ≠ D := ne_of_none hG hD
      refine ⟨_, rfl, line_s (Nat.zero_le _), fun N2 hN2 => ⟨D, N2, _, rfl, rfl, SqL.of (same_upd hN2 _ _ hD1), SqL.of upd_same, _, rfl, ?_⟩⟩
      have t2 := same_upd (o := .lst []) hN2
      have hD2 := t2 _ _ hD1
      have hG2 := t2 _ _ hG1
      have s5 := s4.trans t2
      have ha2 := (t1.trans t2).tup ha'
      generalize upd G1 N2 (.lst []) = G2 at t2 hD2 hG2 s5 ha2 ⊢
      refine iteF ⟨_, rfl, _, rfl, D, _, ((0 : Nat) : Int), .int (x.1 : Int), rfl, rfl, SqL.of hD2, atI_nat rfl, a', _, _, .int (x.2.getD x.1 0), rfl, rfl, ha2, atI_nat (getD_at (by omega)), ?_⟩
      rw [ox.2.2.2.2]
      refine ⟨_, .int 1, rfl, .int 1, (sz_int (b := 0) (k := 0) (by decide)).told (by decide) (by decide), rfl, _, rfl, ?_⟩
      rw [show (!decide (V.str (PyData.int 1).shown = V.str (Str.ofString "1"))) = false by decide +kernel]
      refine iteF ⟨_, rfl, a', rfl, ⟨_, ha2⟩, fun D3 hD3 => ?_⟩
      refine lc_it (walk_tup (K := K) (a := a') (xs := x.2.map V.int)) (fun i H' => Same G2 H' ∧ H' D3 = some (.lst [])) ⟨same_upd hD3, upd_same⟩ (fun i H' _ ⟨e, _⟩ => e.tup ha2) ?_ ?_
      · rintro j v _ H' hj ⟨e, hN⟩ ⟨rfl, hv⟩
        obtain ⟨c, hc, rfl⟩ := int_at hv
        have lc := wx.1 c (List.mem_of_getElem? hc)
        refine ⟨rfl, ?_⟩
        refine ⟨_, rfl, _, rfl, q, .int c, some c, rfl, rfl, true, by rw [from_let lc], iteF ⟨e, hN⟩⟩
      rintro G3 ⟨t3, hD33⟩
      refine ⟨line_s (Nat.zero_le _), fun N4 hN4 => ⟨D3, N4, _, rfl, rfl, SqL.of (same_upd hN4 _ _ hD33), SqL.of upd_same, _, rfl, iteF ?_⟩⟩
      have t4 := t3.trans (same_upd (o := .lst []) hN4)
      have hD4 := t4 _ _ hD2
      have hG4 := t4 _ _ hG2
      have s6 := s5.trans t4
      generalize upd G3 N4 (.lst []) = G4 at hD4 hG4 s6 ⊢
      refine ⟨_, rfl, .inl ⟨rfl, _, SqL.of hG4⟩, _, rfl, D, _, ((0 : Nat) : Int), .int (x.1 : Int), rfl, rfl, SqL.of hD4, atI_nat rfl, Hd, _, _, rfl, rfl, hG4, line_le (by rw [List.length_map, List.length_map, List.length_take]; omega), ?_⟩
      refine ⟨_, _, rfl, same_set Hd0 s6, ?_⟩
      rw [upd_same, List.take_add_one, hx, List.map_append, List.map_append]
      rfl
    rintro _ G ⟨u3, u5, rfl, sG, hG⟩
    have asc := leads_asc hR
    have lL : (Ps.map fun x => (x.1 : Int)).length = Ps.length := List.length_map _
    show tSeq (tIfS (tTest (tOp (rNeD K) (tVar 4) (tCB (rSortedSet w) (tCons (tCB (MB.rSetL K w) (tCons (tVar 4) tNil)) tNil)))) _ _) _ _ _ _
    refine ⟨_, rfl, _, rfl, Hd, _, rfl, SqL.of hG, by omega, fun p5 c hp5 hc => ⟨p5, _, c, rfl, upd_same, by omega, fun ns' p6 asc' mem ln hp6 => ?_⟩⟩
    have eq1 : ns' = Ps.map fun x => (x.1 : Int) := asc_one asc' asc fun k => (mem k).trans (by simp only [decide_eq_true_eq])
    subst eq1
    have t5 := same_upd (o := SetO w p5 (fun j => decide (j ∈ Ps.map fun x => (x.1 : Int))) c) hp5
    have t6 := same_upd (o := .lst ((Ps.map fun x => (x.1 : Int)).map V.int)) hp6
    have hG6 := t6 _ _ (t5 _ _ hG)
    have s6 := sG.trans (t5.trans t6)
    have g6 : (upd (upd G p5 (SetO w p5 (fun j => decide (j ∈ Ps.map fun x => (x.1 : Int))) c)) p6 (.lst ((Ps.map fun x => (x.1 : Int)).map V.int))) p6 = some (.lst ((Ps.map fun x => (x.1 : Int)).map V.int)) := upd_same
    refine ⟨.list ((Ps.map fun x => (x.1 : Int)).map PyData.int), .list ((Ps.map fun x => (x.1 : Int)).map PyData.int), .lst (SqL.of hG6) (dp_ints _), .lst (SqL.of g6) (dp_ints _), ilist_shaped _, ilist_shaped _, _, rfl, ?_⟩
    rw [eqv_ilist, decide_eq_true rfl]
    refine iteF ?_
    generalize upd (upd G p5 (SetO w p5 (fun j => decide (j ∈ Ps.map fun x => (x.1 : Int))) c)) p6 (.lst ((Ps.map fun x => (x.1 : Int)).map V.int)) = G6 at hG6 s6 ⊢
    have ha6 := s6.tup ha
    refine ⟨_, rfl, a, _, rfl, ha6, fun D hD => ?_⟩
    refine lc_it (walk_enumT (K := K) (a := a) (xs := vs)) (fun i H' => Same G6 H' ∧ H' D = some (.lst [])) ⟨same_upd hD, upd_same⟩ (fun i H' _ ⟨e, _⟩ => e.tup ha6) ?_ ?_
    · rintro i v H' H'' hi ⟨e, hN⟩ ⟨T0, x0, y0, rfl, hT0, rfl, hx0, hy0⟩
      obtain rfl : x0 = V.int (i : Nat) := (Option.some.inj hx0).symm
      obtain ⟨r, hr2, ti⟩ := paired_at hpr hy0
      obtain ⟨x, hx, hxm, rfl⟩ := red_at hR hr2
      have ox := hR.one x hxm
      have e' := e.trans (same_upd (o := .tup [.int (i : Nat), y0]) hT0)
      have hN0 := same_upd (o := .tup [.int (i : Nat), y0]) hT0 _ _ hN
      obtain ⟨a', rfl, ha'⟩ := ti.same (s6.trans e')
      have hHd' := e' _ _ hG6
      refine ⟨T0, _, rfl, SqT.of upd_same, rfl, _, _, rfl, _, _, rfl, rfl, rfl, ?_⟩
      generalize upd H' T0 (.tup [.int (i : Nat), .ref a']) = H1 at e' hN0 ha' hHd' ⊢
      have hu := unit_at hR hx
      refine ⟨_, rfl, Hd, rfl, ⟨_, SqL.of hHd'⟩, fun A1 hA1 => ?_⟩
      refine lc_it (walk_list (K := K) (a := Hd) (xs := (Ps.map fun x => (x.1 : Int)).map V.int)) (fun j H' => Same H1 H' ∧ H' A1 = some (.lst (((Ps.map fun y => x.2.getD y.1 0).take j).map V.int))) ⟨same_upd hA1, by rw [upd_same]; simp⟩ (fun j H' _ ⟨e, _⟩ => SqL.of (e _ _ hHd')) ?_ ?_
      · rintro j v _ H2 hj ⟨e2, hM⟩ ⟨rfl, hv⟩
        obtain ⟨c, hc, rfl⟩ := int_at hv
        rw [List.getElem?_map] at hc
        obtain ⟨y, hy, rfl⟩ := Option.map_eq_some_iff.mp hc
        have oy := hR.one y (List.mem_of_getElem? hy)
        refine ⟨rfl, ?_⟩
        refine ⟨_, rfl, _, rfl, a', _, _, .int (x.2.getD y.1 0), rfl, rfl, e2.tup ha', atI_nat (getD_at (by rw [ox.2.1]; exact oy.2.2.1)), ?_⟩
        refine ⟨_, hM, ?_, same_set hA1 e2, ?_⟩
        · rw [List.length_map, List.length_take, List.length_map]
          exact line_le (by omega)
        · rw [upd_same, List.take_add_one, List.getElem?_map, hy, List.map_append]
          rfl
      rintro H2 ⟨s2', hA2⟩
      rw [List.length_map, List.take_of_length_le (by rw [List.length_map, List.length_map]; exact Nat.le_refl _), hu] at hA2
      have ha2' := (s6.trans (e'.trans s2')).tup ha
      refine ⟨_, rfl, a, vs, rfl, .inr ha2', _, rfl, by omega, by omega, fun A3 hA3 => ?_⟩
      refine lc_it (walk_range (lo := 0) (n := ((vs.length : Nat) : Int).toNat)) (fun j H' => Same H2 H' ∧ H' A3 = some (.lst (((List.range j).map fun l => if l = i then (1 : Int) else 0).map V.int))) ⟨same_upd hA3, by rw [upd_same]; rfl⟩ (fun _ _ _ _ => trivial) ?_ ?_
      · rintro j v _ H4 hj ⟨e4, hM⟩ ⟨rfl, rfl⟩
        refine ⟨rfl, ?_⟩
        refine ⟨_, rfl, _, rfl, rfl, .inr ⟨_, rfl, ?_⟩⟩
        refine ⟨_, hM, ?_, same_set hA3 e4, ?_⟩
        · rw [List.length_map, List.length_map, List.length_range]
          exact line_le (by omega)
        · rw [upd_same, List.range_succ, List.map_append, List.map_append]
          by_cases z : j = i
          · rw [show decide (V.int (0 + (j : Int)) = V.int (i : Int)) = true from decide_eq_true (by rw [z]; congr 1; omega)]
            simp [z]
          · rw [show decide (V.int (0 + (j : Int)) = V.int (i : Int)) = false from decide_eq_false (fun e => z (by have := V.int.inj e; omega))]
            simp [z]
      rintro H5 ⟨s5', hA5⟩
      rw [Int.toNat_natCast, lv] at hA5
      refine ⟨.list (((List.range Ps.length).map fun l => if l = i then (1 : Int) else 0).map PyData.int), .list (((List.range Ps.length).map fun l => if l = i then (1 : Int) else 0).map PyData.int), .lst (SqL.of (s5' _ _ hA2)) (dp_ints _), .lst (SqL.of hA5) (dp_ints _), ilist_shaped _, ilist_shaped _, _, rfl, ?_⟩
      rw [eqv_ilist, decide_eq_true rfl]
      exact iteF ⟨e'.trans (s2'.trans s5'), s5' _ _ (s2' _ _ hN0)⟩
    rintro H7 ⟨s7, hD7⟩
    refine ⟨line_s (Nat.zero_le _), fun N8 hN8 => ⟨D, N8, _, rfl, rfl, SqL.of (same_upd hN8 _ _ hD7), SqL.of upd_same, k _ (s6.trans (s7.trans (same_upd hN8)))⟩⟩
end
end K09
end
section
set_option maxRecDepth 100000
set_option maxHeartbeats 4000000
set_option exponentiation.threshold 9000
namespace K09
open PySem PySem.Spec PyProof.Rows L2 MB LM
open LamX hiding takes0
theorem tell3 {q n m : Int} (hq : q.natAbs < 100) (hn : n.natAbs < 100) (hm : m.natAbs < 100) : Told (.tuple [.int q, .int n, .int m]) := by
  have h42 : (10 : Nat) ^ 42 > 100 := by decide
  exact (sz_tup (szAll_cons (sz_int (b := 0) (k := 0) (by omega)) (szAll_cons (sz_int (b := 0) (by omega)) (szAll_cons (sz_int (b := 0) (by omega)) (szAll_nil (b := 0)))))).told (by decide) (by decide)
section
variable {w : World} {K : PySem.W.Frag} {mg : Str → Option Value} {base : Heap}
theorem RowsLT.same {H H' : Hp} {v : V} {Ls : List (List Int)} (h : RowsLT K H v Ls) (s : Same H H') : RowsLT K H' v Ls := by
  obtain ⟨a, vs, rfl, h1, h2⟩ := h
  exact ⟨a, vs, rfl, h1.elim (fun h => .inl (sqL_same s h)) fun h => .inr (s.tup h), rows_same s h2⟩
theorem bookAt_same {C : Addr} {H H' : Hp} {b : Addr} {q n : Int} {Rs : List (List Int)} (h : BookAt K C H b q n Rs) (s : Same H H') : BookAt K C H' b q n Rs := by
  obtain ⟨dx, fs, z, h1, h2, h3, h4, h5, a, vs, rfl, h6, h7⟩ := h
  exact ⟨dx, fs, _, s _ _ h1, h2, h3, h4, h5, a, vs, rfl, s.tup h6, rows_same s h7⟩
theorem paired_app {α β : Type} {R : α → β → Prop} {xs xs' : List α} {ys ys' : List β} (h : Paired R xs ys) (k : Paired R xs' ys') : Paired R (xs ++ xs') (ys ++ ys') := by
  induction h with
  | nil => exact k
  | cons r _ ih => exact .cons r ih
def spIsBook (T : Txt K mg) : Sp := fun vs H Q _ => ∃ (b : Addr) (q : Int) (n : Nat) (v : V) (Ls : List (List Int)), vs = [.ref b, .int q, .int (n : Int), v] ∧ LetQ q ∧ 1 ≤ n ∧ n ≤ 8 ∧ RowsLT K H v Ls ∧ AllR q n Ls ∧ Ls.length ≤ 900 ∧ BookAt K T.C_Book H b q n (gauss q n Ls) ∧ ∀ H', Same H H' → Q (.bl true) H'
theorem ok__law_is_book (T : Txt K mg) (sm : SM base) : FnG P w K mg base 4 T.a__law_is_book T.d__law_is_book P__law_is_book (spIsBook T) := by
  refine fnG T.F__law_is_book sc__law_is_book (fun vs H Q E h => ?_) (fun cdv A outer s H vs Q E hr hgu h => ?_)
  · obtain ⟨b, q, n, v, Ls, rfl, _⟩ := h
    rfl
  · obtain ⟨b, q, n, _, Ls, rfl, hq, n1, n8, ⟨a, vs, rfl, hsq, hpr⟩, hL, lL, hB, k⟩ := h
    refine ⟨_, 
      (pss_cons (ps_if (PW.pt (pw_or (pt_not (pt_val (pe_callB (id := "isinstance") (r := rIsi K) call_isi (by rfl) T.m_isinstance (by decide +kernel) (pa_cons (pv 0) (pa_cons (pe_glob (v := .ref T.C_Book) rfl T.g_Book rfl) pa_nil))))) (pw_or1 (pt_not (pt_val (pe_callG (ok__law_are_reduced T sm) (hr.mono (by decide)) hgu rfl T.m__law_are_reduced T.F__law_are_reduced.kp T.b__law_are_reduced (pa_cons (pv 1) (pa_cons (pv 2) (pa_cons (pe_fld (pv 0) rfl) pa_nil))))))))) (pss_one (ps_ret pe_bl)) pss_nil)
      (pss_cons (ps_if (pt_cmpR op_ne (pe_callB (call_tell sm hgu hr.units) (by rfl) T.m_repr (by decide +kernel) (pa_cons (pe_tup (pa_cons (pe_fld (pv 0) rfl) (pa_cons (pe_fld (pv 0) rfl) (pa_cons (pe_fld (pv 0) rfl) pa_nil)))) pa_nil)) (pe_callB (call_tell sm hgu hr.units) (by rfl) T.m_repr (by decide +kernel) (pa_cons (pe_tup (pa_cons (pv 1) (pa_cons (pv 2) (pa_cons (pe_callB call_len_seq (by rfl) T.m_len (by decide +kernel) (pa_cons (pe_fld (pv 0) rfl) pa_nil)) pa_nil)))) pa_nil)) (nomark _)) (pss_one (ps_ret pe_bl)) pss_nil)
      (pss_one (ps_ret (pe_chain op_eq op_eq (pe_call (ok__law_rank T) (hr.mono (by decide)) rfl T.m__law_rank T.F__law_rank.kp T.b__law_rank .nil pass0 (pa_cons (pv 1) (pa_cons (pe_op op_cat (pe_callTy call_list_of (by rfl) T.m_list (by decide +kernel) (pa_cons (pe_fld (pv 0) rfl) pa_nil)) (pe_callTy call_list_of (by rfl) T.m_list (by decide +kernel) (pa_cons (pv 3) pa_nil))) pa_nil))) (pe_call (ok__law_rank T) (hr.mono (by decide)) rfl T.m__law_rank T.F__law_rank.kp T.b__law_rank .nil pass0 (pa_cons (pv 1) (pa_cons (pv 3) pa_nil))) (pe_callB call_len_seq (by rfl) T.m_len (by decide +kernel) (pa_cons (pe_fld (pv 0) rfl) pa_nil))))))), ?_⟩
    obtain ⟨Ps, hR, eg, sp⟩ := gauss_gen hq hL
    have lR := rr_len hR
    have lv := hpr.length
    have q2 := hq.lo
    have q5 := hq.hi
    have hcat : AllR q n (Ps.map (·.2) ++ Ls) := fun r hr => (List.mem_append.mp hr).elim (hR.rows r) (hL r)
    have r1 : rankL q Ls = Ps.length := by rw [rank_eq hq hL, eg, List.length_map]
    have r2 : rankL q (Ps.map (·.2) ++ Ls) = Ps.length := by
      rw [rank_eq hq hcat, gauss_same hq hcat hL ⟨fun r hr => ?_, fun r hr => .row hq hcat (List.mem_append_right _ hr)⟩, eg, List.length_map]
      rcases List.mem_append.mp hr with hr | hr
      · exact sp.2 r hr
      · exact .row hq hL hr
    rw [eg] at hB
    obtain ⟨dx, fs, z, hb, bq, bn, br, bd, c, vc, rfl, hc, pc⟩ := id hB
    rw [List.length_map] at bd
    have lc : vc.length = Ps.length := by rw [pc.length, List.length_map]
    refine ⟨_, rfl, _, _, _, _, _, rfl, .own T.C_Book, ty_book T hb, kit_self, true, rfl, iteF ?_⟩
    refine ⟨_, rfl, _, rfl, _, rfl, b, _, dx, fs, _, rfl, hb, T.cl_Book, T.no_Book_rows, br, q, n, _, Ps, rfl, hq, n8, hR, ⟨c, vc, rfl, hc, pc⟩, fun H1 s1 => ⟨true, rfl, iteF ?_⟩⟩
    have hb1 := s1 _ _ hb
    have hc1 := s1.tup hc
    refine ⟨_, rfl, b, _, dx, fs, _, rfl, hb1, T.cl_Book, T.no_Book_q, bq, _, rfl, b, _, dx, fs, _, rfl, hb1, T.cl_Book, T.no_Book_n, bn, _, rfl, b, _, dx, fs, _, rfl, hb1, T.cl_Book, T.no_Book_dimension, bd, line_s (show 3 ≤ 100000 by decide), fun p2 hp2 => ?_⟩
    have s2 := same_upd (o := .tup [.int q, .int (n : Int), .int ((Ps.length : Nat) : Int)]) hp2
    have told := tell3 (q := q) (n := n) (m := (Ps.length : Nat)) (by omega) (by omega) (by omega)
    refine ⟨_, .tuple [.int q, .int (n : Int), .int ((Ps.length : Nat) : Int)], rfl, .tup (SqT.of upd_same) (.cons (.int _) (.cons (.int _) (.cons (.int _) .nil))), told, ?_⟩
    have hb2 := s2 _ _ hb1
    refine ⟨_, rfl, _, rfl, _, rfl, b, _, dx, fs, _, rfl, hb2, T.cl_Book, T.no_Book_rows, br, c, vc, rfl, .inr (s2.tup hc1), line_s (show 3 ≤ 100000 by decide), fun p3 hp3 => ?_⟩
    have s3 := same_upd (o := .tup [.int q, .int (n : Int), .int ((vc.length : Nat) : Int)]) hp3
    refine ⟨_, .tuple [.int q, .int (n : Int), .int ((vc.length : Nat) : Int)], rfl, .tup (SqT.of upd_same) (.cons (.int _) (.cons (.int _) (.cons (.int _) .nil))), by rw [lc]; exact told, rfl, _, rfl, ?_⟩
    rw [lc, decide_eq_true rfl]
    refine iteF ?_
    have s13 := s1.trans (s2.trans s3)
    rw [lc] at s13
    generalize upd (upd H1 p2 (.tup [.int q, .int (n : Int), .int ((Ps.length : Nat) : Int)])) p3 (.tup [.int q, .int (n : Int), .int ((Ps.length : Nat) : Int)]) = H3 at s13 ⊢
    clear s3 s2 s1 hb1 hc1 hb2 told hp2 hp3
    have hb3 := s13 _ _ hb
    have hc3 := s13.tup hc
    have hsq3 : SqL K H3 a vs ∨ SqT K H3 a vs := hsq.elim (fun h => .inl (sqL_same s13 h)) fun h => .inr (s13.tup h)
    dsimp only [tNext]
    refine ⟨_, rfl, _, rfl, b, _, dx, fs, _, rfl, hb3, T.cl_Book, T.no_Book_rows, br, c, vc, rfl, .inr hc3, fun l1 hl1 => ?_⟩
    have s4 := same_upd (o := .lst vc) hl1
    have g1 : (upd H3 l1 (.lst vc)) l1 = some (.lst vc) := upd_same
    generalize upd H3 l1 (.lst vc) = H4 at s4 g1 ⊢
    refine ⟨_, rfl, a, vs, rfl, hsq3.elim (fun h => .inl (sqL_same s4 h)) (fun h => .inr (s4.tup h)), fun l2 hl2 => ?_⟩
    have s5 := same_upd (o := .lst vs) hl2
    have g2 : (upd H4 l2 (.lst vs)) l2 = some (.lst vs) := upd_same
    generalize upd H4 l2 (.lst vs) = H5 at s5 g2 ⊢
    refine ⟨l1, l2, vc, vs, rfl, rfl, s5 _ _ g1, g2, line_s (by omega), fun l3 hl3 => ?_⟩
    have s6 := same_upd (o := .lst (vc ++ vs)) hl3
    have g3 : (upd H5 l3 (.lst (vc ++ vs))) l3 = some (.lst (vc ++ vs)) := upd_same
    generalize upd H5 l3 (.lst (vc ++ vs)) = H6 at s6 g3 ⊢
    have s06 := s13.trans (s4.trans (s5.trans s6))
    refine ⟨q, n, .ref l3, Ps.map (·.2) ++ Ls, rfl, hq, n8, ⟨l3, _, rfl, .inl (SqL.of g3), paired_app (rows_same s06 pc) (rows_same s06 hpr)⟩, hcat, by rw [List.length_append, List.length_map]; omega, fun H7 s7 => ?_⟩
    have s07 := s06.trans s7
    refine ⟨_, rfl, _, rfl, q, n, .ref a, Ls, rfl, hq, n8, RowsLT.same ⟨a, vs, rfl, hsq, hpr⟩ s07, hL, by omega, fun H8 s8 => ?_⟩
    rw [r1, r2]
    refine ⟨rfl, _, rfl, ?_⟩
    rw [decide_eq_true rfl]
    have s08 := s07.trans s8
    refine iteT ⟨_, rfl, b, _, dx, fs, _, rfl, s08 _ _ hb, T.cl_Book, T.no_Book_rows, br, c, vc, rfl, .inr (s08.tup hc), rfl, ?_⟩
    rw [lc, decide_eq_true rfl]
    exact k _ s08
end
end K09
end
section
set_option maxRecDepth 100000
set_option maxHeartbeats 4000000
set_option exponentiation.threshold 9000
namespace K09
open PySem PySem.Spec PyProof.Rows L2 MB LM
open LamX hiding takes0
theorem rep_rd {K : PySem.W.Frag} {H : Hp} {u : V} {c k : Int} {Q : VK} (hu : TI K H u [c]) (lo : -1000 ≤ k) (hi : k ≤ 1000)
    (q : ∀ z H', Same H H' → TI K H' z (List.replicate k.toNat c) → Q z H') : rRepA K u (.int k) H Q := by
  obtain ⟨a, rfl, ha⟩ := hu
  refine ⟨a, k, _, rfl, rfl, ha, by simp, by omega, by omega, by simp, fun e => ?_, fun e p hp => ?_⟩
  · subst e
    exact q _ _ (Same.refl _) ⟨a, rfl, ha⟩
  · refine q _ _ (same_upd hp) ⟨p, rfl, ?_⟩
    have z : (List.replicate k.toNat ([c].map V.int)).flatten = (List.replicate k.toNat c).map V.int := by
      simp
    rw [← z]
    exact SqT.of upd_same
def free (n : Nat) (Ps : List (Nat × List Int)) : List Nat := (List.range n).filter fun p => !(Ps.any fun x => x.1 == p)
theorem mem_free {n p : Nat} {Ps : List (Nat × List Int)} : p ∈ free n Ps ↔ p < n ∧ ∀ x ∈ Ps, x.1 ≠ p := by
  unfold free
  simp
def checks (q : Int) (n : Nat) (Ps : List (Nat × List Int)) : List (List Int) := (free n Ps).map fun p => chk q n p Ps
theorem in_leads (p : Nat) : ∀ Ps : List (Nat × List Int), inV (.int (p : Int)) ((Ps.map fun x => (x.1 : Int)).map V.int) = Ps.any fun x => x.1 == p
  | [] => rfl
  | x :: Ps => by
    have ih := in_leads p Ps
    unfold inV at ih ⊢
    rw [List.map_cons, List.map_cons, List.any_cons, List.any_cons, ih]
    have e : eqV (V.int (x.1 : Int)) (.int (p : Int)) = (x.1 == p) := by
      show ((x.1 : Int) == (p : Int)) = (x.1 == p)
      rw [Bool.eq_iff_iff, beq_iff_eq, beq_iff_eq]
      omega
    rw [e]
theorem flat_ints : ∀ ns : List Int, (ns.map V.int).all flatV = true
  | [] => rfl
  | c :: r => by
    rw [List.map_cons, List.all_cons, flat_ints r]
    rfl
section
variable {w : World} {K : PySem.W.Frag} {mg : Str → Option Value} {base : Heap}
def spChkAt (K : PySem.W.Frag) : Sp := fun vs H Q _ => ∃ (q : Int) (n p : Nat) (v : V) (Ps : List (Nat × List Int)), vs = [.int q, .int (n : Int), v, .int (p : Int)] ∧ LetQ q ∧ n ≤ 8 ∧ p < n ∧ TupRed K H v Ps ∧ RR q n Ps ∧
  ∀ z H', Same H H' → TI K H' z (chk q n p Ps) → Q z H'
theorem ok_check_at (T : Txt K mg) : FnOk P w K mg base CX0 3 T.a_check_at T.d_check_at P_check_at (spChkAt K) := by
  refine T.F_check_at.ok sc_check_at (fun vs H Q E h => ?_) (fun cdv A outer s H vs Q E hr h => ?_)
  · obtain ⟨q, n, p, v, Ps, rfl, _⟩ := h
    rfl
  · obtain ⟨q, n, p, _, Ps, rfl, hq, hn, hp, ⟨a, vs, rfl, ha, hpr⟩, hR, k⟩ := h
    refine ⟨_, 
      (pss_cons (ps_set (i := 4) sc_check_at.nd rfl (Or.inl rfl) (pe_op op_rep (pe_lst (pa_cons pe_int pa_nil)) (pv 1)))
      (pss_cons (ps_asg pe_int (pg_sub (pv 4) (pv 3) set_list))
      (pss_cons (ps_for PassesOwn.never rfl (pi_tup (pv 2)) (pg_name (i := 5) sc_check_at.nd rfl (Or.inl rfl)) (pss_one (ps_asg (pe_call (ok_letter_negative T) (hr.mono (by decide)) rfl T.m_letter_negative T.F_letter_negative.kp T.b_letter_negative .nil pass0 (pa_cons (pv 0) (pa_cons (pe_ix (r := rIxT K) ix_tup (pv 5) (pv 3) (fun _ _ => rfl)) pa_nil))) (pg_sub (pv 4) (pe_call (ok_lead_of T) (hr.mono (by decide)) rfl T.m_lead_of T.F_lead_of.kp T.b_lead_of .nil pass0 (pa_cons (pv 5) pa_nil)) set_list))))
      (pss_one (ps_ret (pe_callTy call_tuple_of (by rfl) T.m_tuple (by decide +kernel) (pa_cons (pv 4) pa_nil))))))), ?_⟩
    refine ⟨line_s (Nat.le_of_ble_eq_true rfl), fun p1 hp1 => ⟨_, rfl, p1, _, _, rfl, rfl, upd_same, by omega, by omega, ?_, fun D hD => ?_⟩⟩
    · simp only [List.length_cons, List.length_nil]
      exact Nat.le_of_lt (line_le (by omega))
    rw [zeros_flat (n := n) (by omega)]
    have s1 := (same_upd (o := .lst [.int 0]) hp1).trans (same_upd (o := .lst ((zrow n).map V.int)) hD)
    have hDH : H D = none := (same_upd (o := .lst [.int 0]) hp1).free hD
    have hD1 : (upd (upd H p1 (.lst [.int 0])) D (.lst ((zrow n).map V.int))) D = some (.lst ((zrow n).map V.int)) := upd_same
    generalize upd (upd H p1 (.lst [.int 0])) D (.lst ((zrow n).map V.int)) = H1 at s1 hD1
    refine ⟨_, rfl, _, rfl, D, _, _, p, rfl, rfl, hD1, ?_, ?_⟩
    · unfold ixN
      rw [if_pos (by omega), if_pos (by rw [List.length_map, zrow_len]; omega)]
      rfl
    have s2 : Same H (upd H1 D (.lst (((zrow n).map V.int).set p (.int 1)))) := same_set hDH s1
    have e2 : ((zrow n).map V.int).set p (.int 1) = ((zrow n).set p 1).map V.int := by rw [List.map_set]
    rw [e2] at s2 ⊢
    refine ⟨_, rfl, a, rfl, ⟨vs, s2.tup ha⟩, for_it (walk_tup (K := K) (a := a) (xs := vs))
      (fun i σ H' => ∃ u5 : Option V, σ = [some (.int q), some (.int (n : Int)), some (.ref a), some (.int (p : Int)), some (.ref D), u5] ∧ Same H H' ∧
        H' D = some (.lst (((Ps.take i).foldl (fun c x => c.set x.1 (lneg q (x.2.getD p 0))) ((zrow n).set p 1)).map V.int)))
      ⟨none, rfl, s2, upd_same⟩ (fun i σ H' _ ⟨_, _, e, _⟩ => e.tup ha) ?_ ?_⟩
    · rintro i v _ _ H' hi ⟨u5, rfl, e, hN⟩ ⟨rfl, hv⟩
      obtain ⟨r, hr, ti⟩ := paired_at hpr hv
      obtain ⟨x, hx, hxm, rfl⟩ := red_at hR hr
      obtain ⟨xr, xl, xn, x0, x1⟩ := hR.one x hxm
      obtain ⟨b, rfl, hb⟩ := ti.same e
      refine ⟨_, rfl, _, rfl, _, rfl, b, _, _, .int (x.2.getD p 0), rfl, rfl, hb, atI_nat (getD_at (by omega)), q, _, rfl, hq, ?_⟩
      refine ⟨_, rfl, _, rfl, .ref b, x.2, x.1, rfl, ⟨b, rfl, hb⟩, by omega, by omega, x0, by rw [x1]; decide, fun H2 s2 => ?_⟩
      have hN2 := s2 _ _ hN
      refine ⟨D, _, _, x.1, rfl, rfl, hN2, ?_, ?_⟩
      · unfold ixN
        rw [if_pos (by omega), if_pos (by rw [List.length_map, chk_len, List.length_set, zrow_len]; omega)]
        rfl
      refine ⟨some (.ref b), rfl, same_set hDH (e.trans s2), ?_⟩
      rw [upd_same, List.take_add_one, hx, List.foldl_append, ← List.map_set]
      rfl
    · rintro _ H' ⟨u5, rfl, e, hN⟩
      have l : vs.length = Ps.length := by rw [hpr.length, List.length_map]
      rw [l, List.take_length] at hN
      refine ⟨_, rfl, D, _, rfl, .inl ⟨SqL.of hN, fun p2 hp2 => ?_⟩⟩
      exact k _ _ (e.trans (same_upd hp2)) ⟨p2, rfl, SqT.of upd_same⟩
def spChks (K : PySem.W.Frag) : Sp := fun vs H Q _ => ∃ (q : Int) (n : Nat) (v : V) (Ps : List (Nat × List Int)), vs = [.int q, .int (n : Int), v] ∧ LetQ q ∧ n ≤ 8 ∧ TupRed K H v Ps ∧ RR q n Ps ∧
  ∀ z H', Same H H' → TupRows K H' z (checks q n Ps) → Q z H'
theorem ok_check_rows (T : Txt K mg) : FnOk P w K mg base CX0 4 T.a_check_rows T.d_check_rows P_check_rows (spChks K) := by
  refine T.F_check_rows.ok sc_check_rows (fun vs H Q E h => ?_) (fun cdv A outer s H vs Q E hr h => ?_)
  · obtain ⟨q, n, v, Ps, rfl, _⟩ := h
    rfl
  · obtain ⟨q, n, _, Ps, rfl, hq, hn, ⟨a, vs, rfl, ha, hpr⟩, hR, k⟩ := h
    refine ⟨_, 
      (pss_cons (ps_set (i := 3) sc_check_rows.nd rfl (Or.inr rfl) (pe_lc (own := [("row", 4)]) (g := gName 4) (tt := tYes) rfl sc_check_rows.nd (pi_tup (pv 2)) (blkOk_by (own := [("row", 4)]) (N := N_check_rows) (sc := (defScope s_check_rows)) (by decide +kernel)) (fun _ _ _ _ _ => (pg_name (i := 4) sc_check_rows.nd rfl (Or.inl rfl))) (fun _ _ _ _ _ => pts_nil) (fun _ _ _ _ _ => (pe_call (ok_lead_of T) (hr.mono (by decide)) rfl T.m_lead_of T.F_lead_of.kp T.b_lead_of .nil pass0 (pa_cons (pv 4) pa_nil)))))
      (pss_one (ps_ret (pe_callTy call_tuple_of (by rfl) T.m_tuple (by decide +kernel) (pa_cons (pe_lc (own := [("place", 5)]) (g := gName 5)  rfl sc_check_rows.nd (pi_range1 rfl T.m_range (pa_cons (pv 1) pa_nil)) (blkOk_by (own := [("place", 5)]) (N := N_check_rows) (sc := (defScope s_check_rows)) (by decide +kernel)) (fun _ _ _ _ _ => (pg_name (i := 5) sc_check_rows.nd rfl (Or.inl rfl))) (fun _ _ _ _ _ => (pts_one (pt_cmpR (show OpR _ _ (rIn K true) from op_notIn_seq) (pv 5) (pv 3) rfl))) (fun _ _ _ _ _ => (pe_call (ok_check_at T) (hr.mono (by decide)) rfl T.m_check_at T.F_check_at.kp T.b_check_at .nil pass0 (pa_cons (pv 0) (pa_cons (pv 1) (pa_cons (pv 2) (pa_cons (pv 5) pa_nil))))))) pa_nil))))), ?_⟩
    have lR := rr_len hR
    have lv : vs.length = Ps.length := by rw [hpr.length, List.length_map]
    refine ⟨_, rfl, a, rfl, ⟨vs, ha⟩, fun L hL => ?_⟩
    refine lc_it (walk_tup (K := K) (a := a) (xs := vs))
      (fun i H' => Same H H' ∧ H' L = some (.lst (((Ps.take i).map fun x => (x.1 : Int)).map V.int))) ⟨same_upd hL, upd_same⟩ (fun i H' _ ⟨e, _⟩ => e.tup ha) ?_ ?_
    · rintro i v _ H' hi ⟨e, hN⟩ ⟨rfl, hv⟩
      obtain ⟨r, hr, ti⟩ := paired_at hpr hv
      obtain ⟨x, hx, hxm, rfl⟩ := red_at hR hr
      obtain ⟨xr, xl, xn, x0, x1⟩ := hR.one x hxm
      refine ⟨rfl, ?_⟩
      refine ⟨_, rfl, v, x.2, x.1, rfl, ti.same e, by omega, by omega, x0, by rw [x1]; decide, fun H2 s2 => ?_⟩
      refine ⟨_, s2 _ _ hN, ?_, same_set hL (e.trans s2), ?_⟩
      · rw [List.length_map, List.length_map, List.length_take]
        exact line_le (by omega)
      · rw [upd_same, List.take_add_one, hx, List.map_append, List.map_append]
        rfl
    rintro H1 ⟨s1, hL1⟩
    rw [lv, List.take_length] at hL1
    clear hL
    refine ⟨_, rfl, _, rfl, by omega, by omega, fun D hD => ?_⟩
    refine lc_it (walk_range (lo := 0) (n := (n : Int).toNat))
      (fun i H' => Same H1 H' ∧ ∃ zs, H' D = some (.lst zs) ∧ Paired (TI K H') zs (((List.range i).filter fun p => !(Ps.any fun x => x.1 == p)).map fun p => chk q n p Ps))
      ⟨same_upd hD, [], upd_same, .nil⟩ (fun _ _ _ _ => trivial) ?_ ?_
    · rintro i x H' _ hi ⟨e, zs, hN, pz⟩ ⟨rfl, rfl⟩
      have hin : i < n := by omega
      refine ⟨rfl, ?_⟩
      refine ⟨_, rfl, _, rfl, L, _, rfl, .inl (SqL.of (e _ _ hL1)), rfl, flat_ints _, _, rfl, ?_⟩
      simp only [Int.zero_add, ↓reduceIte, in_leads]
      have lz : zs.length ≤ i := by
        rw [pz.length, List.length_map]
        exact Nat.le_trans (List.length_filter_le _ _) (by rw [List.length_range]; exact Nat.le_refl _)
      refine ite2 (fun c => ?_) (fun c => ?_)
      · refine ⟨_, rfl, _, rfl, _, rfl, _, rfl, q, n, i, .ref a, Ps, rfl, hq, hn, hin, (TupRows.same ⟨a, vs, rfl, ha, hpr⟩ (s1.trans e)), hR, fun z H2 s2 hz => ?_⟩
        refine ⟨zs, s2 _ _ hN, line_le (by omega), same_set hD (e.trans s2), zs ++ [z], upd_same, ?_⟩
        have g2 := s2 _ _ hN
        rw [List.range_succ, List.filter_append, List.map_append, List.filter_cons_of_pos (by exact c)]
        exact paired_snoc (rows_updl g2 (rows_same s2 pz)) (ti_updl g2 hz)
      · refine ⟨e, zs, hN, ?_⟩
        rw [List.range_succ, List.filter_append, List.map_append, List.filter_cons_of_neg (by exact c)]
        rw [List.filter_nil, List.map_nil, List.append_nil]
        exact pz
    · rintro H2 ⟨e, zs, hN, pz⟩
      rw [Int.toNat_natCast] at pz
      refine ⟨D, _, rfl, .inl ⟨SqL.of hN, fun p hp => ?_⟩⟩
      exact k _ _ ((s1.trans e).trans (same_upd hp)) ⟨p, zs, rfl, SqT.of upd_same, rows_same (same_upd hp) pz⟩
def spComb (K : PySem.W.Frag) : Sp := fun vs H Q _ => ∃ (q : Int) (n : Nat) (u v : V) (as : List Int) (Ls : List (List Int)), vs = [.int q, .int (n : Int), u, v] ∧ LetQ q ∧ n ≤ 8 ∧ TI K H u as ∧ IsRow q as ∧ TupRows K H v Ls ∧ AllR q n Ls ∧
  ∀ z H', Same H H' → TI K H' z (comb q n as Ls) → Q z H'
theorem ok_sum_of_rows (T : Txt K mg) : FnOk P w K mg base CX0 3 T.a_sum_of_rows T.d_sum_of_rows P_sum_of_rows (spComb K) := by
  refine T.F_sum_of_rows.ok sc_sum_of_rows (fun vs H Q E h => ?_) (fun cdv A outer s H vs Q E hr h => ?_)
  · obtain ⟨q, n, u, v, as, Ls, rfl, _⟩ := h
    rfl
  · obtain ⟨q, n, _, _, as, Ls, rfl, hq, hn, ⟨a, rfl, ha⟩, hra, ⟨b, vs, rfl, hb, hpr⟩, hall, k⟩ := h
    refine ⟨_, 
      (pss_cons (ps_set (i := 4) sc_sum_of_rows.nd rfl (Or.inl rfl) (pe_op op_repA (pe_tup (pa_cons pe_int pa_nil)) (pv 1)))
      (pss_cons (ps_for PassesOwn.never rfl (RZ.pi_zipA (by rfl) T.m_zip (pa_cons (pv 2) (pa_cons (pv 3) pa_nil))) (pg_tup rfl (pgs_cons (pg_name (i := 5) sc_sum_of_rows.nd rfl (Or.inl rfl)) (pgs_cons (pg_name (i := 6) sc_sum_of_rows.nd rfl (Or.inl rfl)) pgs_nil))) (pss_one (ps_set (i := 4) sc_sum_of_rows.nd rfl (Or.inl rfl) (pe_call (ok_row_sum T) (hr.mono (by decide)) rfl T.m_row_sum T.F_row_sum.kp T.b_row_sum .nil pass0 (pa_cons (pv 0) (pa_cons (pv 4) (pa_cons (pe_call (ok_row_times T) (hr.mono (by decide)) rfl T.m_row_times T.F_row_times.kp T.b_row_times .nil pass0 (pa_cons (pv 0) (pa_cons (pv 5) (pa_cons (pv 6) pa_nil)))) pa_nil)))))))
      (pss_one (ps_ret (pv 4))))), ?_⟩
    refine ⟨line_s (Nat.le_of_ble_eq_true rfl), fun p1 hp1 => ⟨_, rfl, rep_rd (c := 0) ⟨p1, rfl, SqT.of upd_same⟩ (by omega) (by omega) fun z1 H1 s1 hz1 => ?_⟩⟩
    have s01 := (same_upd (o := .tup [.int 0]) hp1).trans s1
    rw [Int.toNat_natCast] at hz1
    refine ⟨_, rfl, _, rfl, a, b, _, _, rfl, .inr ⟨s01.tup ha, s01.tup hb, ?_⟩⟩
    refine for_it (walk_zipT (K := K) (a := a) (b := b) (xs := as.map V.int) (ys := vs) rfl)
      (fun i σ H' => ∃ u5 u6 z, σ = [some (.int q), some (.int (n : Int)), some (.ref a), some (.ref b), some z, u5, u6] ∧ Same H H' ∧ TI K H' z (((as.zip Ls).take i).foldl (fun t p => vsum q t (vtim q p.1 p.2)) (zrow n)) ∧
        IsRow q (((as.zip Ls).take i).foldl (fun t p => vsum q t (vtim q p.1 p.2)) (zrow n)) ∧ (((as.zip Ls).take i).foldl (fun t p => vsum q t (vtim q p.1 p.2)) (zrow n)).length = n)
      ⟨none, none, z1, rfl, s01, hz1, zrow_row hq, zrow_len⟩ (fun i σ H' _ ⟨_, _, _, _, e, _⟩ => ⟨e.tup ha, e.tup hb⟩) ?_ ?_
    · rintro i x _ H' H'' hi ⟨u5, u6, z, rfl, e, hz, rz, lz⟩ ⟨T0, x1, y1, rfl, hT0, rfl, hx, hy⟩
      obtain ⟨c, hc, rfl⟩ := int_at hx
      obtain ⟨r, hr, ti⟩ := paired_at hpr hy
      obtain ⟨rr, rl⟩ := hall r (List.mem_of_getElem? hr)
      have lc := hra c (List.mem_of_getElem? hc)
      have e1 := e.trans (same_upd (o := .tup [.int c, y1]) hT0)
      refine ⟨T0, _, rfl, SqT.of upd_same, rfl, _, _, rfl, _, _, rfl, rfl, ?_⟩
      refine ⟨_, rfl, _, rfl, _, rfl, _, rfl, _, rfl, q, c, y1, r, rfl, hq, lc, ti.same e1, rr, by omega, fun z2 H2 s2 hz2 => ?_⟩
      refine ⟨q, z, z2, _, _, rfl, hq, hz.same ((same_upd hT0).trans s2), hz2, by omega, fun z3 H3 s3 hz3 => ?_⟩
      have ez : ((as.zip Ls).take (i + 1)).foldl (fun t p => vsum q t (vtim q p.1 p.2)) (zrow n) = vsum q (((as.zip Ls).take i).foldl (fun t p => vsum q t (vtim q p.1 p.2)) (zrow n)) (vtim q c r) := by
        rw [zip_next hc hr, List.foldl_append]
        rfl
      refine ⟨some (.int c), some y1, z3, rfl, (e1.trans s2).trans s3, ?_, ?_, ?_⟩
      · rw [ez]
        exact hz3
      · rw [ez]
        exact vsum_row hq rz (vtim_row hq lc rr)
      · rw [ez]
        exact vsum_len lz (by rw [vtim_len, rl])
    · rintro _ H' ⟨u5, u6, z, rfl, e, hz, _⟩
      refine ⟨_, rfl, ?_⟩
      have lm : min (as.map V.int).length vs.length = (as.zip Ls).length := by rw [List.length_map, hpr.length, List.length_zip]
      rw [lm, List.take_length, fold_comb0 hq hra hall] at hz
      exact k z H' e hz
end
end K09
end
section
set_option maxRecDepth 100000
set_option maxHeartbeats 4000000
set_option exponentiation.threshold 9000
namespace K09
open PySem PySem.Spec PyProof.Rows L2 MB LM
open LamX hiding takes0
theorem fromL {q : Int} {o : Option Int} (h : inFrom 0 (q - 1) o = true) : ∃ a, o = some a ∧ IsLet q a := by
  cases o with
  | none => cases h
  | some a =>
    have h' : (decide ((0 : Int) ≤ a) && decide (a ≤ q - 1)) = true := h
    rw [Bool.and_eq_true, decide_eq_true_eq, decide_eq_true_eq] at h'
    exact ⟨a, rfl, h'.1, by omega⟩
theorem lev_ti {K : PySem.W.Frag} {H : Hp} {v : V} {ns : List Int} (h : Lev K H v (some (ns.map some))) : TI K H v ns ∧ ns.length ≤ 1000 := by
  obtain ⟨xs, ⟨a, rfl, ha⟩, hp, hl⟩ := h
  have e : xs = ns.map V.int := by
    clear ha hl
    induction ns generalizing xs with
    | nil => cases hp; rfl
    | cons c r ih =>
      cases hp with
      | cons h1 h2 =>
        have h1' : _ = V.int c := h1
        rw [h1', ih _ h2]
        rfl
  subst e
  rw [List.length_map] at hl
  exact ⟨⟨a, rfl, ha⟩, hl⟩
theorem Lev.same {K : PySem.W.Frag} {H H' : Hp} {v : V} {o : Option (List (Option Int))} (h : Lev K H v o) (e : Same H H') : Lev K H' v o := by
  cases o with
  | none => exact TupQ.same (o := none) h e
  | some os =>
    obtain ⟨xs, h1, h2, h3⟩ := h
    refine ⟨xs, TupQ.same h1 e, ?_, h3⟩
    clear h1 h3
    induction h2 with
    | nil => exact .nil
    | cons r _ ih => exact .cons (r.same e) ih
def Flies (E : XK) (C : Addr) (v : V) (H : Hp) : Prop := ∀ d, H d = none → E (.ref C) (some d) (upd H d (.xd [("thing", v)]))
theorem row_of {q n : Int} {o : Option (List (Option Int))} (h : rowQ q n o = true) : ∃ ns : List Int, o = some (ns.map some) ∧ IsRow q ns ∧ (ns.length : Int) = n := by
  cases o with
  | none => cases h
  | some os =>
    have h' : (os.all (inFrom 0 (q - 1)) && decide ((os.length : Int) = n)) = true := h
    rw [Bool.and_eq_true, decide_eq_true_eq] at h'
    obtain ⟨h1, h2⟩ := h'
    obtain ⟨ns, e, hr⟩ : ∃ ns : List Int, os = ns.map some ∧ IsRow q ns := by
      clear h h2
      induction os with
      | nil => exact ⟨[], rfl, fun c hc => by cases hc⟩
      | cons x r ih =>
        rw [List.all_cons, Bool.and_eq_true] at h1
        obtain ⟨ns, e, hr⟩ := ih h1.2
        obtain ⟨a, rfl, ha⟩ := fromL h1.1
        refine ⟨a :: ns, by rw [e]; rfl, fun c hc => ?_⟩
        rcases List.mem_cons.mp hc with rfl | hc
        · exact ha
        · exact hr c hc
    refine ⟨ns, by rw [e], hr, ?_⟩
    rw [e, List.length_map] at h2
    exact h2
theorem some_inj : ∀ {as bs : List Int}, as.map some = bs.map some → as = bs
  | [], [], _ => rfl
  | [], _ :: _, h => by cases h
  | _ :: _, [], h => by cases h
  | a :: as, b :: bs, h => by
    rw [List.map_cons, List.map_cons, List.cons.injEq] at h
    rw [Option.some.inj h.1, some_inj h.2]
section
variable {w : World} {K : PySem.W.Frag} {mg : Str → Option Value} {base : Heap}
theorem BookAt.same {C : Addr} {H H' : Hp} {b : Addr} {q n : Int} {Rs : List (List Int)} (h : BookAt K C H b q n Rs) (e : Same H H') : BookAt K C H' b q n Rs := by
  obtain ⟨dx, fs, z, h1, h2, h3, h4, h5, h6⟩ := h
  exact ⟨dx, fs, z, e _ _ h1, h2, h3, h4, h5, TupRows.same h6 e⟩
structure BookR (T : Txt K mg) (H : Hp) (b : Addr) (q : Int) (n : Nat) (Ps : List (Nat × List Int)) : Prop where
  at_ : BookAt K T.C_Book H b q n (Ps.map (·.2))
  rr : RR q n Ps
  lq : LetQ q
  n8 : n ≤ 8
theorem BookR.same {T : Txt K mg} {H H' : Hp} {b : Addr} {q : Int} {n : Nat} {Ps : List (Nat × List Int)} (h : BookR T H b q n Ps) (e : Same H H') : BookR T H' b q n Ps := ⟨h.at_.same e, h.rr, h.lq, h.n8⟩
theorem row_made {q : Int} {as : List Int} {m : Nat} (ra : IsRow q as) (la : as.length = m) : rowQ q (m : Nat) (some (as.map some)) = true := rowQ_row ra (by rw [la])
def spMade0 (T : Txt K mg) : Sp := fun vs H Q _ => ∃ (b : Addr) (q : Int) (n : Nat) (Ps : List (Nat × List Int)) (v : V) (as : List Int), vs = [.ref b, v] ∧ BookR T H b q n Ps ∧ TI K H v as ∧ IsRow q as ∧ as.length = Ps.length ∧
  ∀ z H', Same H H' → TI K H' z (comb q n as (Ps.map (·.2))) → Q z H'
theorem ok_made (T : Txt K mg) : FnOk P w K mg base CX0 6 T.a_made T.d_made P_made (spMade0 T) := by
  refine T.F_made.ok sc_made (fun vs H Q E h => ?_) (fun cdv A outer s H vs Q E hr h => ?_)
  · obtain ⟨b, q, n, Ps, v, as, rfl, _⟩ := h
    rfl
  · obtain ⟨b, q, n, Ps, v, as, rfl, hB, hv, ra, la, k⟩ := h
    refine ⟨_, 
      (pss_cons (ps_if (pt_not (pt_val (pe_call (ok_is_row T) (hr.mono (by decide)) rfl T.m_is_row T.F_is_row.kp T.b_is_row .nil pass0 (pa_cons (pe_fld (pv 0) rfl) (pa_cons (pe_fld (pv 0) rfl) (pa_cons (pv 1) pa_nil)))))) (pss_one ps_never) pss_nil)
      (pss_one (ps_ret (pe_call (ok_sum_of_rows T) (hr.mono (by decide)) rfl T.m_sum_of_rows T.F_sum_of_rows.kp T.b_sum_of_rows .nil pass0 (pa_cons (pe_fld (pv 0) rfl) (pa_cons (pe_fld (pv 0) rfl) (pa_cons (pv 1) (pa_cons (pe_fld (pv 0) rfl) pa_nil)))))))), ?_⟩
    obtain ⟨dx, fs, z, hb, bq, bn, br, bd, hz⟩ := hB.at_
    rw [List.length_map] at bd
    have lv := ti_lev hv (by have := rr_len hB.rr; have := hB.n8; omega)
    refine ⟨_, rfl, b, _, dx, fs, _, rfl, hb, T.cl_Book, T.no_Book_q, bq, _, rfl, b, _, dx, fs, _, rfl, hb, T.cl_Book, T.no_Book_dimension, bd, _, rfl, q, _, v, _, rfl, lv, fun H1 s1 => ⟨_, rfl, ?_⟩⟩
    rw [row_made ra la]
    refine iteF ?_
    have hb1 := s1 _ _ hb
    refine ⟨_, rfl, b, _, dx, fs, _, rfl, hb1, T.cl_Book, T.no_Book_q, bq, _, rfl, b, _, dx, fs, _, rfl, hb1, T.cl_Book, T.no_Book_n, bn, _, rfl, _, rfl, b, _, dx, fs, _, rfl, hb1, T.cl_Book, T.no_Book_rows, br, ?_⟩
    exact ⟨q, n, v, z, as, _, rfl, hB.lq, hB.n8, hv.same s1, ra, TupRows.same hz s1, hB.rr.rows, fun y H2 s2 hy => k y H2 (s1.trans s2) hy⟩
def spAtL (T : Txt K mg) : Sp := fun vs H Q _ => ∃ (b : Addr) (q : Int) (n : Nat) (Ps : List (Nat × List Int)) (v : V) (ws : List Int), vs = [.ref b, v] ∧ BookR T H b q n Ps ∧ TI K H v ws ∧ ws.length = n ∧
  ∀ z H', Same H H' → TI K H' z (atLeads Ps ws) → Q z H'
theorem ok_amounts_at_leads (T : Txt K mg) : FnOk P w K mg base CX0 4 T.a_amounts_at_leads T.d_amounts_at_leads P_amounts_at_leads (spAtL T) := by
  refine T.F_amounts_at_leads.ok sc_amounts_at_leads (fun vs H Q E h => ?_) (fun cdv A outer s H vs Q E hr h => ?_)
  · obtain ⟨b, q, n, Ps, v, ws, rfl, _⟩ := h
    rfl
  · obtain ⟨b, q, n, Ps, _, ws, rfl, hB, ⟨a, rfl, ha⟩, lw, k⟩ := h
    refine ⟨_, 
      (pss_one (ps_ret (pe_callTy call_tuple_of (by rfl) T.m_tuple (by decide +kernel) (pa_cons (pe_lc (own := [("lead", 2)]) (g := gName 2) (tt := tYes) rfl sc_amounts_at_leads.nd (pi_tup (pe_call (ok_leads T) (hr.mono (by decide)) rfl T.m_leads T.F_leads.kp T.b_leads .nil pass0 (pa_cons (pv 0) pa_nil))) (blkOk_by (own := [("lead", 2)]) (N := N_amounts_at_leads) (sc := (defScope s_amounts_at_leads)) (by decide +kernel)) (fun _ _ _ _ _ => (pg_name (i := 2) sc_amounts_at_leads.nd rfl (Or.inl rfl))) (fun _ _ _ _ _ => pts_nil) (fun _ _ _ _ _ => (pe_ix (r := rIxT K) ix_tup (pv 1) (pv 2) (fun _ _ => rfl)))) pa_nil)))), ?_⟩
    have n8 := hB.n8
    have lR := rr_len hB.rr
    refine ⟨_, rfl, b, q, n, Ps, rfl, hB.at_, hB.rr, hB.n8, fun z H1 s1 hz => ?_⟩
    obtain ⟨c, rfl, hc⟩ := hz
    refine ⟨c, rfl, ⟨_, hc⟩, fun L hL => ?_⟩
    refine lc_it (walk_tup (K := K) (a := c) (xs := (Ps.map fun x => (x.1 : Int)).map V.int))
      (fun i H' => Same H1 H' ∧ H' L = some (.lst (((Ps.take i).map fun x => ws.getD x.1 0).map V.int))) ⟨same_upd hL, upd_same⟩ (fun i H' _ ⟨e, _⟩ => e.tup hc) ?_ ?_
    · rintro i v _ H' hi ⟨e, hN⟩ ⟨rfl, hv⟩
      obtain ⟨m, hm, rfl⟩ := int_at hv
      obtain ⟨x, hx, rfl⟩ : ∃ x, Ps[i]? = some x ∧ m = (x.1 : Int) := by
        rw [List.getElem?_map] at hm
        cases e : Ps[i]? with
        | none =>
          rw [e] at hm
          cases hm
        | some x =>
          rw [e] at hm
          exact ⟨x, rfl, (Option.some.inj hm).symm⟩
      obtain ⟨xr, xl, xn, x0, x1⟩ := hB.rr.one x (List.mem_of_getElem? hx)
      refine ⟨rfl, ?_⟩
      refine ⟨_, rfl, _, rfl, a, _, _, .int (ws.getD x.1 0), rfl, rfl, (s1.trans e).tup ha, atI_nat (getD_at (by omega)), ?_⟩
      refine ⟨_, hN, ?_, same_set hL e, ?_⟩
      · rw [List.length_map, List.length_map, List.length_take]
        exact line_le (by omega)
      · rw [upd_same, List.take_add_one, hx, List.map_append, List.map_append]
        rfl
    rintro H2 ⟨s2, hL2⟩
    rw [List.length_map, List.length_map, List.take_length] at hL2
    refine ⟨L, _, rfl, .inl ⟨SqL.of hL2, fun p hp => ?_⟩⟩
    exact k _ _ (s1.trans (s2.trans (same_upd hp))) ⟨p, rfl, SqT.of upd_same⟩
def inBQ (q : Int) (n : Nat) (Ps : List (Nat × List Int)) (ws : List Int) : Bool := decide (InB q n Ps ws)
def wordQ (q : Int) (n : Nat) (Ps : List (Nat × List Int)) (o : Option (List (Option Int))) : Bool := rowQ q n o && inBQ q n Ps ((o.getD []).map (·.getD 0))
theorem got (ns : List Int) : ((some (ns.map some)).getD []).map (fun o : Option Int => o.getD 0) = ns := by
  show (ns.map some).map (fun o : Option Int => o.getD 0) = ns
  rw [List.map_map]
  exact List.map_id ns
def spIsWord (T : Txt K mg) : Sp := fun vs H Q _ => ∃ (b : Addr) (q : Int) (n : Nat) (Ps : List (Nat × List Int)) (v : V) (o : Option (List (Option Int))), vs = [.ref b, v] ∧ BookR T H b q n Ps ∧ Lev K H v o ∧ ∀ H', Same H H' → Q (.bl (wordQ q n Ps o)) H'
theorem ok_is_word (T : Txt K mg) : FnOk P w K mg base CX0 7 T.a_is_word T.d_is_word P_is_word (spIsWord T) := by
  refine T.F_is_word.ok sc_is_word (fun vs H Q E h => ?_) (fun cdv A outer s H vs Q E hr h => ?_)
  · obtain ⟨b, q, n, Ps, v, o, rfl, _⟩ := h
    rfl
  · obtain ⟨b, q, n, Ps, v, o, rfl, hB, hv, k⟩ := h
    refine ⟨_, 
      (pss_one (ps_ret (pe_and (pe_call (ok_is_row T) (hr.mono (by decide)) rfl T.m_is_row T.F_is_row.kp T.b_is_row .nil pass0 (pa_cons (pe_fld (pv 0) rfl) (pa_cons (pe_fld (pv 0) rfl) (pa_cons (pv 1) pa_nil)))) (pe_one (pe_cmpR (op_eqD hr.units) (pe_call (ok_made T) (hr.mono (by decide)) rfl T.m_made T.F_made.kp T.b_made .nil pass0 (pa_cons (pv 0) (pa_cons (pe_call (ok_amounts_at_leads T) (hr.mono (by decide)) rfl T.m_amounts_at_leads T.F_amounts_at_leads.kp T.b_amounts_at_leads .nil pass0 (pa_cons (pv 0) (pa_cons (pv 1) pa_nil))) pa_nil))) (pv 1) (nomark _)))))), ?_⟩
    obtain ⟨dx, fs, z, hb, bq, bn, br, bd, hz⟩ := hB.at_
    refine ⟨_, rfl, b, _, dx, fs, _, rfl, hb, T.cl_Book, T.no_Book_q, bq, _, rfl, b, _, dx, fs, _, rfl, hb, T.cl_Book, T.no_Book_n, bn, _, rfl, q, _, v, o, rfl, hv, fun H1 s1 => ⟨_, rfl, ?_⟩⟩
    unfold wordQ at k
    cases e : rowQ q n o with
    | false =>
      rw [e] at k
      exact iteF (k H1 s1)
    | true =>
      rw [e, Bool.true_and] at k
      obtain ⟨ws, rfl, rw_, lw⟩ := row_of e
      rw [got] at k
      have lw' : ws.length = n := by omega
      obtain ⟨ti, _⟩ := lev_ti (hv.same s1)
      refine iteT ⟨_, rfl, _, rfl, _, rfl, b, q, n, Ps, v, ws, rfl, hB.same s1, ti, lw', fun y H2 s2 hy => ?_⟩
      refine ⟨b, q, n, Ps, y, _, rfl, hB.same (s1.trans s2), hy, atLeads_row hB.lq rw_, List.length_map _, fun u H3 s3 hu => ?_⟩
      obtain ⟨c, rfl, hc⟩ := hu
      obtain ⟨a, rfl, ha⟩ := ti.same (s2.trans s3)
      refine ⟨_, rfl, _, _, .tup hc (dp_ints _), .tup ha (dp_ints ws), tup_shaped _, tup_shaped ws, ?_⟩
      rw [eqv_ints]
      exact k _ (s1.trans (s2.trans s3))
end
end K09
end
section
set_option maxRecDepth 100000
set_option maxHeartbeats 4000000
set_option exponentiation.threshold 9000
namespace K09
open PySem PySem.Spec PyProof.Rows L2 MB LM
open LamX hiding takes0
theorem cat_rows {K : PySem.W.Frag} {H : Hp} {u v : V} {As Bs : List (List Int)} {Q : VK} (hu : TupRows K H u As) (hv : TupRows K H v Bs) (hl : As.length + Bs.length ≤ 100000)
    (q : ∀ z H', Same H H' → TupRows K H' z (As ++ Bs) → Q z H') : rCatA K u v H Q := by
  obtain ⟨a, xs, rfl, ha, pa⟩ := hu
  obtain ⟨b, ys, rfl, hb, pb⟩ := hv
  refine ⟨a, b, xs, ys, rfl, rfl, ha, hb, by rw [pa.length, pb.length]; exact Nat.le_of_lt (line_le hl), fun e => ?_, fun _ e => ?_, fun _ _ p hp => q _ _ (same_upd hp) ⟨p, xs ++ ys, rfl, SqT.of upd_same, rows_same (same_upd hp) (paired_app pa pb)⟩⟩
  · subst e
    cases pa
    exact q _ _ (Same.refl _) ⟨b, ys, rfl, hb, pb⟩
  · subst e
    cases pb
    refine q _ _ (Same.refl _) ⟨a, xs, rfl, ha, ?_⟩
    rw [List.append_nil]
    exact pa
section
variable {w : World} {K : PySem.W.Frag} {mg : Str → Option Value} {base : Heap}
def spMirror (T : Txt K mg) : Sp := fun vs H Q _ => ∃ (b : Addr) (q : Int) (n : Nat) (Ps : List (Nat × List Int)), vs = [.ref b] ∧ BookR T H b q n Ps ∧ 1 ≤ n ∧ ∀ m Qs H', Same H H' → Mir q n Ps Qs → BookR T H' m q n Qs → Q (.ref m) H'
theorem ok_mirror (T : Txt K mg) : FnOk P w K mg base CX0 8 T.a_mirror T.d_mirror P_mirror (spMirror T) := by
  refine T.F_mirror.ok sc_mirror (fun vs H Q E h => ?_) (fun cdv A outer s H vs Q E hr h => ?_)
  · obtain ⟨b, q, n, Ps, rfl, _⟩ := h
    rfl
  · obtain ⟨b, q, n, Ps, rfl, hB, n1, k⟩ := h
    refine ⟨_, 
      (pss_one (ps_ret (pe_make T.mk_Book (ok_Book___init__ T) (hr.mono (by decide)) rfl T.g_Book T.b_Book___init__ .nil pass0 (pa_cons (pe_fld (pv 0) rfl) (pa_cons (pe_fld (pv 0) rfl) (pa_cons (pe_call (ok_check_rows T) (hr.mono (by decide)) rfl T.m_check_rows T.F_check_rows.kp T.b_check_rows .nil pass0 (pa_cons (pe_fld (pv 0) rfl) (pa_cons (pe_fld (pv 0) rfl) (pa_cons (pe_fld (pv 0) rfl) pa_nil)))) pa_nil)))))), ?_⟩
    obtain ⟨dx, fs, z, hb, bq, bn, br, bd, hz⟩ := hB.at_
    refine ⟨_, rfl, b, _, dx, fs, _, rfl, hb, T.cl_Book, T.no_Book_q, bq, _, rfl, b, _, dx, fs, _, rfl, hb, T.cl_Book, T.no_Book_n, bn, _, rfl, b, _, dx, fs, _, rfl, hb, T.cl_Book, T.no_Book_q, bq, _, rfl, b, _, dx, fs, _, rfl, hb, T.cl_Book, T.no_Book_n, bn, _, rfl, b, _, dx, fs, _, rfl, hb, T.cl_Book, T.no_Book_rows, br, ?_⟩
    refine ⟨q, n, z, Ps, rfl, hB.lq, hB.n8, hz, hB.rr, fun y H1 s1 hy => fun m dy hm hdx hne => ?_⟩
    have hm2 : (upd H1 dy (.own m)) m = none := by rw [upd_ne hne.symm]; exact hm
    obtain ⟨Qs, mir, eg⟩ := mir_of hB.lq hB.rr
    have fl := frees_len hB.rr
    have n8 := hB.n8
    refine ⟨H1, m, dy, q, n, y, chks q n Ps, rfl, (same_upd hdx).trans (same_upd hm2), hm, upd_same, hB.lq, ⟨n1, n8⟩, hy, chks_rows hB.lq hB.rr, (by unfold chks; rw [List.length_map]; omega), fun H2 s2 hbk => ⟨rfl, ?_⟩⟩
    rw [eg] at hbk
    exact k m Qs H2 (s1.trans s2) mir ⟨hbk, mir.r, hB.lq, n8⟩
def FlyB (E : XK) (C : Addr) (H : Hp) : Prop := E (.ref C) none H
def spCF (T : Txt K mg) : Sp := fun vs H Q E => ∃ (a b : Addr) (q n q' n' : Int) (Rs Rs' : List (List Int)), vs = [.ref a, .ref b] ∧ BookAt K T.C_Book H a q n Rs ∧ BookAt K T.C_Book H b q' n' Rs' ∧ (q ≠ q' → FlyB E T.C_OtherFields H) ∧ (q = q' → Q .non H)
theorem ok_check_fields (T : Txt K mg) : FnOk P w K mg base (L2.CX P w) 1 T.a_check_fields T.d_check_fields P_check_fields (spCF T) := by
  refine T.F_check_fields.okX sc_check_fields (fun vs H Q E h => ?_) (fun cdv A outer s H vs Q E hr h => ?_)
  · obtain ⟨a, b, q, n, q', n', Rs, Rs', rfl, _⟩ := h
    rfl
  · obtain ⟨a, b, q, n, q', n', Rs, Rs', rfl, ⟨dx, fs, z, ha, aq, an, ar, ad, hz⟩, ⟨dy, gs, y, hb, bq, bn, br, bd, hy⟩, bad, good⟩ := h
    refine ⟨_, 
      (pss_one (ps_if (pt_cmpR op_ne (pe_fld (pv 0) rfl) (pe_fld (pv 1) rfl) (nomark _)) (pss_one (ps_raiseBare (mg := mg) rfl T.e_OtherFields (takes_of rfl rfl rfl rfl) rfl)) pss_nil)), ?_⟩
    refine ⟨_, rfl, a, _, dx, fs, _, rfl, ha, T.cl_Book, T.no_Book_q, aq, _, rfl, b, _, dy, gs, _, rfl, hb, T.cl_Book, T.no_Book_q, bq, ?_⟩
    by_cases e : q = q'
    · subst e
      refine ⟨rfl, _, rfl, ?_⟩
      rw [decide_eq_true rfl]
      exact iteF (good rfl)
    · refine ⟨rfl, _, rfl, ?_⟩
      rw [decide_eq_false (fun z => e (V.int.inj z))]
      exact iteT (bad e)
def spCP (T : Txt K mg) : Sp := fun vs H Q E => ∃ (a b : Addr) (q n q' n' : Int) (Rs Rs' : List (List Int)), vs = [.ref a, .ref b] ∧ BookAt K T.C_Book H a q n Rs ∧ BookAt K T.C_Book H b q' n' Rs' ∧ (q ≠ q' → FlyB E T.C_OtherFields H) ∧ (q = q' → n ≠ n' → FlyB E T.C_OtherPlaces H) ∧ (q = q' → n = n' → Q .non H)
theorem ok_check_fields_and_places (T : Txt K mg) : FnOk P w K mg base (L2.CX P w) 2 T.a_check_fields_and_places T.d_check_fields_and_places P_check_fields_and_places (spCP T) := by
  refine T.F_check_fields_and_places.okX sc_check_fields_and_places (fun vs H Q E h => ?_) (fun cdv A outer s H vs Q E hr h => ?_)
  · obtain ⟨a, b, q, n, q', n', Rs, Rs', rfl, _⟩ := h
    rfl
  · obtain ⟨a, b, q, n, q', n', Rs, Rs', rfl, hA, hB, bad, bad2, good⟩ := h
    refine ⟨_, 
      (pss_cons (ps_expr (pe_callS (ok_check_fields T) (hr.mono (by decide)) rfl T.m_check_fields T.F_check_fields.kp T.b_check_fields (fun σ => passAt (takes_of rfl rfl rfl rfl) σ) (pa_cons (pv 0) (pa_cons (pv 1) pa_nil))))
      (pss_one (ps_if (pt_cmpR op_ne (pe_fld (pv 0) rfl) (pe_fld (pv 1) rfl) (nomark _)) (pss_one (ps_raiseBare (mg := mg) rfl T.e_OtherPlaces (takes_of rfl rfl rfl rfl) rfl)) pss_nil))), ?_⟩
    obtain ⟨dx, fs, z, ha, aq, an, ar, ad, hz⟩ := id hA
    obtain ⟨dy, gs, y, hb, bq, bn, br, bd, hy⟩ := id hB
    refine ⟨_, rfl, _, rfl, a, b, q, n, q', n', Rs, Rs', rfl, hA, hB, bad, fun e => ?_⟩
    refine ⟨_, rfl, a, _, dx, fs, _, rfl, ha, T.cl_Book, T.no_Book_n, an, _, rfl, b, _, dy, gs, _, rfl, hb, T.cl_Book, T.no_Book_n, bn, ?_⟩
    by_cases e2 : n = n'
    · subst e2
      refine ⟨rfl, _, rfl, ?_⟩
      rw [decide_eq_true rfl]
      exact iteF (good e rfl)
    · refine ⟨rfl, _, rfl, ?_⟩
      rw [decide_eq_false (fun z => e2 (V.int.inj z))]
      exact iteT (bad2 e e2)
structure Unfit (T : Txt K mg) (E : XK) (H : Hp) (q q' : Int) (n n' : Nat) : Prop where
  f : q ≠ q' → ∀ H', Same H H' → FlyB E T.C_OtherFields H'
  p : q = q' → n ≠ n' → ∀ H', Same H H' → FlyB E T.C_OtherPlaces H'
theorem Unfit.same {T : Txt K mg} {E : XK} {H H' : Hp} {q q' : Int} {n n' : Nat} (h : Unfit T E H q q' n n') (e : Same H H') : Unfit T E H' q q' n n' := ⟨fun a G s => h.f a G (e.trans s), fun a b G s => h.p a b G (e.trans s)⟩
def spSumOf (T : Txt K mg) : Sp := fun vs H Q E => ∃ (a b : Addr) (q q' : Int) (n n' : Nat) (Ps Rs : List (Nat × List Int)), vs = [.ref a, .ref b] ∧ BookR T H a q n Ps ∧ BookR T H b q' n' Rs ∧ 1 ≤ n ∧ Unfit T E H q q' n n' ∧
  (q = q' → n = n' → ∀ m Ts H', Same H H' → RR q n Ts → SpE q n (Ps.map (·.2) ++ Rs.map (·.2)) (Ts.map (·.2)) → BookR T H' m q n Ts → Q (.ref m) H')
theorem ok_sum_of (T : Txt K mg) : FnOk P w K mg base (L2.CX P w) 8 T.a_sum_of T.d_sum_of P_sum_of (spSumOf T) := by
  refine T.F_sum_of.okX sc_sum_of (fun vs H Q E h => ?_) (fun cdv A outer s H vs Q E hr h => ?_)
  · obtain ⟨a, b, q, q', n, n', Ps, Rs, rfl, _⟩ := h
    rfl
  · obtain ⟨a, b, q, q', n, n', Ps, Rs, rfl, hA, hB, n1, un, k⟩ := h
    refine ⟨_, 
      (pss_cons (ps_expr (pe_callS (ok_check_fields_and_places T) (hr.mono (by decide)) rfl T.m_check_fields_and_places T.F_check_fields_and_places.kp T.b_check_fields_and_places (fun σ => passAt (takes_of rfl rfl rfl rfl) σ) (pa_cons (pv 0) (pa_cons (pv 1) pa_nil))))
      (pss_one (ps_ret (pe_make T.mk_Book (ok_Book___init__ T) (hr.mono (by decide)) rfl T.g_Book T.b_Book___init__ .nil pass0 (pa_cons (pe_fld (pv 0) rfl) (pa_cons (pe_fld (pv 0) rfl) (pa_cons (pe_op op_catA (pe_fld (pv 0) rfl) (pe_fld (pv 1) rfl)) pa_nil))))))), ?_⟩
    obtain ⟨dx, fs, z, ha, aq, an, ar, ad, hz⟩ := id hA.at_
    obtain ⟨dy, gs, y, hb, bq, bn, br, bd, hy⟩ := id hB.at_
    refine ⟨_, rfl, _, rfl, a, b, q, n, q', n', _, _, rfl, hA.at_, hB.at_, fun e => un.f e _ (Same.refl _), fun e e2 => un.p e (fun z => e2 (by rw [z])) _ (Same.refl _), fun e e2 => ?_⟩
    have e3 : n = n' := Int.ofNat.inj e2
    subst e
    subst e3
    refine ⟨_, rfl, a, _, dx, fs, _, rfl, ha, T.cl_Book, T.no_Book_q, aq, _, rfl, a, _, dx, fs, _, rfl, ha, T.cl_Book, T.no_Book_n, an, _, rfl, a, _, dx, fs, _, rfl, ha, T.cl_Book, T.no_Book_rows, ar, _, rfl, b, _, dy, gs, _, rfl, hb, T.cl_Book, T.no_Book_rows, br, ?_⟩
    have l1 := rr_len hA.rr
    have l2 := rr_len hB.rr
    have n8 := hA.n8
    refine cat_rows hz hy (by rw [List.length_map, List.length_map]; omega) fun y2 H1 s1 hy2 => fun m dz hm hdx hne => ?_
    have hm2 : (upd H1 dz (.own m)) m = none := by rw [upd_ne hne.symm]; exact hm
    have wA := allR_app hA.rr.rows hB.rr.rows
    obtain ⟨Ts, t1, t2, t3⟩ := gauss_gen hA.lq wA
    refine ⟨H1, m, dz, q, n, y2, _, rfl, (same_upd hdx).trans (same_upd hm2), hm, upd_same, hA.lq, ⟨n1, n8⟩, hy2, wA, (by rw [List.length_append, List.length_map, List.length_map]; omega), fun H2 s2 hbk => ⟨rfl, ?_⟩⟩
    rw [t2] at hbk
    exact k rfl rfl m Ts H2 (s1.trans s2) t1 t3 ⟨hbk, t1, hA.lq, n8⟩
def spCommon (T : Txt K mg) : Sp := fun vs H Q E => ∃ (a b : Addr) (q q' : Int) (n n' : Nat) (Ps Rs : List (Nat × List Int)), vs = [.ref a, .ref b] ∧ BookR T H a q n Ps ∧ BookR T H b q' n' Rs ∧ 1 ≤ n ∧ 1 ≤ n' ∧ Unfit T E H q q' n n' ∧
  (q = q' → n = n' → ∀ m Ms Ns Ts Cs H', Same H H' → Mir q n Ps Ms → Mir q n Rs Ns → RR q n Ts → SpE q n (Ms.map (·.2) ++ Ns.map (·.2)) (Ts.map (·.2)) → Mir q n Ts Cs → BookR T H' m q n Cs → Q (.ref m) H')
theorem ok_common (T : Txt K mg) : FnOk P w K mg base (L2.CX P w) 9 T.a_common T.d_common P_common (spCommon T) := by
  refine T.F_common.okX sc_common (fun vs H Q E h => ?_) (fun cdv A outer s H vs Q E hr h => ?_)
  · obtain ⟨a, b, q, q', n, n', Ps, Rs, rfl, _⟩ := h
    rfl
  · obtain ⟨a, b, q, q', n, n', Ps, Rs, rfl, hA, hB, n1, n1', un, k⟩ := h
    refine ⟨_, 
      (pss_one (ps_ret (pe_call (ok_mirror T) (hr.mono (by decide)) rfl T.m_mirror T.F_mirror.kp T.b_mirror .nil pass0 (pa_cons (pe_callS (ok_sum_of T) (hr.mono (by decide)) rfl T.m_sum_of T.F_sum_of.kp T.b_sum_of (fun σ => passAt (takes_of rfl rfl rfl rfl) σ) (pa_cons (pe_call (ok_mirror T) (hr.mono (by decide)) rfl T.m_mirror T.F_mirror.kp T.b_mirror .nil pass0 (pa_cons (pv 0) pa_nil)) (pa_cons (pe_call (ok_mirror T) (hr.mono (by decide)) rfl T.m_mirror T.F_mirror.kp T.b_mirror .nil pass0 (pa_cons (pv 1) pa_nil)) pa_nil))) pa_nil)))), ?_⟩
    refine ⟨_, rfl, a, q, n, Ps, rfl, hA, n1, fun m1 Ms H1 s1 mir1 hM => ⟨_, rfl, b, q', n', Rs, rfl, hB.same s1, n1', fun m2 Ns H2 s2 mir2 hN => ?_⟩⟩
    refine ⟨m1, m2, q, q', n, n', Ms, Ns, rfl, hM.same s2, hN, n1, un.same (s1.trans s2), fun e e2 m3 Ts H3 s3 rt et hT => ?_⟩
    subst e
    subst e2
    exact ⟨m3, q, n, Ts, rfl, hT, n1, fun m4 Cs H4 s4 mir3 hC => k rfl rfl m4 Ms Ns Ts Cs H4 (((s1.trans s2).trans s3).trans s4) mir1 mir2 rt et mir3 hC⟩
def spWithin (T : Txt K mg) : Sp := fun vs H Q E => ∃ (a b : Addr) (q q' : Int) (n n' : Nat) (Ps Rs : List (Nat × List Int)), vs = [.ref a, .ref b] ∧ BookR T H a q n Ps ∧ BookR T H b q' n' Rs ∧ Unfit T E H q q' n n' ∧
  (q = q' → n = n' → ∀ (c : Bool) H', Same H H' → (c = true ↔ ∀ r ∈ Ps.map (·.2), Sp q n (Rs.map (·.2)) r) → Q (.bl c) H')
theorem ok_is_within (T : Txt K mg) : FnOk P w K mg base (L2.CX P w) 8 T.a_is_within T.d_is_within P_is_within (spWithin T) := by
  refine T.F_is_within.okX sc_is_within (fun vs H Q E h => ?_) (fun cdv A outer s H vs Q E hr h => ?_)
  · obtain ⟨a, b, q, q', n, n', Ps, Rs, rfl, _⟩ := h
    rfl
  · obtain ⟨a, b, q, q', n, n', Ps, Rs, rfl, hA, hB, un, k⟩ := h
    refine ⟨_, 
      (pss_cons (ps_expr (pe_callS (ok_check_fields_and_places T) (hr.mono (by decide)) rfl T.m_check_fields_and_places T.F_check_fields_and_places.kp T.b_check_fields_and_places (fun σ => passAt (takes_of rfl rfl rfl rfl) σ) (pa_cons (pv 0) (pa_cons (pv 1) pa_nil))))
      (pss_one (ps_ret (pe_callB (id := "all") (r := rAll K) (cr_all rfl) (by rfl) T.m_all (by decide +kernel) (pa_cons (pe_lc (own := [("row", 2)]) (g := gName 2) (tt := tYes) rfl sc_is_within.nd (pi_tup (pe_fld (pv 0) rfl)) (blkOk_by (own := [("row", 2)]) (N := N_is_within) (sc := (defScope s_is_within)) (by decide +kernel)) (fun _ _ _ _ _ => (pg_name (i := 2) sc_is_within.nd rfl (Or.inl rfl))) (fun _ _ _ _ _ => pts_nil) (fun _ _ _ _ _ => (pe_call (ok_is_word T) (hr.mono (by decide)) rfl T.m_is_word T.F_is_word.kp T.b_is_word .nil pass0 (pa_cons (pv 1) (pa_cons (pv 2) pa_nil))))) pa_nil))))), ?_⟩
    obtain ⟨dx, fs, z, ha, aq, an, ar, ad, hz⟩ := id hA.at_
    refine ⟨_, rfl, _, rfl, a, b, q, n, q', n', _, _, rfl, hA.at_, hB.at_, fun e => un.f e _ (Same.refl _), fun e e2 => un.p e (fun z => e2 (by rw [z])) _ (Same.refl _), fun e e2 => ?_⟩
    have e3 : n = n' := Int.ofNat.inj e2
    subst e
    subst e3
    obtain ⟨c, vs, rfl, hc, pc⟩ := id hz
    refine ⟨_, rfl, a, _, dx, fs, _, rfl, ha, T.cl_Book, T.no_Book_rows, ar, c, rfl, ⟨vs, hc⟩, fun L hL => ?_⟩
    have pl := pc.length
    refine lc_it (walk_tup (K := K) (a := c) (xs := vs)) (fun i H' => Same H H' ∧ ∃ bs : List Bool, H' L = some (.lst (bs.map V.bl)) ∧ bs = (((Ps.map (·.2)).take i).map fun r => wordQ q n Rs (some (r.map some)))) ⟨same_upd hL, [], upd_same, rfl⟩ (fun i H' _ ⟨e, _⟩ => e.tup hc) ?_ ?_
    · rintro i v _ H' hi ⟨e, bs, hN, eb⟩ ⟨rfl, hv⟩
      obtain ⟨r, hr2, ti⟩ := paired_at pc hv
      have wr := hA.rr.rows r (List.mem_of_getElem? hr2)
      have n8 := hA.n8
      have lR := rr_len hA.rr
      refine ⟨rfl, ?_⟩
      refine ⟨_, rfl, _, rfl, b, q, n, Rs, v, _, rfl, hB.same e, ti_lev (ti.same e) (by rw [wr.2]; omega), fun H2 s2 => ?_⟩
      refine ⟨_, s2 _ _ hN, ?_, same_set hL (e.trans s2), bs ++ [wordQ q n Rs (some (r.map some))], ?_, ?_⟩
      · rw [List.length_map, eb, List.length_map, List.length_take]
        rw [List.length_map] at pl ⊢
        exact line_le (by omega)
      · rw [upd_same, List.map_append]
        rfl
      · rw [List.take_add_one, hr2, List.map_append, eb]
        rfl
    rintro H1 ⟨s1, bs, hL1, eb⟩
    rw [pl, List.take_length] at eb
    refine ⟨L, bs, rfl, SqL.of hL1, k rfl rfl _ _ s1 ?_⟩
    rw [eb, List.all_map, List.all_eq_true]
    have one : ∀ r ∈ Ps.map (·.2), (wordQ q n Rs (some (r.map some)) = true ↔ Sp q n (Rs.map (·.2)) r) := fun r hr => by
      have wr := hA.rr.rows r hr
      unfold wordQ
      rw [rowQ_row wr.1 (by rw [wr.2]), Bool.true_and, got]
      unfold inBQ
      rw [decide_eq_true_iff]
      exact ⟨fun h => in_sp hA.lq hB.rr wr.1 h, fun h => sp_in hA.lq hB.rr h⟩
    exact ⟨fun h r hr => (one r hr).mp (h r hr), fun h r hr => (one r hr).mpr (h r hr)⟩
def spSumOf0 (T : Txt K mg) : Sp := fun vs H Q _ => ∃ (a b : Addr) (q : Int) (n : Nat) (Ps Rs : List (Nat × List Int)), vs = [.ref a, .ref b] ∧ BookR T H a q n Ps ∧ BookR T H b q n Rs ∧ 1 ≤ n ∧
  ∀ m Ts H', Same H H' → RR q n Ts → SpE q n (Ps.map (·.2) ++ Rs.map (·.2)) (Ts.map (·.2)) → BookR T H' m q n Ts → Q (.ref m) H'
theorem unfit0 {T : Txt K mg} {E : XK} {H : Hp} {q : Int} {n : Nat} : Unfit T E H q q n n := ⟨fun h => absurd rfl h, fun _ h => absurd rfl h⟩
theorem ok0_sum_of (T : Txt K mg) : FnOk P w K mg base CX0 8 T.a_sum_of T.d_sum_of P_sum_of (spSumOf0 T) :=
  (MB.FnOk.quiet (ok_sum_of T)).imp fun vs H Q E ⟨a, b, q, n, Ps, Rs, e, hA, hB, n1, k⟩ => ⟨a, b, q, q, n, n, Ps, Rs, e, hA, hB, n1, unfit0, fun _ _ => k⟩
def spCommon0 (T : Txt K mg) : Sp := fun vs H Q _ => ∃ (a b : Addr) (q : Int) (n : Nat) (Ps Rs : List (Nat × List Int)), vs = [.ref a, .ref b] ∧ BookR T H a q n Ps ∧ BookR T H b q n Rs ∧ 1 ≤ n ∧
  ∀ m Ms Ns Ts Cs H', Same H H' → Mir q n Ps Ms → Mir q n Rs Ns → RR q n Ts → SpE q n (Ms.map (·.2) ++ Ns.map (·.2)) (Ts.map (·.2)) → Mir q n Ts Cs → BookR T H' m q n Cs → Q (.ref m) H'
theorem ok0_common (T : Txt K mg) : FnOk P w K mg base CX0 9 T.a_common T.d_common P_common (spCommon0 T) :=
  (MB.FnOk.quiet (ok_common T)).imp fun vs H Q E ⟨a, b, q, n, Ps, Rs, e, hA, hB, n1, k⟩ => ⟨a, b, q, q, n, n, Ps, Rs, e, hA, hB, n1, n1, unfit0, fun _ _ => k⟩
def spWithin0 (T : Txt K mg) : Sp := fun vs H Q _ => ∃ (a b : Addr) (q : Int) (n : Nat) (Ps Rs : List (Nat × List Int)), vs = [.ref a, .ref b] ∧ BookR T H a q n Ps ∧ BookR T H b q n Rs ∧
  ∀ (c : Bool) H', Same H H' → (c = true ↔ ∀ r ∈ Ps.map (·.2), Sp q n (Rs.map (·.2)) r) → Q (.bl c) H'
theorem ok0_is_within (T : Txt K mg) : FnOk P w K mg base CX0 8 T.a_is_within T.d_is_within P_is_within (spWithin0 T) :=
  (MB.FnOk.quiet (ok_is_within T)).imp fun vs H Q E ⟨a, b, q, n, Ps, Rs, e, hA, hB, k⟩ => ⟨a, b, q, q, n, n, Ps, Rs, e, hA, hB, unfit0, fun _ _ => k⟩
end
end K09
end
section
set_option maxRecDepth 100000
set_option maxHeartbeats 8000000
set_option exponentiation.threshold 9000
namespace K09
open PySem PySem.Spec PyProof.Rows L2 MB LM
open LamX hiding takes0
theorem TI.but {d l : Addr} {K : PySem.W.Frag} {H H' : Hp} {v : V} {ns : List Int} (h : TI K H v ns) (D : Deck kL H d l) (e : But d l H H') : TI K H' v ns := by
  obtain ⟨a, rfl, ha⟩ := h
  exact ⟨a, rfl, e.tup D ha⟩
theorem rows_but {d l : Addr} {K : PySem.W.Frag} {H H' : Hp} {vs : List V} {Ls : List (List Int)} (D : Deck kL H d l) (e : But d l H H') (h : Paired (TI K H) vs Ls) : Paired (TI K H') vs Ls := by
  induction h with
  | nil => exact .nil
  | cons r _ ih => exact .cons (r.but D e) ih
theorem TI.lst {K : PySem.W.Frag} {H : Hp} {b : Addr} {ys : List V} {o : HO} {v : V} {ns : List Int} (hb : H b = some (.lst ys)) (h : TI K H v ns) : TI K (upd H b o) v ns := by
  obtain ⟨a, rfl, ha⟩ := h
  exact ⟨a, rfl, sqT_lst hb ha⟩
theorem rows_lst {K : PySem.W.Frag} {H : Hp} {b : Addr} {ys : List V} {o : HO} {vs : List V} {Ls : List (List Int)} (hb : H b = some (.lst ys)) (h : Paired (TI K H) vs Ls) : Paired (TI K (upd H b o)) vs Ls := by
  induction h with
  | nil => exact .nil
  | cons r _ ih => exact .cons (r.lst hb) ih
theorem rows_extN {K : PySem.W.Frag} {H H' : Hp} {vs : List V} {Ls : List (List Int)} (e : ExtN H H') (h : Paired (TI K H) vs Ls) : Paired (TI K H') vs Ls := by
  induction h with
  | nil => exact .nil
  | cons r _ ih =>
    obtain ⟨a, rfl, ha⟩ := r
    exact .cons ⟨a, rfl, MB.SqT.extN e ha⟩ ih
structure SomeE (K : PySem.W.Frag) (d l L : Addr) (q : Int) (n m : Nat) (vs : List V) (Ms : List (List Int)) (H : Hp) : Prop where
  li : H L = some (.lst vs)
  nd : L ≠ d
  nl : L ≠ l
  pr : Paired (TI K H) vs Ms
  al : AllR q n Ms
  le : Ms.length ≤ m
section
variable {K : PySem.W.Frag} {d l L : Addr} {q : Int} {n m : Nat} {vs : List V} {Ms : List (List Int)} {H H' : Hp}
theorem SomeE.but (h : SomeE K d l L q n m vs Ms H) (D : Deck kL H d l) (e : But d l H H') : SomeE K d l L q n m vs Ms H' := ⟨e _ _ h.li h.nd h.nl, h.nd, h.nl, rows_but D e h.pr, h.al, h.le⟩
theorem SomeE.same (h : SomeE K d l L q n m vs Ms H) (e : Same H H') : SomeE K d l L q n m vs Ms H' := ⟨e _ _ h.li, h.nd, h.nl, rows_same e h.pr, h.al, h.le⟩
theorem SomeE.ext (h : SomeE K d l L q n m vs Ms H) (e : ExtN H H') : SomeE K d l L q n m vs Ms H' := ⟨e _ _ h.li (by intro ps z; cases z), h.nd, h.nl, rows_extN e h.pr, h.al, h.le⟩
theorem SomeE.mono {m' : Nat} (h : SomeE K d l L q n m vs Ms H) (hm : m ≤ m') : SomeE K d l L q n m' vs Ms H := ⟨h.li, h.nd, h.nl, h.pr, h.al, Nat.le_trans h.le hm⟩
end
section
variable {w : World} {K : PySem.W.Frag} {mg : Str → Option Value} {base : Heap}
def spLRows (K : PySem.W.Frag) : Sp := fun vs H Q _ => ∃ (d l : Addr) (q : Int) (n : Nat), vs = [.ref d, .int q, .int (n : Int)] ∧ Deck kL H d l ∧ LetQ q ∧ 1 ≤ n ∧ n ≤ 8 ∧
  ∀ L vs Ms H', H L = none → But d l H H' → Deck kL H' d l → SomeE K d l L q n 9 vs Ms H' → Q (.ref L) H'
theorem ok__law_rows (T : Txt K mg) : FnOk P w K mg base CX0 2 T.a__law_rows T.d__law_rows P__law_rows (spLRows K) := by
  refine T.F__law_rows.ok sc__law_rows (fun vs H Q E h => ?_) (fun cdv A outer s H vs Q E hr h => ?_)
  · obtain ⟨d, l, q, n, rfl, _⟩ := h
    rfl
  · obtain ⟨d, l, q, n, rfl, D, hq, n1, n8, k⟩ := h
    refine ⟨_, 
      (pss_cons (ps_set (i := 3) sc__law_rows.nd rfl (Or.inl rfl) (pe_lst pa_nil))
      (pss_cons (ps_for PassesOwn.never rfl (pi_range1 rfl T.m_range (pa_cons (pe_call (ok__law_draw T) (hr.mono (by decide)) rfl T.m__law_draw T.F__law_draw.kp T.b__law_draw .nil pass0 (pa_cons (pv 0) (pa_cons pe_int pa_nil))) pa_nil)) (pg_name (i := 4) sc__law_rows.nd rfl (Or.inl rfl)) (pss_cons (ps_par (i := 5) (j := 6) (by rfl) sc__law_rows.nd rfl rfl (by decide) rfl rfl (pa_cons (pe_call (ok__law_draw T) (hr.mono (by decide)) rfl T.m__law_draw T.F__law_draw.kp T.b__law_draw .nil pass0 (pa_cons (pv 0) (pa_cons pe_int pa_nil))) (pa_cons (pe_lc (own := [("_law_at", 8)]) (g := gName 8) (tt := tYes) rfl sc__law_rows.nd (pi_range1 rfl T.m_range (pa_cons (pv 2) pa_nil)) (blkOk_by (own := [("_law_at", 8)]) (N := N__law_rows) (sc := (defScope s__law_rows)) (by decide +kernel)) (fun _ _ _ _ _ => (pg_name (i := 8) sc__law_rows.nd rfl (Or.inl rfl))) (fun _ _ _ _ _ => pts_nil) (fun _ _ _ _ _ => (pe_call (ok__law_draw T) (hr.mono (by decide)) rfl T.m__law_draw T.F__law_draw.kp T.b__law_draw .nil pass0 (pa_cons (pv 0) (pa_cons (pv 1) pa_nil))))) pa_nil)) (by rfl))
      (pss_cons (ps_set (i := 7) sc__law_rows.nd rfl (Or.inr rfl) (pe_call (ok__law_draw T) (hr.mono (by decide)) rfl T.m__law_draw T.F__law_draw.kp T.b__law_draw .nil pass0 (pa_cons (pv 0) (pa_cons (pv 2) pa_nil))))
      (pss_cons (ps_if (pt_cmpR op_eq (pv 5) pe_int (nomark _)) (pss_one (ps_setLc (i := 6) (own := [("_law_x", 9)]) (g := gName 9) (tt := tYes) rfl sc__law_rows.nd rfl rfl (sw_true rfl rfl rfl (by decide +kernel)) (pi_list (pv 6)) (blkOk_by (own := [("_law_x", 9)]) (N := N__law_rows) (sc := (defScope s__law_rows)) (by decide +kernel)) (fun _ _ _ _ _ => (pg_name (i := 9) sc__law_rows.nd rfl (Or.inl rfl))) (fun _ _ _ _ _ => pts_nil) (fun _ _ _ _ _ => (pe_ifExp (pt_cmpR op_eq (pe_call (ok__law_draw T) (hr.mono (by decide)) rfl T.m__law_draw T.F__law_draw.kp T.b__law_draw .nil pass0 (pa_cons (pv 0) (pa_cons pe_int pa_nil))) pe_int (nomark _)) (pv 9) pe_int)))) pss_nil)
      (pss_cons (ps_if (pt_cmpR op_eq (pv 5) pe_int (nomark _)) (pss_one (ps_setLc (i := 6) (own := [("_law_at", 8), ("_law_x", 9)]) (g := gTup K 2 (gCons (gName 8) (gCons (gName 9) gNil))) (tt := tYes) rfl sc__law_rows.nd rfl rfl (sw_true rfl rfl rfl (by decide +kernel)) (pi_enum (by rfl) T.m_enumerate (pa_cons (pv 6) pa_nil)) (blkOk_by (own := [("_law_at", 8), ("_law_x", 9)]) (N := N__law_rows) (sc := (defScope s__law_rows)) (by decide +kernel)) (fun _ _ _ _ _ => (pg_tup rfl (pgs_cons (pg_name (i := 8) sc__law_rows.nd rfl (Or.inl rfl)) (pgs_cons (pg_name (i := 9) sc__law_rows.nd rfl (Or.inl rfl)) pgs_nil)))) (fun _ _ _ _ _ => pts_nil) (fun _ _ _ _ _ => (pe_ifExp (pt_cmpR (show OpR _ _ (rIn K false) from op_in_seq) (pv 8) (pe_tup (pa_cons (pv 7) (pa_cons (pe_op op_sub (pv 2) pe_int) pa_nil))) rfl) (pv 9) pe_int)))) pss_nil)
      (pss_one (ps_expr (pe_bm PySem.F.plainAttrs_list PySem.F.slot_list_append PySem.F.type_list_append mt_append (pv 3) (pa_cons (pe_callTy call_tuple_of (by rfl) T.m_tuple (by decide +kernel) (pa_cons (pv 6) pa_nil)) pa_nil)))))))))
      (pss_one (ps_ret (pv 3))))), ?_⟩
    have q2 := hq.lo
    have q5 := hq.hi
    refine ⟨line_s (show 0 ≤ 100000 by decide), fun L hL => ?_⟩
    obtain ⟨L1, L2⟩ := D.off hL
    have hN0 : (upd H L (.lst [])) L = some (.lst []) := upd_same
    have b1 := (But.refl (d := d) (l := l)).upd hL (o := .lst [])
    have D1 := D.upd L1 L2 (o := .lst [])
    dsimp only [gName]
    generalize upd H L (.lst []) = H1 at hN0 b1 D1 ⊢
    refine ⟨_, rfl, d, l, 10, rfl, by decide, by decide, D1, fun r H2 r0 r1 e2 D2 => ?_⟩
    have b2 := b1.trans e2
    have hN2 := e2 _ _ hN0 L1 L2
    refine ⟨_, rfl, by omega, by omega, for_range (lo := 0) (n := r.toNat)
      (fun i σ' G => ∃ (u4 u5 u6 u7 : Option V) (vs : List V) (Ms : List (List Int)), σ' = [some (.ref d), some (.int q), some (.int (n : Int)), some (.ref L), u4, u5, u6, u7, none, none] ∧ But d l H G ∧ Deck kL G d l ∧ SomeE K d l L q n i vs Ms G)
      ⟨none, none, none, none, [], [], rfl, b2, D2, hN2, L1, L2, .nil, (fun _ h => by cases h), Nat.le_refl _⟩ ?_ ?_⟩
    · rintro i _ G hi ⟨u4, u5, u6, u7, vs, Ms, rfl, b3, D3, S3⟩
      have hi9 : i < 9 := by omega
      clear hN0 b1 D1 b2 hN2 D2 e2
      dsimp only [gName]
      refine (seq_cut (fun σ' G' => ∃ (way : Int) (S : Addr) (ns : List Int), σ' = [some (.ref d), some (.int q), some (.int (n : Int)), some (.ref L), some (.int (0 + (i : Int))), some (.int way), some (.ref S), u7, none, none] ∧ But d l G G' ∧ Deck kL G' d l ∧ S ≠ d ∧ S ≠ l ∧ ns.length = n ∧ IsRow q ns ∧ G' S = some (.lst (ns.map V.int))) (fun D' go => ?_) ?_)
      · refine ⟨_, rfl, d, l, 3, rfl, by decide, by decide, D3, fun way G4 w0 w1 e4 D4 => ⟨_, rfl, _, rfl, by omega, by omega, fun S hS => ?_⟩⟩
        obtain ⟨Sd, Sl⟩ := D4.off hS
        refine lc_it (walk_range (lo := 0) (n := (n : Int).toNat))
          (fun j G' => But d l G4 G' ∧ Deck kL G' d l ∧ ∃ ns : List Int, ns.length = j ∧ IsRow q ns ∧ G' S = some (.lst (ns.map V.int)))
          ⟨(But.refl (d := d) (l := l)).upd hS, D4.upd Sd Sl, [], rfl, (fun _ h => by cases h), upd_same⟩ (fun _ _ _ _ => trivial) ?_ ?_
        · rintro j x G5 _ hj ⟨e5, D5, ns, hn, hr5, hM5⟩ ⟨rfl, rfl⟩
          refine ⟨rfl, ?_⟩
          refine ⟨_, rfl, _, rfl, d, l, q, rfl, by omega, Nat.lt_of_le_of_lt (show q.natAbs ≤ 5 by omega) (by decide), D5, fun c G6 c0 c1 e6 D6 => ?_⟩
          have hM6 := e6 _ _ hM5 Sd Sl
          refine ⟨_, hM6, ?_, (e5.trans e6).upd hS, D6.upd Sd Sl, ns ++ [c], by rw [List.length_append, hn]; rfl, ?_, ?_⟩
          · rw [List.length_map, hn]
            exact line_le (by omega)
          · intro z hz
            rcases List.mem_append.mp hz with hz | hz
            · exact hr5 z hz
            · rw [List.mem_singleton.mp hz]
              exact ⟨c0, c1⟩
          · rw [upd_same, List.map_append]
            rfl
        · rintro G5 ⟨e5, D5, ns, hn, hr5, hM5⟩
          exact ⟨_, _, rfl, go _ _ ⟨way, S, ns, rfl, e4.trans e5, D5, Sd, Sl, by omega, hr5, hM5⟩⟩
      rintro _ G4 ⟨way, S, ns, rfl, e4, D4, Sd, Sl, ln, rn, hS4⟩
      refine ⟨_, rfl, _, rfl, d, l, (n : Int), rfl, by omega, Nat.lt_of_le_of_lt (show (n : Int).natAbs ≤ 8 by omega) (by decide), D4, fun spot G5 p0 p1 e5 D5 => ?_⟩
      dsimp only [gName]
      have e45 := e4.trans e5
      have hS5 := e5 _ _ hS4 Sd Sl
      clear hS4 D4 e4 e5
      refine (seq_cutI (fun σ' G' => ∃ (S : Addr) (ns : List Int), σ' = [some (.ref d), some (.int q), some (.int (n : Int)), some (.ref L), some (.int (0 + (i : Int))), some (.int way), some (.ref S), some (.int spot), none, none] ∧ But d l G G' ∧ Deck kL G' d l ∧ S ≠ d ∧ S ≠ l ∧ ns.length = n ∧ IsRow q ns ∧ G' S = some (.lst (ns.map V.int))) (fun D' go => ?_) ?_)
      · refine ⟨_, rfl, rfl, _, rfl, ?_⟩
        refine ite2 (fun _ => ?_) (fun _ => go _ _ ⟨S, ns, rfl, e45, D5, Sd, Sl, ln, rn, hS5⟩)
        refine ⟨_, rfl, S, rfl, ⟨_, SqL.of hS5⟩, fun Z hZ => ?_⟩
        obtain ⟨Zd, Zl⟩ := D5.off hZ
        refine lc_it (walk_list (K := K) (a := S) (xs := ns.map V.int))
          (fun j G' => But d l G5 G' ∧ Deck kL G' d l ∧ ∃ ms : List Int, ms.length = j ∧ IsRow q ms ∧ G' Z = some (.lst (ms.map V.int)))
          ⟨(But.refl (d := d) (l := l)).upd hZ, D5.upd Zd Zl, [], rfl, (fun _ h => by cases h), upd_same⟩ (fun j G' _ ⟨e, _⟩ => SqL.of (e _ _ hS5 Sd Sl)) ?_ ?_
        · rintro j v _ G6 hj ⟨e6, D6, ms, hm, hr6, hM6⟩ ⟨rfl, hv⟩
          obtain ⟨c, hc, rfl⟩ := int_at hv
          have lc := rn c (List.mem_of_getElem? hc)
          have put : ∀ (x : Int) (G' : Hp), IsLet q x → But d l G6 G' → Deck kL G' d l → ∃ acc, G' Z = some (.lst acc) ∧ acc.length < sizeLine ∧ But d l G5 (upd G' Z (.lst (acc ++ [.int x]))) ∧ Deck kL (upd G' Z (.lst (acc ++ [.int x]))) d l ∧
              ∃ ms : List Int, ms.length = j + 1 ∧ IsRow q ms ∧ (upd G' Z (.lst (acc ++ [.int x]))) Z = some (.lst (ms.map V.int)) := fun x G' lx eG DG => by
            refine ⟨_, eG _ _ hM6 Zd Zl, by rw [List.length_map, hm]; rw [List.length_map] at hj; exact line_le (by omega), (e6.trans eG).upd hZ, DG.upd Zd Zl, ms ++ [x], by rw [List.length_append, hm]; rfl, fun z hz => ?_, by rw [upd_same, List.map_append]; rfl⟩
            rcases List.mem_append.mp hz with hz | hz
            · exact hr6 z hz
            · rw [List.mem_singleton.mp hz]
              exact lx
          refine ⟨rfl, ?_⟩
          refine ⟨_, rfl, d, l, 2, rfl, by decide, by decide, D6, fun r' G7 _ _ e7 D7 => ⟨rfl, _, rfl, ?_⟩⟩
          refine ite2 (fun _ => ⟨_, rfl, put c G7 lc e7 D7⟩) (fun _ => put 0 G7 (let_zero hq) e7 D7)
        · rintro G6 ⟨e6, D6, ms, hm, hr6, hM6⟩
          rw [List.length_map, ln] at hm
          exact go _ _ ⟨Z, ms, rfl, e45.trans e6, D6, Zd, Zl, hm, hr6, hM6⟩
      rintro _ G6 ⟨S, ns, rfl, e6, D6, Sd, Sl, ln, rn, hS6⟩
      clear e45 hS5 D5
      refine (seq_cutI (fun σ' G' => ∃ (S : Addr) (ns : List Int), σ' = [some (.ref d), some (.int q), some (.int (n : Int)), some (.ref L), some (.int (0 + (i : Int))), some (.int way), some (.ref S), some (.int spot), none, none] ∧ But d l G G' ∧ Deck kL G' d l ∧ S ≠ d ∧ S ≠ l ∧ ns.length = n ∧ IsRow q ns ∧ G' S = some (.lst (ns.map V.int))) (fun D' go => ?_) ?_)
      · refine ⟨_, rfl, rfl, _, rfl, ?_⟩
        refine ite2 (fun _ => ?_) (fun _ => go _ _ ⟨S, ns, rfl, e6, D6, Sd, Sl, ln, rn, hS6⟩)
        refine ⟨_, rfl, S, _, rfl, SqL.of hS6, fun Z hZ => ?_⟩
        obtain ⟨Zd, Zl⟩ := D6.off hZ
        refine lc_it (walk_enum (K := K) (a := S) (xs := ns.map V.int))
          (fun j G' => But d l G6 G' ∧ Deck kL G' d l ∧ ∃ ms : List Int, ms.length = j ∧ IsRow q ms ∧ G' Z = some (.lst (ms.map V.int)))
          ⟨(But.refl (d := d) (l := l)).upd hZ, D6.upd Zd Zl, [], rfl, (fun _ h => by cases h), upd_same⟩ (fun j G' _ ⟨e, _⟩ => SqL.of (e _ _ hS6 Sd Sl)) ?_ ?_
        · rintro j v G7 _ hj ⟨e7, D7, ms, hm, hr7, hM7⟩ ⟨T0, x0, y0, rfl, hT0, rfl, hx0, hy0⟩
          obtain rfl : x0 = V.int (j : Nat) := (Option.some.inj hx0).symm
          obtain ⟨c, hc, rfl⟩ := int_at hy0
          have lc := rn c (List.mem_of_getElem? hc)
          have put : ∀ (x : Int) (G' : Hp), IsLet q x → But d l G7 G' → Deck kL G' d l → ∃ acc, G' Z = some (.lst acc) ∧ acc.length < sizeLine ∧ But d l G6 (upd G' Z (.lst (acc ++ [.int x]))) ∧ Deck kL (upd G' Z (.lst (acc ++ [.int x]))) d l ∧
              ∃ ms : List Int, ms.length = j + 1 ∧ IsRow q ms ∧ (upd G' Z (.lst (acc ++ [.int x]))) Z = some (.lst (ms.map V.int)) := fun x G' lx eG DG => by
            refine ⟨_, eG _ _ hM7 Zd Zl, by rw [List.length_map, hm]; rw [List.length_map] at hj; exact line_le (by omega), (e7.trans eG).upd hZ, DG.upd Zd Zl, ms ++ [x], by rw [List.length_append, hm]; rfl, fun z hz => ?_, by rw [upd_same, List.map_append]; rfl⟩
            rcases List.mem_append.mp hz with hz | hz
            · exact hr7 z hz
            · rw [List.mem_singleton.mp hz]
              exact lx
          have s8 := same_upd (o := .tup [.int (j : Nat), .int c]) hT0
          have D8 := D7.same s8
          refine ⟨T0, _, rfl, SqT.of upd_same, rfl, _, _, rfl, _, _, rfl, rfl, rfl, ?_⟩
          refine ⟨_, rfl, _, rfl, _, rfl, _, _, rfl, rfl, line_s (show 2 ≤ 100000 by decide), fun p hp => ?_⟩
          have s9 := same_upd (o := .tup [.int spot, .int ((n : Int) - 1)]) hp
          refine ⟨p, _, rfl, .inr (SqT.of upd_same), rfl, rfl, _, rfl, ?_⟩
          refine ite2 (fun _ => ⟨_, rfl, put c _ lc (But.of (s8.trans s9)) (D8.same s9)⟩) (fun _ => put 0 _ (let_zero hq) (But.of (s8.trans s9)) (D8.same s9))
        · rintro G7 ⟨e7, D7, ms, hm, hr7, hM7⟩
          rw [List.length_map, ln] at hm
          exact go _ _ ⟨Z, ms, rfl, e6.trans e7, D7, Zd, Zl, hm, hr7, hM7⟩
      rintro _ G7 ⟨S, ns, rfl, e7, D7, Sd, Sl, ln, rn, hS7⟩
      clear e6 D6 hS6
      have S7 := S3.but D3 e7
      have lv := S7.pr.length
      have lM := S7.le
      refine ⟨_, rfl, .inl ⟨rfl, _, SqL.of S7.li⟩, _, rfl, S, _, rfl, .inl ⟨SqL.of hS7, fun p hp => ?_⟩⟩
      have s8 := same_upd (o := .tup (ns.map V.int)) hp
      have S8 := S7.same s8
      refine ⟨L, _, _, rfl, rfl, S8.li, line_le (by omega), ?_⟩
      refine ⟨_, _, _, _, vs ++ [.ref p], Ms ++ [ns], rfl, ((b3.trans e7).same s8).upd hL, (D7.same s8).upd L1 L2, upd_same, L1, L2, rows_lst S8.li (paired_app S8.pr (.cons ⟨p, rfl, SqT.of upd_same⟩ .nil)), ?_, by rw [List.length_append]; exact Nat.succ_le_succ lM⟩
      exact allR_app S8.al (allR_one ⟨rn, ln⟩)
    · rintro _ G ⟨u4, u5, u6, u7, vs, Ms, rfl, b3, D3, S3⟩
      exact ⟨_, rfl, k L vs Ms G hL b3 D3 (S3.mono (by omega))⟩
end
end K09
end
section
set_option maxRecDepth 100000
set_option maxHeartbeats 8000000
set_option exponentiation.threshold 9000
namespace K09
open PySem PySem.Spec PyProof.Rows L2 MB LM
open LamX hiding takes0
theorem ite_t {c : Bool} {a b : Prop} (e : c = true) (h : a) : if c = true then a else b := by rw [if_pos e]; exact h
theorem ite_n {c : Bool} {a b : Prop} (e : c = true) (h : b) : if (!c) = true then a else b := by rw [e]; exact h
theorem tell2 {q n : Int} (hq : q.natAbs < 100) (hn : n.natAbs < 100) : Told (.tuple [.int q, .int n]) := by
  have h42 : (10 : Nat) ^ 42 > 100 := by decide
  exact (sz_tup (szAll_cons (sz_int (b := 0) (k := 0) (by omega)) (szAll_cons (sz_int (b := 0) (by omega)) (szAll_nil (b := 0))))).told (by decide) (by decide)
section
variable {w : World} {K : PySem.W.Frag} {mg : Str → Option Value} {base : Heap}
def spWP (K : PySem.W.Frag) : Sp := fun vs H Q _ => ∃ (q : Int) (u v : V) (ns ms : List Int), vs = [.int q, u, v] ∧ LetQ q ∧ TI K H u ns ∧ TI K H v ms ∧ IsRow q ns ∧ IsRow q ms ∧ ns.length ≤ 1000 ∧ ∀ H', Same H H' → Q (.int (rowP q ns ms)) H'
theorem ok__law_product (T : Txt K mg) : FnOk P w K mg base CX0 2 T.a__law_product T.d__law_product P__law_product (spWP K) := by
  refine T.F__law_product.ok sc__law_product (fun vs H Q E h => ?_) (fun cdv A outer s H vs Q E hr h => ?_)
  · obtain ⟨q, u, v, ns, ms, rfl, _⟩ := h
    rfl
  · obtain ⟨q, _, _, ns, ms, rfl, hq, ⟨a, rfl, ha⟩, ⟨b, rfl, hb⟩, r1, r2, hl, k⟩ := h
    refine ⟨_, 
      (pss_cons (ps_set (i := 3) sc__law_product.nd rfl (Or.inl rfl) (pe_tup (pa_cons pe_int pa_nil)))
      (pss_cons (ps_for PassesOwn.never rfl (RZ.pi_zipA (by rfl) T.m_zip (pa_cons (pv 1) (pa_cons (pv 2) pa_nil))) (pg_tup rfl (pgs_cons (pg_name (i := 4) sc__law_product.nd rfl (Or.inl rfl)) (pgs_cons (pg_name (i := 5) sc__law_product.nd rfl (Or.inl rfl)) pgs_nil))) (pss_one (ps_set (i := 3) sc__law_product.nd rfl (Or.inl rfl) (pe_call (ok__law_plus T) (hr.mono (by decide)) rfl T.m__law_plus T.F__law_plus.kp T.b__law_plus .nil pass0 (pa_cons (pv 0) (pa_cons (pv 3) (pa_cons (pe_tup (pa_cons (pe_call (ok__law_by T) (hr.mono (by decide)) rfl T.m__law_by T.F__law_by.kp T.b__law_by .nil pass0 (pa_cons (pv 0) (pa_cons (pv 4) (pa_cons (pv 5) pa_nil)))) pa_nil)) pa_nil)))))))
      (pss_one (ps_ret (pe_ix (r := rIxT K) ix_tup (pv 3) pe_int (fun _ _ => rfl)))))), ?_⟩
    refine ⟨line_s (by decide), fun p0 hp0 => ?_⟩
    refine ⟨_, rfl, _, rfl, a, b, _, _, rfl, .inr ⟨sqT_same (same_upd hp0) ha, sqT_same (same_upd hp0) hb, ?_⟩⟩
    refine for_it (walk_zipT (K := K) (a := a) (b := b) (xs := ns.map V.int) (ys := ms.map V.int) rfl)
      (fun i σ H' => ∃ f u4 u5, σ = [some (.int q), some (.ref a), some (.ref b), some (.ref f), u4, u5] ∧ Same H H' ∧ SqT K H' f [.int (((ns.zip ms).take i).foldl (fun t p => lsum q t (ltim q p.1 p.2)) 0)])
      ⟨p0, none, none, rfl, same_upd hp0, SqT.of upd_same⟩ (fun i σ H' _ ⟨_, _, _, _, e, _⟩ => ⟨e.tup ha, e.tup hb⟩) ?_ ?_
    · rintro i x _ H' H'' hi ⟨f, u4, u5, rfl, e, hf⟩ ⟨T0, x1, y1, rfl, hT0, rfl, hx, hy⟩
      obtain ⟨c, hc, rfl⟩ := int_at hx
      obtain ⟨d, hd, rfl⟩ := int_at hy
      have lc := r1 c (List.mem_of_getElem? hc)
      have ld := r2 d (List.mem_of_getElem? hd)
      refine ⟨T0, _, rfl, SqT.of upd_same, rfl, _, _, rfl, _, _, rfl, rfl, ?_⟩
      have s1 := same_upd (o := .tup [.int c, .int d]) hT0
      refine ⟨_, rfl, _, rfl, _, rfl, _, rfl, _, rfl, q, c, d, rfl, hq, lc, ld, fun H3 s3 => ⟨line_s (Nat.le_of_ble_eq_true rfl), fun p hp => ?_⟩⟩
      have s13 := (s1.trans s3).trans (same_upd (o := .tup [.int (wby q c d)]) hp)
      refine ⟨q, _, _, [_], [wby q c d], rfl, hq, ⟨f, rfl, sqT_same s13 hf⟩, ⟨p, rfl, SqT.of upd_same⟩, by simp, fun z H4 s4 hz => ?_⟩
      obtain ⟨g, rfl, hg⟩ := hz
      refine ⟨g, some (.int c), some (.int d), rfl, e.trans (s13.trans s4), ?_⟩
      rw [zip_next hc hd, List.foldl_append]
      rw [by_eq hq lc ld] at hg
      exact hg
    · rintro _ H' ⟨f, u4, u5, rfl, e, hf⟩
      have z := k H' e
      unfold rowP at z
      rw [List.take_of_length_le (by rw [List.length_map, List.length_map, List.length_zip]; exact Nat.le_refl _)] at hf
      exact ⟨_, rfl, f, _, 0, _, rfl, rfl, hf, atI_nat (j := 0) rfl, z⟩
def spAChk (K : PySem.W.Frag) : Sp := fun vs H Q _ => ∃ (q : Int) (n : Nat) (u v : V) (As Bs : List (List Int)), vs = [.int q, u, v] ∧ LetQ q ∧ n ≤ 8 ∧ TupRows K H u As ∧ TupRows K H v Bs ∧ AllR q n As ∧ AllR q n Bs ∧ As.length ≤ 100 ∧ Bs.length ≤ 100 ∧ (∀ r ∈ As, ∀ s ∈ Bs, dot q r s = 0) ∧ ∀ H', Same H H' → Q (.bl true) H'
theorem ok__law_are_checks (T : Txt K mg) : FnOk P w K mg base CX0 3 T.a__law_are_checks T.d__law_are_checks P__law_are_checks (spAChk K) := by
  refine T.F__law_are_checks.ok sc__law_are_checks (fun vs H Q E h => ?_) (fun cdv A outer s H vs Q E hr h => ?_)
  · obtain ⟨q, n, u, v, As, Bs, rfl, _⟩ := h
    rfl
  · obtain ⟨q, n, _, _, As, Bs, rfl, hq, n8, ⟨a, xs, rfl, ha, pa⟩, ⟨b, ys, rfl, hb, pb⟩, wA, wB, lA, lB, hd, k⟩ := h
    refine ⟨_, 
      (pss_cons (ps_for PassesOwn.never rfl (pi_tup (pv 1)) (pg_name (i := 3) sc__law_are_checks.nd rfl (Or.inr rfl)) (pss_one (ps_if (pt_cmpR (op_neNil hr.units) (pe_lc (own := [("_law_other", 4)]) (g := gName 4)  rfl sc__law_are_checks.nd (pi_tup (pv 2)) (blkOk_by (own := [("_law_other", 4)]) (N := N__law_are_checks) (sc := (defScope s__law_are_checks)) (by decide +kernel)) (fun _ _ _ _ _ => (pg_name (i := 4) sc__law_are_checks.nd rfl (Or.inl rfl))) (fun _ _ _ _ _ => (pts_one (pt_cmpR op_gt (pe_call (ok__law_product T) (hr.mono (by decide)) rfl T.m__law_product T.F__law_product.kp T.b__law_product .nil pass0 (pa_cons (pv 0) (pa_cons (pv 3) (pa_cons (pv 4) pa_nil)))) pe_int (nomark _)))) (fun _ _ _ _ _ => (pv 4))) (pe_lst pa_nil) (nomark _)) (pss_one (ps_ret pe_bl)) pss_nil)))
      (pss_one (ps_ret pe_bl))), ?_⟩
    refine ⟨_, rfl, a, rfl, ⟨xs, ha⟩, for_it (walk_tup (K := K) (a := a) (xs := xs))
      (fun i σ' G => ∃ u3 : Option V, σ' = [some (.int q), some (.ref a), some (.ref b), u3, none] ∧ Same H G)
      ⟨none, rfl, Same.refl _⟩ (fun i σ' G _ ⟨_, _, e⟩ => e.tup ha) ?_ ?_⟩
    · rintro i v _ G G' hi ⟨u3, rfl, e⟩ ⟨rfl, hv⟩
      obtain ⟨r, hr2, tr⟩ := paired_at pa hv
      have mr := List.mem_of_getElem? hr2
      have wr := wA r mr
      refine ⟨_, rfl, b, rfl, ⟨ys, e.tup hb⟩, fun Z hZ => ?_⟩
      refine lc_it (walk_tup (K := K) (a := b) (xs := ys)) (fun j G2 => Same G' G2 ∧ G2 Z = some (.lst [])) ⟨same_upd hZ, upd_same⟩ (fun j G2 _ ⟨e2, _⟩ => (e.trans e2).tup hb) ?_ ?_
      · rintro j v2 _ G2 hj ⟨e2, hN⟩ ⟨rfl, hv2⟩
        obtain ⟨s', hs2, ts⟩ := paired_at pb hv2
        have ms := List.mem_of_getElem? hs2
        have ws := wB s' ms
        have e02 := e.trans e2
        refine ⟨rfl, ?_⟩
        refine ⟨_, rfl, _, rfl, _, rfl, q, v, v2, r, s', rfl, hq, tr.same e02, ts.same e02, wr.1, ws.1, by rw [wr.2]; omega, fun G3 s3 => ?_⟩
        rw [rowP_dot hq wr.1 ws.1, hd r mr s' ms]
        refine ⟨_, _, rfl, rfl, _, rfl, ?_⟩
        rw [show decide ((0 : Int) < 0) = false from rfl]
        exact iteF ⟨e2.trans s3, s3 _ _ hN⟩
      · rintro G2 ⟨e2, hN⟩
        refine ⟨line_s (Nat.zero_le _), fun N2 hN2 => ⟨Z, N2, _, rfl, rfl, SqL.of (same_upd hN2 _ _ hN), SqL.of upd_same, _, rfl, iteF ?_⟩⟩
        exact ⟨_, rfl, e.trans (e2.trans (same_upd hN2))⟩
    · rintro _ G ⟨u3, rfl, e⟩
      exact k G e
def spIsMir (T : Txt K mg) : Sp := fun vs H Q _ => ∃ (a b : Addr) (q : Int) (n : Nat) (Ps Qs : List (Nat × List Int)), vs = [.int q, .int (n : Int), .ref a, .ref b] ∧ BookR T H a q n Ps ∧ BookR T H b q n Qs ∧ Mir q n Ps Qs ∧ ∀ H', Same H H' → Q (.bl true) H'
theorem ok__law_is_mirror (T : Txt K mg) (sm : SM base) : FnG P w K mg base 4 T.a__law_is_mirror T.d__law_is_mirror P__law_is_mirror (spIsMir T) := by
  refine fnG T.F__law_is_mirror sc__law_is_mirror (fun vs H Q E h => ?_) (fun cdv A outer s H vs Q E hr hgu h => ?_)
  · obtain ⟨a, b, q, n, Ps, Qs, rfl, _⟩ := h
    rfl
  · obtain ⟨a, b, q, n, Ps, Qs, rfl, hA, hB, mir, k⟩ := h
    refine ⟨_, 
      (pss_cons (ps_if (PW.pt (pw_or (pt_not (pt_val (pe_callB (id := "isinstance") (r := rIsi K) call_isi (by rfl) T.m_isinstance (by decide +kernel) (pa_cons (pv 3) (pa_cons (pe_glob (v := .ref T.C_Book) rfl T.g_Book rfl) pa_nil))))) (pw_or (pt_not (pt_val (pe_callG (ok__law_are_reduced T sm) (hr.mono (by decide)) hgu rfl T.m__law_are_reduced T.F__law_are_reduced.kp T.b__law_are_reduced (pa_cons (pv 0) (pa_cons (pv 1) (pa_cons (pe_fld (pv 3) rfl) pa_nil)))))) (pw_or1 (pt_cmpR op_ne (pe_callB (call_tell sm hgu hr.units) (by rfl) T.m_repr (by decide +kernel) (pa_cons (pe_tup (pa_cons (pe_fld (pv 3) rfl) (pa_cons (pe_fld (pv 3) rfl) pa_nil))) pa_nil)) (pe_callB (call_tell sm hgu hr.units) (by rfl) T.m_repr (by decide +kernel) (pa_cons (pe_tup (pa_cons (pv 0) (pa_cons (pv 1) pa_nil))) pa_nil)) (nomark _)))))) (pss_one (ps_ret pe_bl)) pss_nil)
      (pss_one (ps_ret (pe_and (pe_chain op_eq op_eq (pe_fld (pv 3) rfl) (pe_callB call_len_seq (by rfl) T.m_len (by decide +kernel) (pa_cons (pe_fld (pv 3) rfl) pa_nil)) (pe_op op_sub (pv 1) (pe_callB call_len_seq (by rfl) T.m_len (by decide +kernel) (pa_cons (pe_fld (pv 2) rfl) pa_nil)))) (pe_one (pe_call (ok__law_are_checks T) (hr.mono (by decide)) rfl T.m__law_are_checks T.F__law_are_checks.kp T.b__law_are_checks .nil pass0 (pa_cons (pv 0) (pa_cons (pe_fld (pv 3) rfl) (pa_cons (pe_fld (pv 2) rfl) pa_nil))))))))), ?_⟩
    have hq := hA.lq
    have n8 := hA.n8
    have q2 := hq.lo
    have q5 := hq.hi
    have lP := rr_len hA.rr
    have lQ := rr_len hB.rr
    have ml := mir.len hq
    obtain ⟨dx, fs, zz, hb, bq, bn, br, bd, c, vc, rfl, hc, pc⟩ := id hB.at_
    obtain ⟨dy, gs, zy, ha, aq, an, ar, ad, e, ve, rfl, he, pe⟩ := id hA.at_
    rw [List.length_map] at bd
    have lc : vc.length = Qs.length := by rw [pc.length, List.length_map]
    have le : ve.length = Ps.length := by rw [pe.length, List.length_map]
    refine ⟨_, rfl, _, _, _, _, _, rfl, .own T.C_Book, ty_book T hb, kit_self, true, rfl, iteF ?_⟩
    refine ⟨_, rfl, _, rfl, _, rfl, b, _, dx, fs, _, rfl, hb, T.cl_Book, T.no_Book_rows, br, q, n, _, Qs, rfl, hq, n8, hB.rr, ⟨c, vc, rfl, hc, pc⟩, fun H1 s1 => ⟨true, rfl, iteF ?_⟩⟩
    have hb1 := s1 _ _ hb
    refine ⟨_, rfl, b, _, dx, fs, _, rfl, hb1, T.cl_Book, T.no_Book_q, bq, _, rfl, b, _, dx, fs, _, rfl, hb1, T.cl_Book, T.no_Book_n, bn, line_s (show 2 ≤ 100000 by decide), fun p2 hp2 => ?_⟩
    have s2 := same_upd (o := .tup [.int q, .int (n : Int)]) hp2
    have told := tell2 (q := q) (n := n) (by omega) (by omega)
    refine ⟨_, .tuple [.int q, .int (n : Int)], rfl, .tup (SqT.of upd_same) (.cons (.int _) (.cons (.int _) .nil)), told, ?_⟩
    refine ⟨_, rfl, _, rfl, line_s (show 2 ≤ 100000 by decide), fun p3 hp3 => ?_⟩
    have s3 := same_upd (o := .tup [.int q, .int (n : Int)]) hp3
    refine ⟨_, .tuple [.int q, .int (n : Int)], rfl, .tup (SqT.of upd_same) (.cons (.int _) (.cons (.int _) .nil)), told, rfl, _, rfl, ?_⟩
    rw [decide_eq_true rfl]
    refine iteF ?_
    have s13 := s1.trans (s2.trans s3)
    generalize upd (upd H1 p2 (.tup [.int q, .int (n : Int)])) p3 (.tup [.int q, .int (n : Int)]) = H3 at s13 ⊢
    have hb3 := s13 _ _ hb
    have ha3 := s13 _ _ ha
    have hc3 := s13.tup hc
    have he3 := s13.tup he
    dsimp only [tNext]
    refine ⟨_, rfl, b, _, dx, fs, _, rfl, hb3, T.cl_Book, T.no_Book_dimension, bd, ?_⟩
    refine ⟨_, rfl, b, _, dx, fs, _, rfl, hb3, T.cl_Book, T.no_Book_rows, br, c, vc, rfl, .inr hc3, rfl, _, rfl, ?_⟩
    rw [lc, decide_eq_true rfl]
    refine iteT ⟨_, rfl, _, rfl, a, _, dy, gs, _, rfl, ha3, T.cl_Book, T.no_Book_rows, ar, e, ve, rfl, .inr he3, _, _, rfl, rfl, rfl, _, rfl, ?_⟩
    refine ite_t (decide_eq_true (congrArg V.int (show ((Qs.length : Nat) : Int) = (n : Int) - ((ve.length : Nat) : Int) by omega))) ⟨_, rfl, _, rfl, b, _, dx, fs, _, rfl, hb3, T.cl_Book, T.no_Book_rows, br, _, rfl, a, _, dy, gs, _, rfl, ha3, T.cl_Book, T.no_Book_rows, ar, ?_⟩
    refine ⟨q, n, _, _, _, _, rfl, hq, n8, ⟨c, vc, rfl, hc3, rows_same s13 pc⟩, ⟨e, ve, rfl, he3, rows_same s13 pe⟩, hB.rr.rows, hA.rr.rows, by rw [List.length_map]; omega, by rw [List.length_map]; omega, fun r hr s hs => ?_, fun H4 s4 => k _ (s13.trans s4)⟩
    have wr := hB.rr.rows r hr
    rw [dot_comm hq wr.1 (hA.rr.rows s hs).1]
    exact (mir.iff hq wr).mp (.row hq hB.rr.rows hr) s hs
def spIsCom (T : Txt K mg) : Sp := fun vs H Q _ => ∃ (a1 a2 b : Addr) (q : Int) (n : Nat) (Ps Rs Cs : List (Nat × List Int)), vs = [.int q, .int (n : Int), .ref a1, .ref a2, .ref b] ∧ BookR T H a1 q n Ps ∧ BookR T H a2 q n Rs ∧ BookR T H b q n Cs ∧ Com q n Ps Rs Cs ∧ ∀ H', Same H H' → Q (.bl true) H'
theorem ok__law_is_common (T : Txt K mg) (sm : SM base) : FnG P w K mg base 4 T.a__law_is_common T.d__law_is_common P__law_is_common (spIsCom T) := by
  refine fnG T.F__law_is_common sc__law_is_common (fun vs H Q E h => ?_) (fun cdv A outer s H vs Q E hr hgu h => ?_)
  · obtain ⟨a1, a2, b, q, n, Ps, Rs, Cs, rfl, _⟩ := h
    rfl
  · obtain ⟨a1, a2, b, q, n, Ps, Rs, Cs, rfl, hA, hA2, hB, com, k⟩ := h
    refine ⟨_, 
      (pss_cons (ps_par (i := 5) (j := 6) (by rfl) sc__law_is_common.nd rfl rfl (by decide) rfl rfl (pa_cons (pe_callTy call_list_of (by rfl) T.m_list (by decide +kernel) (pa_cons (pe_fld (pv 2) rfl) pa_nil)) (pa_cons (pe_callTy call_list_of (by rfl) T.m_list (by decide +kernel) (pa_cons (pe_fld (pv 3) rfl) pa_nil)) pa_nil)) (by rfl))
      (pss_cons (ps_if (PW.pt (pw_or (pt_not (pt_val (pe_callB (id := "isinstance") (r := rIsi K) call_isi (by rfl) T.m_isinstance (by decide +kernel) (pa_cons (pv 4) (pa_cons (pe_glob (v := .ref T.C_Book) rfl T.g_Book rfl) pa_nil))))) (pw_or (pt_not (pt_val (pe_callG (ok__law_are_reduced T sm) (hr.mono (by decide)) hgu rfl T.m__law_are_reduced T.F__law_are_reduced.kp T.b__law_are_reduced (pa_cons (pv 0) (pa_cons (pv 1) (pa_cons (pe_fld (pv 4) rfl) pa_nil)))))) (pw_or1 (pt_cmpR op_ne (pe_callB (call_tell sm hgu hr.units) (by rfl) T.m_repr (by decide +kernel) (pa_cons (pe_tup (pa_cons (pe_fld (pv 4) rfl) (pa_cons (pe_fld (pv 4) rfl) pa_nil))) pa_nil)) (pe_callB (call_tell sm hgu hr.units) (by rfl) T.m_repr (by decide +kernel) (pa_cons (pe_tup (pa_cons (pv 0) (pa_cons (pv 1) pa_nil))) pa_nil)) (nomark _)))))) (pss_one (ps_ret pe_bl)) pss_nil)
      (pss_cons (ps_if (pt_not (pt_chain op_eq op_eq (pe_fld (pv 4) rfl) (pe_callB call_len_seq (by rfl) T.m_len (by decide +kernel) (pa_cons (pe_fld (pv 4) rfl) pa_nil)) (pe_op op_sub (pe_op op_add (pe_callB call_len_seq (by rfl) T.m_len (by decide +kernel) (pa_cons (pv 5) pa_nil)) (pe_callB call_len_seq (by rfl) T.m_len (by decide +kernel) (pa_cons (pv 6) pa_nil))) (pe_call (ok__law_rank T) (hr.mono (by decide)) rfl T.m__law_rank T.F__law_rank.kp T.b__law_rank .nil pass0 (pa_cons (pv 0) (pa_cons (pe_op op_cat (pv 5) (pv 6)) pa_nil)))))) (pss_one (ps_ret pe_bl)) pss_nil)
      (pss_one (ps_ret (pe_and (pe_cmpR op_eq (pe_call (ok__law_rank T) (hr.mono (by decide)) rfl T.m__law_rank T.F__law_rank.kp T.b__law_rank .nil pass0 (pa_cons (pv 0) (pa_cons (pe_op op_cat (pv 5) (pe_callTy call_list_of (by rfl) T.m_list (by decide +kernel) (pa_cons (pe_fld (pv 4) rfl) pa_nil))) pa_nil))) (pe_callB call_len_seq (by rfl) T.m_len (by decide +kernel) (pa_cons (pv 5) pa_nil)) (nomark _)) (pe_one (pe_cmpR op_eq (pe_call (ok__law_rank T) (hr.mono (by decide)) rfl T.m__law_rank T.F__law_rank.kp T.b__law_rank .nil pass0 (pa_cons (pv 0) (pa_cons (pe_op op_cat (pv 6) (pe_callTy call_list_of (by rfl) T.m_list (by decide +kernel) (pa_cons (pe_fld (pv 4) rfl) pa_nil))) pa_nil))) (pe_callB call_len_seq (by rfl) T.m_len (by decide +kernel) (pa_cons (pv 6) pa_nil)) (nomark _))))))))), ?_⟩
    have hq := hA.lq
    have n8 := hA.n8
    have q2 := hq.lo
    have q5 := hq.hi
    have lP := rr_len hA.rr
    have lR := rr_len hA2.rr
    have lC := rr_len hB.rr
    have ml := com.rank hq
    obtain ⟨dx, fs, zz, hb, bq, bn, br, bd, c, vc, rfl, hc, pc⟩ := id hB.at_
    obtain ⟨dy, gs, zy, ha, aq, an, ar, ad, e, ve, rfl, he, pe⟩ := id hA.at_
    obtain ⟨dz, gz, zw, hd, dq, dn, dr, dd, f, vf, rfl, hf, pf⟩ := id hA2.at_
    rw [List.length_map] at bd
    have lc : vc.length = Cs.length := by rw [pc.length, List.length_map]
    have le : ve.length = Ps.length := by rw [pe.length, List.length_map]
    have lf : vf.length = Rs.length := by rw [pf.length, List.length_map]
    dsimp only [gName]
    refine (seq_cut (fun σ' G => ∃ l1 l2 : Addr, σ' = [some (.int q), some (.int (n : Int)), some (.ref a1), some (.ref a2), some (.ref b), some (.ref l1), some (.ref l2)] ∧ Same H G ∧ G l1 = some (.lst ve) ∧ G l2 = some (.lst vf)) (fun D' go => ?_) ?_)
    · refine ⟨_, rfl, a1, _, dy, gs, _, rfl, ha, T.cl_Book, T.no_Book_rows, ar, e, ve, rfl, .inr he, fun l1 hl1 => ?_⟩
      have s1 := same_upd (o := .lst ve) hl1
      have g1 : (upd H l1 (.lst ve)) l1 = some (.lst ve) := upd_same
      generalize upd H l1 (.lst ve) = H1 at s1 g1 ⊢
      refine ⟨_, rfl, a2, _, dz, gz, _, rfl, s1 _ _ hd, T.cl_Book, T.no_Book_rows, dr, f, vf, rfl, .inr (s1.tup hf), fun l2 hl2 => ⟨_, _, rfl, ?_⟩⟩
      have s2 := same_upd (o := .lst vf) hl2
      exact go _ _ ⟨l1, l2, rfl, s1.trans s2, s2 _ _ g1, upd_same⟩
    rintro _ H1 ⟨l1, l2, rfl, s1, hl1, hl2⟩
    have hb0 := s1 _ _ hb
    have hc0 := s1.tup hc
    refine (seq_cutI (fun σ' G => σ' = [some (.int q), some (.int (n : Int)), some (.ref a1), some (.ref a2), some (.ref b), some (.ref l1), some (.ref l2)] ∧ Same H1 G) (fun D' go => ?_) ?_)
    · refine ⟨_, rfl, _, _, _, _, _, rfl, .own T.C_Book, ty_book T hb0, kit_self, true, rfl, iteF ?_⟩
      refine ⟨_, rfl, _, rfl, _, rfl, b, _, dx, fs, _, rfl, hb0, T.cl_Book, T.no_Book_rows, br, q, n, _, Cs, rfl, hq, n8, hB.rr, ⟨c, vc, rfl, hc0, rows_same s1 pc⟩, fun H2 s2 => ⟨true, rfl, iteF ?_⟩⟩
      have hb1 := s2 _ _ hb0
      refine ⟨_, rfl, b, _, dx, fs, _, rfl, hb1, T.cl_Book, T.no_Book_q, bq, _, rfl, b, _, dx, fs, _, rfl, hb1, T.cl_Book, T.no_Book_n, bn, line_s (show 2 ≤ 100000 by decide), fun p2 hp2 => ?_⟩
      have s3 := same_upd (o := .tup [.int q, .int (n : Int)]) hp2
      have told := tell2 (q := q) (n := n) (by omega) (by omega)
      refine ⟨_, .tuple [.int q, .int (n : Int)], rfl, .tup (SqT.of upd_same) (.cons (.int _) (.cons (.int _) .nil)), told, ?_⟩
      refine ⟨_, rfl, _, rfl, line_s (show 2 ≤ 100000 by decide), fun p3 hp3 => ?_⟩
      have s4 := same_upd (o := .tup [.int q, .int (n : Int)]) hp3
      refine ⟨_, .tuple [.int q, .int (n : Int)], rfl, .tup (SqT.of upd_same) (.cons (.int _) (.cons (.int _) .nil)), told, rfl, _, rfl, ?_⟩
      rw [decide_eq_true rfl]
      refine iteF ?_
      exact go _ _ ⟨rfl, s2.trans (s3.trans s4)⟩
    rintro _ H2 ⟨rfl, s2⟩
    have s12 := s1.trans s2
    have hb2 := s2 _ _ hb0
    have hl1' := s2 _ _ hl1
    have hl2' := s2 _ _ hl2
    refine (seq_cutI (fun σ' G => σ' = [some (.int q), some (.int (n : Int)), some (.ref a1), some (.ref a2), some (.ref b), some (.ref l1), some (.ref l2)] ∧ Same H2 G) (fun D' go => ?_) ?_)
    · have wPR := allR_app hA.rr.rows hA2.rr.rows
      have hc2 := s12.tup hc
      refine ⟨_, rfl, b, _, dx, fs, _, rfl, hb2, T.cl_Book, T.no_Book_dimension, bd, _, rfl, b, _, dx, fs, _, rfl, hb2, T.cl_Book, T.no_Book_rows, br, c, vc, rfl, .inr hc2, rfl, _, rfl, ite_t (decide_eq_true (congrArg V.int (show ((Cs.length : Nat) : Int) = ((vc.length : Nat) : Int) by omega))) ?_⟩
      refine ⟨_, rfl, l1, ve, rfl, .inl (SqL.of hl1'), _, rfl, l2, vf, rfl, .inl (SqL.of hl2'), _, _, rfl, rfl, _, rfl, _, rfl, _, rfl, l1, l2, ve, vf, rfl, rfl, hl1', hl2', line_s (by omega), fun l3 hl3 => ?_⟩
      have s3 := same_upd (o := .lst (ve ++ vf)) hl3
      have s13 := s12.trans s3
      refine ⟨q, n, .ref l3, Ps.map (·.2) ++ Rs.map (·.2), rfl, hq, n8, ⟨l3, _, rfl, .inl (SqL.of upd_same), paired_app (rows_same s13 pe) (rows_same s13 pf)⟩, wPR, by rw [List.length_append, List.length_map, List.length_map]; omega, fun H4 s4 => ?_⟩
      refine ⟨_, _, rfl, rfl, rfl, _, rfl, ite_n (decide_eq_true (congrArg V.int (show ((vc.length : Nat) : Int) = ((ve.length : Nat) : Int) + ((vf.length : Nat) : Int) - ((rankL q (Ps.map (·.2) ++ Rs.map (·.2)) : Nat) : Int) by omega))) ?_⟩
      exact go _ _ ⟨rfl, s3.trans s4⟩
    rintro _ H3 ⟨rfl, s3⟩
    have s13 := s12.trans s3
    have hb3 := s3 _ _ hb2
    have hc3 := s13.tup hc
    have g1 := s3 _ _ hl1'
    have g2 := s3 _ _ hl2'
    refine ⟨_, rfl, _, rfl, _, rfl, b, _, dx, fs, _, rfl, hb3, T.cl_Book, T.no_Book_rows, br, c, vc, rfl, .inr hc3, fun l3 hl3 => ?_⟩
    have s4 := same_upd (o := .lst vc) hl3
    have g3 : (upd H3 l3 (.lst vc)) l3 = some (.lst vc) := upd_same
    generalize upd H3 l3 (.lst vc) = H4 at s4 g3 ⊢
    refine ⟨l1, l3, ve, vc, rfl, rfl, s4 _ _ g1, g3, line_s (by omega), fun l4 hl4 => ?_⟩
    have s5 := same_upd (o := .lst (ve ++ vc)) hl4
    have g4 : (upd H4 l4 (.lst (ve ++ vc))) l4 = some (.lst (ve ++ vc)) := upd_same
    generalize upd H4 l4 (.lst (ve ++ vc)) = H5 at s5 g4 ⊢
    have s15 := s13.trans (s4.trans s5)
    refine ⟨q, n, .ref l4, Ps.map (·.2) ++ Cs.map (·.2), rfl, hq, n8, ⟨l4, _, rfl, .inl (SqL.of g4), paired_app (rows_same s15 pe) (rows_same s15 pc)⟩, allR_app hA.rr.rows hB.rr.rows, by rw [List.length_append, List.length_map, List.length_map]; omega, fun H6 s6 => ?_⟩
    have s36 := s4.trans (s5.trans s6)
    have rA := com.rankA hq
    have rB := com.symm.rankA hq
    refine ⟨_, rfl, l1, ve, rfl, .inl (SqL.of (s36 _ _ g1)), rfl, _, rfl, ite_t (decide_eq_true (congrArg V.int (show ((rankL q (Ps.map (·.2) ++ Cs.map (·.2)) : Nat) : Int) = ((ve.length : Nat) : Int) by omega))) ?_⟩
    have hb6 := s36 _ _ hb3
    have hc6 := s36.tup hc3
    refine ⟨_, rfl, _, rfl, _, rfl, b, _, dx, fs, _, rfl, hb6, T.cl_Book, T.no_Book_rows, br, c, vc, rfl, .inr hc6, fun l5 hl5 => ?_⟩
    have s7 := same_upd (o := .lst vc) hl5
    have g5 : (upd H6 l5 (.lst vc)) l5 = some (.lst vc) := upd_same
    generalize upd H6 l5 (.lst vc) = H7 at s7 g5 ⊢
    have g27 := (s36.trans s7) _ _ g2
    refine ⟨l2, l5, vf, vc, rfl, rfl, g27, g5, line_s (by omega), fun l6 hl6 => ?_⟩
    have s8 := same_upd (o := .lst (vf ++ vc)) hl6
    have g6 : (upd H7 l6 (.lst (vf ++ vc))) l6 = some (.lst (vf ++ vc)) := upd_same
    generalize upd H7 l6 (.lst (vf ++ vc)) = H8 at s8 g6 ⊢
    have s18 := s13.trans (s36.trans (s7.trans s8))
    refine ⟨q, n, .ref l6, Rs.map (·.2) ++ Cs.map (·.2), rfl, hq, n8, ⟨l6, _, rfl, .inl (SqL.of g6), paired_app (rows_same s18 pf) (rows_same s18 pc)⟩, allR_app hA2.rr.rows hB.rr.rows, by rw [List.length_append, List.length_map, List.length_map]; omega, fun H9 s9 => ?_⟩
    have g28 := (s8.trans s9) _ _ g27
    refine ⟨_, rfl, l2, vf, rfl, .inl (SqL.of g28), rfl, ?_⟩
    rw [show decide (V.int ((rankL q (Rs.map (·.2) ++ Cs.map (·.2)) : Nat) : Int) = V.int ((vf.length : Nat) : Int)) = true from decide_eq_true (congrArg V.int (by omega))]
    exact k _ (s18.trans s9)
end
end K09
end
section
set_option maxRecDepth 100000
set_option maxHeartbeats 8000000
set_option exponentiation.threshold 9000
namespace K09
open PySem PySem.Spec PyProof.Rows L2 MB LM
open LamX hiding takes0
section
variable {w : World} {K : PySem.W.Frag} {mg : Str → Option Value} {base : Heap}
theorem neX_eq {T : Txt K mg} {E : XK} {m m' : Addr} {q n : Int} {Rs : List (List Int)} {H : Hp} {Q : VK} (h : BookAt K T.C_Book H m q n Rs) (h' : BookAt K T.C_Book H m' q n Rs) (k : Q (.bl false) H) : rNeX K T.C_Book (spEqB T) E (.ref m) (.ref m') H Q := by
  obtain ⟨dx, fs, zr, hm, _⟩ := id h
  obtain ⟨dz, gz, zz, hm', _⟩ := id h'
  exact ⟨m, dx, fs, _, rfl, hm, ty_book T hm', by simp [PySem.W.notFirst], m, .ref m', true, rfl, ⟨q, n, _, h, .inr ⟨m', q, n, _, rfl, h', (decide_eq_true ⟨rfl, rfl, rfl⟩).symm⟩⟩, true, rfl, k⟩
structure JoE (T : Txt K mg) (a1 a2 m1 m2 L : Addr) (q : Int) (n : Nat) (Ps Rs Ts Cs : List (Nat × List Int)) (vs : List V) (H : Hp) : Prop where
  a : BookR T H a1 q n Ps
  b : BookR T H a2 q n Rs
  t : BookR T H m1 q n Ts
  c : BookR T H m2 q n Cs
  l : H L = some (.lst vs)
  p : Paired (TI K H) vs (Ps.map (·.2) ++ Rs.map (·.2))
theorem JoE.same {T : Txt K mg} {a1 a2 m1 m2 L : Addr} {q : Int} {n : Nat} {Ps Rs Ts Cs : List (Nat × List Int)} {vs : List V} {H H' : Hp} (h : JoE T a1 a2 m1 m2 L q n Ps Rs Ts Cs vs H) (e : Same H H') : JoE T a1 a2 m1 m2 L q n Ps Rs Ts Cs vs H' :=
  ⟨h.a.same e, h.b.same e, h.t.same e, h.c.same e, e _ _ h.l, rows_same e h.p⟩
def spJoin (T : Txt K mg) : Sp := fun vs H Q _ => ∃ (a1 a2 : Addr) (q : Int) (n : Nat) (Ps Rs : List (Nat × List Int)), vs = [.int q, .int (n : Int), .ref a1, .ref a2] ∧ BookR T H a1 q n Ps ∧ BookR T H a2 q n Rs ∧ 1 ≤ n ∧ ∀ H', Same H H' → Q (.bl true) H'
theorem ok__law_are_joined (T : Txt K mg) (sm : SM base) : FnG P w K mg base 10 T.a__law_are_joined T.d__law_are_joined P__law_are_joined (spJoin T) := by
  refine fnG T.F__law_are_joined sc__law_are_joined (fun vs H Q E h => ?_) (fun cdv A outer s H vs Q E hr hgu h => ?_)
  · obtain ⟨a1, a2, q, n, Ps, Rs, rfl, _⟩ := h
    rfl
  · obtain ⟨a1, a2, q, n, Ps, Rs, rfl, hA, hB, n1, k⟩ := h
    refine ⟨_, 
      (pss_cons (ps_par3 (i := 4) (j := 5) (l := 6) (by rfl) sc__law_are_joined.nd rfl rfl rfl (by decide) (by decide) (by decide) rfl rfl rfl (pa_cons (pe_op op_cat (pe_callTy call_list_of (by rfl) T.m_list (by decide +kernel) (pa_cons (pe_fld (pv 2) rfl) pa_nil)) (pe_callTy call_list_of (by rfl) T.m_list (by decide +kernel) (pa_cons (pe_fld (pv 3) rfl) pa_nil))) (pa_cons (pe_call (ok0_sum_of T) (hr.mono (by decide)) rfl T.m_sum_of T.F_sum_of.kp T.b_sum_of .nil pass0 (pa_cons (pv 2) (pa_cons (pv 3) pa_nil))) (pa_cons (pe_call (ok0_common T) (hr.mono (by decide)) rfl T.m_common T.F_common.kp T.b_common .nil pass0 (pa_cons (pv 2) (pa_cons (pv 3) pa_nil))) pa_nil))) (by rfl))
      (pss_cons (ps_if (PW.pt (pw_or (pt_not (pt_val (pe_callG (ok__law_is_book T sm) (hr.mono (by decide)) hgu rfl T.m__law_is_book T.F__law_is_book.kp T.b__law_is_book (pa_cons (pv 5) (pa_cons (pv 0) (pa_cons (pv 1) (pa_cons (pv 4) pa_nil))))))) (pw_or1 (pt_cmpR (op_neX (ok_Book___eq__ T) T.ne_Book T.eq_Book T.eqf_Book T.ob_Book T.b_Book___eq__ pass0 (hr.mono (by decide))) (pe_callK0 (ok0_sum_of T) (hr.mono (by decide)) rfl T.m_sum_of T.F_sum_of.kp T.q_sum_of_other_one (pk_cons (pv 2) (pk_cons (pv 3) pk_nil))) (pv 5) (nomark _))))) (pss_one (ps_ret pe_bl)) pss_nil)
      (pss_cons (ps_if (PW.pt (pw_or (pt_not (pt_val (pe_callG (ok__law_is_common T sm) (hr.mono (by decide)) hgu rfl T.m__law_is_common T.F__law_is_common.kp T.b__law_is_common (pa_cons (pv 0) (pa_cons (pv 1) (pa_cons (pv 2) (pa_cons (pv 3) (pa_cons (pv 6) pa_nil)))))))) (pw_or1 (pt_cmpR (op_neX (ok_Book___eq__ T) T.ne_Book T.eq_Book T.eqf_Book T.ob_Book T.b_Book___eq__ pass0 (hr.mono (by decide))) (pe_callK0 (ok0_common T) (hr.mono (by decide)) rfl T.m_common T.F_common.kp T.q_common_other_one (pk_cons (pv 2) (pk_cons (pv 3) pk_nil))) (pv 6) (nomark _))))) (pss_one (ps_ret pe_bl)) pss_nil)
      (pss_cons (ps_set (i := 7) sc__law_are_joined.nd rfl (Or.inl rfl) (pe_call (ok__law_rank T) (hr.mono (by decide)) rfl T.m__law_rank T.F__law_rank.kp T.b__law_rank .nil pass0 (pa_cons (pv 0) (pa_cons (pv 4) pa_nil))))
      (pss_cons (ps_set (i := 8) sc__law_are_joined.nd rfl (Or.inl rfl) (pe_tup (pa_cons (pe_cmpR op_eq (pv 7) (pe_callB call_len_seq (by rfl) T.m_len (by decide +kernel) (pa_cons (pe_fld (pv 3) rfl) pa_nil)) (nomark _)) (pa_cons (pe_cmpR op_eq (pv 7) (pe_callB call_len_seq (by rfl) T.m_len (by decide +kernel) (pa_cons (pe_fld (pv 2) rfl) pa_nil)) (nomark _)) (pa_cons pe_bl (pa_cons pe_bl (pa_cons pe_bl pa_nil)))))))
      (pss_cons (ps_set (i := 9) sc__law_are_joined.nd rfl (Or.inl rfl) (pe_tup (pa_cons (pe_call (ok0_is_within T) (hr.mono (by decide)) rfl T.m_is_within T.F_is_within.kp T.b_is_within .nil pass0 (pa_cons (pv 2) (pa_cons (pv 3) pa_nil))) (pa_cons (pe_callK0 (ok0_is_within T) (hr.mono (by decide)) rfl T.m_is_within T.F_is_within.kp T.q_is_within_one_other (pk_cons (pv 3) (pk_cons (pv 2) pk_nil))) (pa_cons (pe_call (ok0_is_within T) (hr.mono (by decide)) rfl T.m_is_within T.F_is_within.kp T.b_is_within .nil pass0 (pa_cons (pv 6) (pa_cons (pv 2) pa_nil))) (pa_cons (pe_call (ok0_is_within T) (hr.mono (by decide)) rfl T.m_is_within T.F_is_within.kp T.b_is_within .nil pass0 (pa_cons (pv 3) (pa_cons (pv 5) pa_nil))) (pa_cons (pe_call (ok0_is_within T) (hr.mono (by decide)) rfl T.m_is_within T.F_is_within.kp T.b_is_within .nil pass0 (pa_cons (pv 2) (pa_cons (pv 2) pa_nil))) pa_nil)))))))
      (pss_cons (ps_if (pt_cmpR op_ne (pe_callB (call_tell sm hgu hr.units) (by rfl) T.m_repr (by decide +kernel) (pa_cons (pv 9) pa_nil)) (pe_callB (call_tell sm hgu hr.units) (by rfl) T.m_repr (by decide +kernel) (pa_cons (pv 8) pa_nil)) (nomark _)) (pss_one (ps_ret pe_bl)) pss_nil)
      (pss_cons (ps_if (PW.pt (pw_or (pt_cmpR (op_neX (ok_Book___eq__ T) T.ne_Book T.eq_Book T.eqf_Book T.ob_Book T.b_Book___eq__ pass0 (hr.mono (by decide))) (pe_call (ok_mirror T) (hr.mono (by decide)) rfl T.m_mirror T.F_mirror.kp T.b_mirror .nil pass0 (pa_cons (pv 5) pa_nil)) (pe_call (ok0_common T) (hr.mono (by decide)) rfl T.m_common T.F_common.kp T.b_common .nil pass0 (pa_cons (pe_call (ok_mirror T) (hr.mono (by decide)) rfl T.m_mirror T.F_mirror.kp T.b_mirror .nil pass0 (pa_cons (pv 2) pa_nil)) (pa_cons (pe_call (ok_mirror T) (hr.mono (by decide)) rfl T.m_mirror T.F_mirror.kp T.b_mirror .nil pass0 (pa_cons (pv 3) pa_nil)) pa_nil))) (nomark _)) (pw_or1 (pt_cmpR (op_neX (ok_Book___eq__ T) T.ne_Book T.eq_Book T.eqf_Book T.ob_Book T.b_Book___eq__ pass0 (hr.mono (by decide))) (pe_callK0 (ok_mirror T) (hr.mono (by decide)) rfl T.m_mirror T.F_mirror.kp T.q_mirror_book (pk_cons (pv 6) pk_nil)) (pe_call (ok0_sum_of T) (hr.mono (by decide)) rfl T.m_sum_of T.F_sum_of.kp T.b_sum_of .nil pass0 (pa_cons (pe_call (ok_mirror T) (hr.mono (by decide)) rfl T.m_mirror T.F_mirror.kp T.b_mirror .nil pass0 (pa_cons (pv 2) pa_nil)) (pa_cons (pe_call (ok_mirror T) (hr.mono (by decide)) rfl T.m_mirror T.F_mirror.kp T.b_mirror .nil pass0 (pa_cons (pv 3) pa_nil)) pa_nil))) (nomark _))))) (pss_one (ps_ret pe_bl)) pss_nil)
      (pss_one (ps_ret (pe_cmpR op_eq (pe_callB (call_tell sm hgu hr.units) (by rfl) T.m_repr (by decide +kernel) (pa_cons (pe_call (ok0_is_within T) (hr.mono (by decide)) rfl T.m_is_within T.F_is_within.kp T.b_is_within .nil pass0 (pa_cons (pe_call (ok_mirror T) (hr.mono (by decide)) rfl T.m_mirror T.F_mirror.kp T.b_mirror .nil pass0 (pa_cons (pv 2) pa_nil)) (pa_cons (pe_call (ok_mirror T) (hr.mono (by decide)) rfl T.m_mirror T.F_mirror.kp T.b_mirror .nil pass0 (pa_cons (pv 3) pa_nil)) pa_nil))) pa_nil)) (pe_callB (call_tell sm hgu hr.units) (by rfl) T.m_repr (by decide +kernel) (pa_cons (pe_call (ok0_is_within T) (hr.mono (by decide)) rfl T.m_is_within T.F_is_within.kp T.b_is_within .nil pass0 (pa_cons (pv 3) (pa_cons (pv 2) pa_nil))) pa_nil)) (nomark _)))))))))))), ?_⟩
    have hq := hA.lq
    have n8 := hA.n8
    have q2 := hq.lo
    have q5 := hq.hi
    have lP := rr_len hA.rr
    have lR := rr_len hB.rr
    have wA := allR_app hA.rr.rows hB.rr.rows
    dsimp only [gName]
    refine (seq_cut (fun σ' G => ∃ (L m1 m2 : Addr) (Ms Ns Us Ts Cs : List (Nat × List Int)) (vs : List V), σ' = [some (.int q), some (.int (n : Int)), some (.ref a1), some (.ref a2), some (.ref L), some (.ref m1), some (.ref m2), none, none, none] ∧ Same H G ∧ JoE T a1 a2 m1 m2 L q n Ps Rs Ts Cs vs G ∧
        SpE q n (Ps.map (·.2) ++ Rs.map (·.2)) (Ts.map (·.2)) ∧ Mir q n Ps Ms ∧ Mir q n Rs Ns ∧ SpE q n (Ms.map (·.2) ++ Ns.map (·.2)) (Us.map (·.2)) ∧ Mir q n Us Cs) (fun D' go => ?_) ?_)
    · obtain ⟨dy, gs, zy, ha, aq, an, ar, ad, e, ve, rfl, he, pe⟩ := id hA.at_
      obtain ⟨dz, gz, zw, hd, dq, dn, dr, dd, f, vf, rfl, hf, pf⟩ := id hB.at_
      have le : ve.length = Ps.length := by rw [pe.length, List.length_map]
      have lf : vf.length = Rs.length := by rw [pf.length, List.length_map]
      refine ⟨_, rfl, a1, _, dy, gs, _, rfl, ha, T.cl_Book, T.no_Book_rows, ar, e, ve, rfl, .inr he, fun l1 hl1 => ?_⟩
      have s1 := same_upd (o := .lst ve) hl1
      have g1 : (upd H l1 (.lst ve)) l1 = some (.lst ve) := upd_same
      generalize upd H l1 (.lst ve) = H1 at s1 g1 ⊢
      refine ⟨_, rfl, a2, _, dz, gz, _, rfl, s1 _ _ hd, T.cl_Book, T.no_Book_rows, dr, f, vf, rfl, .inr (s1.tup hf), fun l2 hl2 => ?_⟩
      have s2 := same_upd (o := .lst vf) hl2
      have g2 : (upd H1 l2 (.lst vf)) l2 = some (.lst vf) := upd_same
      generalize upd H1 l2 (.lst vf) = H2 at s2 g2 ⊢
      refine ⟨l1, l2, ve, vf, rfl, rfl, s2 _ _ g1, g2, line_s (by omega), fun l3 hl3 => ?_⟩
      have s3 := same_upd (o := .lst (ve ++ vf)) hl3
      have g3 : (upd H2 l3 (.lst (ve ++ vf))) l3 = some (.lst (ve ++ vf)) := upd_same
      generalize upd H2 l3 (.lst (ve ++ vf)) = H3 at s3 g3 ⊢
      have s03 := s1.trans (s2.trans s3)
      refine ⟨_, rfl, _, rfl, a1, a2, q, n, Ps, Rs, rfl, hA.same s03, hB.same s03, n1, fun m1 Ts H4 s4 rt et hT => ?_⟩
      have s04 := s03.trans s4
      refine ⟨_, rfl, _, rfl, a1, a2, q, n, Ps, Rs, rfl, hA.same s04, hB.same s04, n1, fun m2 Ms Ns Us Cs H5 s5 mi1 mi2 ru eu mi3 hC => ⟨_, _, _, rfl, ?_⟩⟩
      have s05 := s04.trans s5
      exact go _ _ ⟨l3, m1, m2, Ms, Ns, Us, Ts, Cs, ve ++ vf, rfl, s05, ⟨hA.same s05, hB.same s05, hT.same s5, hC, (s4.trans s5) _ _ g3, paired_app (rows_same s05 pe) (rows_same s05 pf)⟩, et, mi1, mi2, eu, mi3⟩
    rintro _ H1 ⟨L, m1, m2, Ms, Ns, Us, Ts, Cs, vs, rfl, s1, J1, et, mi1, mi2, eu, mi3⟩
    have com : Com q n Ps Rs Cs := com_of hq mi1 mi2 mi3.p eu mi3
    have rt := J1.t.rr
    have eg : gauss q n (Ps.map (·.2) ++ Rs.map (·.2)) = Ts.map (·.2) := gauss_rr hq rt wA et.symm
    refine (seq_cutI (fun σ' G => σ' = [some (.int q), some (.int (n : Int)), some (.ref a1), some (.ref a2), some (.ref L), some (.ref m1), some (.ref m2), none, none, none] ∧ Same H G ∧ JoE T a1 a2 m1 m2 L q n Ps Rs Ts Cs vs G) (fun D' go => ?_) ?_)
    · have hb := J1.t.at_
      rw [← eg] at hb
      refine ⟨_, rfl, _, rfl, _, rfl, _, rfl, m1, q, n, .ref L, _, rfl, hq, n1, n8, ⟨L, vs, rfl, .inl (SqL.of J1.l), J1.p⟩, wA, by rw [List.length_append, List.length_map, List.length_map]; omega, hb, fun H2 s2 => ⟨true, rfl, iteF ?_⟩⟩
      have J2 := J1.same s2
      refine ⟨_, rfl, _, rfl, a2, a1, q, n, Rs, Ps, rfl, J2.b, J2.a, n1, fun m3 Ts2 H3 s3 rt2 et2 hT2 => ?_⟩
      have J3 := J2.same s3
      have ee : Ts2.map (·.2) = Ts.map (·.2) := rr_one hq rt2 rt ((et2.symm.trans hq rt2.rows wA (SpE.mem hq (allR_app hB.rr.rows hA.rr.rows) wA fun r => by rw [List.mem_append, List.mem_append]; exact Or.comm)).trans hq rt2.rows rt.rows et)
      have h2 := hT2.at_
      rw [ee] at h2
      exact ⟨_, rfl, neX_eq h2 J3.t.at_ ⟨_, rfl, iteF (go _ _ ⟨rfl, s1.trans (s2.trans s3), J3⟩)⟩⟩
    rintro _ H2 ⟨rfl, s2, J2⟩
    clear J1 s1
    refine (seq_cutI (fun σ' G => σ' = [some (.int q), some (.int (n : Int)), some (.ref a1), some (.ref a2), some (.ref L), some (.ref m1), some (.ref m2), none, none, none] ∧ Same H G ∧ JoE T a1 a2 m1 m2 L q n Ps Rs Ts Cs vs G) (fun D' go => ?_) ?_)
    · refine ⟨_, rfl, _, rfl, _, rfl, _, rfl, _, rfl, a1, a2, m2, q, n, Ps, Rs, Cs, rfl, J2.a, J2.b, J2.c, com, fun H3 s3 => ⟨true, rfl, iteF ?_⟩⟩
      have J3 := J2.same s3
      refine ⟨_, rfl, _, rfl, a2, a1, q, n, Rs, Ps, rfl, J3.b, J3.a, n1, fun m3 Ms' Ns' Us' Cs' H4 s4 mi1' mi2' ru' eu' mi3' hC' => ?_⟩
      have J4 := J3.same s4
      have ee : Cs'.map (·.2) = Cs.map (·.2) := Com.same hq (com_of hq mi1' mi2' ru' eu' mi3').symm com
      have h2 := hC'.at_
      rw [ee] at h2
      exact ⟨_, rfl, neX_eq h2 J4.c.at_ ⟨_, rfl, iteF (go _ _ ⟨rfl, s2.trans (s3.trans s4), J4⟩)⟩⟩
    rintro _ H3 ⟨rfl, s3, J3⟩
    clear J2 s2
    refine ⟨_, rfl, _, rfl, q, n, .ref L, _, rfl, hq, n8, ⟨L, vs, rfl, .inl (SqL.of J3.l), J3.p⟩, wA, by rw [List.length_append, List.length_map, List.length_map]; omega, fun H4 s4 => ?_⟩
    have J4 := J3.same s4
    have s04 := s3.trans s4
    clear J3 s3 s4
    try dsimp only [gName]
    refine (seq_cut (fun σ' G => ∃ p : Addr, σ' = [some (.int q), some (.int (n : Int)), some (.ref a1), some (.ref a2), some (.ref L), some (.ref m1), some (.ref m2), some (.int ((rankL q (Ps.map (·.2) ++ Rs.map (·.2)) : Nat) : Int)), some (.ref p), none] ∧ Same H G ∧ JoE T a1 a2 m1 m2 L q n Ps Rs Ts Cs vs G ∧
        SqT K G p [.bl (decide (rankL q (Ps.map (·.2) ++ Rs.map (·.2)) = Rs.length)), .bl (decide (rankL q (Ps.map (·.2) ++ Rs.map (·.2)) = Ps.length)), .bl true, .bl true, .bl true]) (fun D' go => ?_) ?_)
    · obtain ⟨dy, gs, zy, ha, aq, an, ar, ad, e, ve, rfl, he, pe⟩ := id J4.a.at_
      obtain ⟨dz, gz, zw, hd, dq, dn, dr, dd, f, vf, rfl, hf, pf⟩ := id J4.b.at_
      have le : ve.length = Ps.length := by rw [pe.length, List.length_map]
      have lf : vf.length = Rs.length := by rw [pf.length, List.length_map]
      refine ⟨_, rfl, _, rfl, a2, _, dz, gz, _, rfl, hd, T.cl_Book, T.no_Book_rows, dr, f, vf, rfl, .inr hf, rfl, _, rfl, _, rfl, a1, _, dy, gs, _, rfl, ha, T.cl_Book, T.no_Book_rows, ar, e, ve, rfl, .inr he, rfl, line_s (show 5 ≤ 100000 by decide), fun p hp => ?_⟩
      have ei : ∀ x y z : Nat, y = z → decide (V.int (x : Int) = V.int (y : Int)) = decide (x = z) := fun x y z h => by
        subst h
        rw [Bool.eq_iff_iff, decide_eq_true_iff, decide_eq_true_iff]
        exact ⟨fun h => Int.ofNat.inj (V.int.inj h), fun h => by rw [h]⟩
      rw [ei _ _ _ lf, ei _ _ _ le]
      have s5 := same_upd (o := .tup [.bl (decide (rankL q (Ps.map (·.2) ++ Rs.map (·.2)) = Rs.length)), .bl (decide (rankL q (Ps.map (·.2) ++ Rs.map (·.2)) = Ps.length)), .bl true, .bl true, .bl true]) hp
      exact go _ _ ⟨p, rfl, s04.trans s5, J4.same s5, SqT.of upd_same⟩
    rintro _ H5 ⟨p, rfl, s5, J5, hp5⟩
    clear J4 s04
    have tq := (within_rank hq hA.rr hB.rr)
    have tq2 : rankL q (Ps.map (·.2) ++ Rs.map (·.2)) = Ps.length ↔ ∀ r ∈ Rs.map (·.2), Sp q n (Ps.map (·.2)) r := by
      rw [rank_of hq wA (allR_app hB.rr.rows hA.rr.rows) (SpE.mem hq wA (allR_app hB.rr.rows hA.rr.rows) fun r => by rw [List.mem_append, List.mem_append]; exact Or.comm)]
      exact within_rank hq hB.rr hA.rr
    generalize eR : rankL q (Ps.map (·.2) ++ Rs.map (·.2)) = R at tq tq2 hp5 ⊢
    refine ⟨_, rfl, _, rfl, a1, a2, q, n, Ps, Rs, rfl, J5.a, J5.b, fun c1 H6 s6 e1 => ?_⟩
    have J6 := J5.same s6
    refine ⟨_, rfl, _, rfl, a2, a1, q, n, Rs, Ps, rfl, J6.b, J6.a, fun c2 H7 s7 e2 => ?_⟩
    have J7 := J6.same s7
    refine ⟨_, rfl, _, rfl, m2, a1, q, n, Cs, Ps, rfl, J7.c, J7.a, fun c3 H8 s8 e3 => ?_⟩
    have J8 := J7.same s8
    refine ⟨_, rfl, _, rfl, a2, m1, q, n, Rs, Ts, rfl, J8.b, J8.t, fun c4 H9 s9 e4 => ?_⟩
    have J9 := J8.same s9
    refine ⟨_, rfl, _, rfl, a1, a1, q, n, Ps, Ps, rfl, J9.a, J9.a, fun c5 H10 s10 e5 => ⟨line_s (show 5 ≤ 100000 by decide), fun p2 hp2 => ?_⟩⟩
    have J10 := J9.same s10
    have d1 : c1 = decide (R = Rs.length) := by rw [Bool.eq_iff_iff, decide_eq_true_iff]; exact e1.trans tq.symm
    have d2 : c2 = decide (R = Ps.length) := by rw [Bool.eq_iff_iff, decide_eq_true_iff]; exact e2.trans tq2.symm
    have d3 : c3 = true := e3.mpr fun r hr => ((com.e r (com.c.rows r hr)).mp (.row hq com.c.rows hr)).1
    have d4 : c4 = true := e4.mpr fun r hr => et.1 r (List.mem_append_right _ hr)
    have d5 : c5 = true := e5.mpr fun r hr => .row hq hA.rr.rows hr
    subst d1 d2 d3 d4 d5
    have told : Told (.tuple [.bool (decide (R = Rs.length)), .bool (decide (R = Ps.length)), .bool true, .bool true, .bool true]) :=
      (sz_tup (szAll_cons (sz_bool (b := 0) (k := 0)) (szAll_cons (sz_bool (b := 0)) (szAll_cons (sz_bool (b := 0)) (szAll_cons (sz_bool (b := 0)) (szAll_cons (sz_bool (b := 0)) (szAll_nil (b := 0)))))))).told (by decide) (by decide)
    have s11 := same_upd (o := .tup [.bl (decide (R = Rs.length)), .bl (decide (R = Ps.length)), .bl true, .bl true, .bl true]) hp2
    have gp2 : SqT K (upd H10 p2 (.tup [.bl (decide (R = Rs.length)), .bl (decide (R = Ps.length)), .bl true, .bl true, .bl true])) p2 [.bl (decide (R = Rs.length)), .bl (decide (R = Ps.length)), .bl true, .bl true, .bl true] := SqT.of upd_same
    have J11 := J10.same s11
    have s511 := s6.trans (s7.trans (s8.trans (s9.trans (s10.trans s11))))
    have hp11 := s511.tup hp5
    have s011 := s5.trans s511
    clear J5 J6 J7 J8 J9 J10
    generalize upd H10 p2 (.tup [.bl (decide (R = Rs.length)), .bl (decide (R = Ps.length)), .bl true, .bl true, .bl true]) = H11 at gp2 J11 hp11 s011 ⊢
    clear s511 s11 s10 s9 s8 s7 s6 s5
    have dqT : ∀ {x : Addr}, SqT K H11 x [.bl (decide (R = Rs.length)), .bl (decide (R = Ps.length)), .bl true, .bl true, .bl true] → Dq K H11 (.ref x) (.tuple [.bool (decide (R = Rs.length)), .bool (decide (R = Ps.length)), .bool true, .bool true, .bool true]) := fun h => .tup h (.cons (.bl _) (.cons (.bl _) (.cons (.bl _) (.cons (.bl _) (.cons (.bl _) .nil)))))
    dsimp only [gName]
    refine (seq_cutI (fun σ' G => σ' = [some (.int q), some (.int (n : Int)), some (.ref a1), some (.ref a2), some (.ref L), some (.ref m1), some (.ref m2), some (.int ((R : Nat) : Int)), some (.ref p), some (.ref p2)] ∧ Same H G ∧ JoE T a1 a2 m1 m2 L q n Ps Rs Ts Cs vs G) (fun D' go => ?_) ?_)
    · refine ⟨_, rfl, _, _, rfl, dqT gp2, told, _, rfl, _, _, rfl, dqT hp11, told, rfl, _, rfl, ?_⟩
      rw [decide_eq_true rfl]
      exact iteF (go _ _ ⟨rfl, s011, J11⟩)
    clear dqT told gp2 hp11
    rintro _ H11 ⟨rfl, s011, J11⟩
    refine (seq_cutI (fun σ' G => σ' = [some (.int q), some (.int (n : Int)), some (.ref a1), some (.ref a2), some (.ref L), some (.ref m1), some (.ref m2), some (.int ((R : Nat) : Int)), some (.ref p), some (.ref p2)] ∧ Same H G ∧ JoE T a1 a2 m1 m2 L q n Ps Rs Ts Cs vs G) (fun D' go => ?_) ?_)
    · refine ⟨_, rfl, m1, q, n, Ts, rfl, J11.t, n1, fun x1 Vs H12 s12 miT hV => ?_⟩
      have J12 := J11.same s12
      refine ⟨_, rfl, a1, q, n, Ps, rfl, J12.a, n1, fun x2 Ms2 H13 s13 mi1' hM => ⟨_, rfl, a2, q, n, Rs, rfl, (J12.same s13).b, n1, fun x3 Ns2 H14 s14 mi2' hN => ?_⟩⟩
      have J14 := (J12.same s13).same s14
      refine ⟨x2, x3, q, n, Ms2, Ns2, rfl, hM.same s14, hN, n1, fun x4 A1 A2 A3 Ds H15 s15 b1 b2 b3 b4 b5 hD => ?_⟩
      have J15 := J14.same s15
      have ee : Vs.map (·.2) = Ds.map (·.2) := mir_sum hq mi1' mi2' et miT (com_of hq b1 b2 b3 b4 b5)
      have h2 := hD.at_
      rw [← ee] at h2
      refine neX_eq (hV.same (s13.trans (s14.trans s15))).at_ h2 ⟨_, rfl, iteF ?_⟩
      refine ⟨_, rfl, m2, q, n, Cs, rfl, J15.c, n1, fun y1 Ws H16 s16 miC hW => ?_⟩
      have J16 := J15.same s16
      refine ⟨_, rfl, a1, q, n, Ps, rfl, J16.a, n1, fun y2 Ms3 H17 s17 mi1'' hM3 => ⟨_, rfl, a2, q, n, Rs, rfl, (J16.same s17).b, n1, fun y3 Ns3 H18 s18 mi2'' hN3 => ?_⟩⟩
      have J18 := (J16.same s17).same s18
      refine ⟨y2, y3, q, n, Ms3, Ns3, rfl, hM3.same s18, hN3, n1, fun y4 Ts4 H19 s19 rt4 et4 hT4 => ?_⟩
      have J19 := J18.same s19
      have e1' : Ms3.map (·.2) = Ms.map (·.2) := Mir.uniq hq mi1'' mi1
      have e2' : Ns3.map (·.2) = Ns.map (·.2) := Mir.uniq hq mi2'' mi2
      rw [e1', e2'] at et4
      have e3' : Ws.map (·.2) = Us.map (·.2) := Mir.uniq hq miC (mi3.symm hq)
      have e4' : Ts4.map (·.2) = Us.map (·.2) := rr_one hq rt4 mi3.p (et4.symm.trans hq rt4.rows mi3.p.rows eu)
      have h4 := hT4.at_
      rw [e4', ← e3'] at h4
      exact neX_eq (hW.same (s17.trans (s18.trans s19))).at_ h4 ⟨_, rfl, iteF (go _ _ ⟨rfl, s011.trans (s12.trans (s13.trans (s14.trans (s15.trans (s16.trans (s17.trans (s18.trans s19))))))), J19⟩)⟩
    rintro _ H12 ⟨rfl, s12, J12⟩
    refine ⟨_, rfl, a1, q, n, Ps, rfl, J12.a, n1, fun y2 Ms3 H13 s13 mi1'' hM3 => ⟨_, rfl, a2, q, n, Rs, rfl, (J12.same s13).b, n1, fun y3 Ns3 H14 s14 mi2'' hN3 => ?_⟩⟩
    have J14 := (J12.same s13).same s14
    refine ⟨y2, y3, q, n, Ms3, Ns3, rfl, hM3.same s14, hN3, fun c1 H15 s15 e1 => ?_⟩
    have J15 := J14.same s15
    refine ⟨_, .bool c1, rfl, .bl _, (sz_bool (b := 0) (k := 0)).told (by decide) (by decide), ?_⟩
    refine ⟨_, rfl, _, rfl, a2, a1, q, n, Rs, Ps, rfl, J15.b, J15.a, fun c2 H16 s16 e2 => ?_⟩
    have ec : c1 = c2 := by
      rw [Bool.eq_iff_iff]
      exact (e1.trans (within_mir hq mi1'' mi2'')).trans e2.symm
    subst ec
    refine ⟨_, .bool c1, rfl, .bl _, (sz_bool (b := 0) (k := 0)).told (by decide) (by decide), rfl, ?_⟩
    rw [decide_eq_true rfl]
    exact k _ (s12.trans (s13.trans (s14.trans (s15.trans s16))))
end
end K09
end
section
set_option maxRecDepth 100000
set_option maxHeartbeats 8000000
set_option exponentiation.threshold 9000
namespace K09
open PySem PySem.Spec PyProof.Rows L2 MB LM
open LamX hiding takes0
theorem paired_rep {R : V → List Int → Prop} {x : V} {r : List Int} (h : R x r) : ∀ k : Nat, Paired R (List.replicate k x) (List.replicate k r)
  | 0 => .nil
  | k + 1 => .cons h (paired_rep h k)
theorem seq_cutR {t u : TS} {D : Ends} {σ : L2.St} {H : Hp} (P : L2.St → Hp → Prop) (h1 : ∀ D' : Ends, D'.rt = D.rt → (∀ σ' H', P σ' H' → D'.nx σ' H') → t D' σ H) (h2 : ∀ σ' H', P σ' H' → u D σ' H') : tSeq t u D σ H := h1 { D with nx := u D } rfl h2
theorem ix_nat {n j : Nat} (h : j < n) : ixN n (j : Int) = some j := by
  unfold ixN
  rw [if_pos (by omega), if_pos (by omega)]
  rfl
theorem int_nat {i : Int} (h : 0 ≤ i) : ∃ j : Nat, i = (j : Int) := ⟨i.toNat, (Int.toNat_of_nonneg h).symm⟩
theorem paired_get {α β : Type} {R : α → β → Prop} {xs : List α} {ys : List β} (h : Paired R xs ys) {i : Nat} (hi : i < ys.length) : ∃ x, xs[i]? = some x ∧ R x ys[i] := by
  have hl := h.length
  obtain ⟨y, hy, r⟩ := paired_at h (List.getElem?_eq_getElem (show i < xs.length by omega))
  rw [List.getElem?_eq_getElem hi] at hy
  exact ⟨_, List.getElem?_eq_getElem (by omega), by rw [Option.some.inj hy]; exact r⟩
theorem paired_set {α β : Type} {R : α → β → Prop} {xs : List α} {ys : List β} (h : Paired R xs ys) {x : α} {y : β} (r : R x y) : ∀ i, Paired R (xs.set i x) (ys.set i y) := by
  induction h with
  | nil => intro i; exact .nil
  | cons r0 k ih =>
    intro i
    cases i with
    | zero => exact .cons r k
    | succ i => exact .cons r0 (ih i)
theorem paired_take {α β : Type} {R : α → β → Prop} {xs : List α} {ys : List β} (h : Paired R xs ys) : ∀ i, Paired R (xs.take i) (ys.take i) := by
  induction h with
  | nil => intro i; rw [List.take_nil, List.take_nil]; exact .nil
  | cons r0 k ih =>
    intro i
    cases i with
    | zero => exact .nil
    | succ i => exact .cons r0 (ih i)
theorem paired_drop {α β : Type} {R : α → β → Prop} {xs : List α} {ys : List β} (h : Paired R xs ys) : ∀ i, Paired R (xs.drop i) (ys.drop i) := by
  induction h with
  | nil => intro i; rw [List.drop_nil, List.drop_nil]; exact .nil
  | cons r0 k ih =>
    intro i
    cases i with
    | zero => exact .cons r0 k
    | succ i => exact ih i
section
variable {q : Int} {n : Nat} {Ms : List (List Int)}
theorem allR_set {i : Nat} {x : List Int} (h : AllR q n Ms) (hx : Wd q n x) : AllR q n (Ms.set i x) := fun r hr => by
  rcases List.mem_or_eq_of_mem_set hr with hr | rfl
  · exact h r hr
  · exact hx
end
theorem paired_cut {α : List Int → Prop} {R : V → List Int → Prop} {xs : List V} {ys : List (List Int)} (h : Paired R xs ys) (lo hi : Option Int) : ∃ zs, Paired R (cutV xs lo hi) zs ∧ (∀ z ∈ zs, z ∈ ys) ∧ zs.length ≤ ys.length := by
  unfold cutV
  refine ⟨_, paired_take (paired_drop h _) _, fun z hz => List.mem_of_mem_drop (List.mem_of_mem_take hz), ?_⟩
  rw [List.length_take, List.length_drop]
  omega
section
variable {K : PySem.W.Frag} {d l L : Addr} {q : Int} {n m : Nat} {vs : List V} {Ms : List (List Int)} {H : Hp}
theorem cut_rd {lo hi : Option Int} {Q : VK} (D : Deck kL H d l) (S : SomeE K d l L q n m vs Ms H) (k : ∀ p vs' Ms' H', H p = none → Same H H' → SomeE K d l p q n m vs' Ms' H' → Q (.ref p) H') : rSlL K (.ref L) lo hi H Q := by
  obtain ⟨zs, h1, h2, h3⟩ := paired_cut (α := fun _ => True) S.pr lo hi
  refine ⟨L, vs, rfl, SqL.of S.li, fun p hp => ?_⟩
  obtain ⟨p1, p2⟩ := D.off hp
  have s1 := same_upd (o := .lst (cutV vs lo hi)) hp
  exact k p _ zs _ hp s1 ⟨upd_same, p1, p2, rows_same s1 h1, fun r hr => S.al r (h2 r hr), Nat.le_trans h3 S.le⟩
theorem catl_rd {L2 : Addr} {m2 : Nat} {vs2 : List V} {Ms2 : List (List Int)} {Q : VK} (D : Deck kL H d l) (S : SomeE K d l L q n m vs Ms H) (S2 : SomeE K d l L2 q n m2 vs2 Ms2 H) (hm : m + m2 ≤ 1000) (k : ∀ p vs' Ms' H', H p = none → Same H H' → SomeE K d l p q n (m + m2) vs' Ms' H' → Q (.ref p) H') : rCat (.ref L) (.ref L2) H Q := by
  have l1 := S.pr.length
  have l2 := S2.pr.length
  have e1 := S.le
  have e2 := S2.le
  refine ⟨L, L2, vs, vs2, rfl, rfl, S.li, S2.li, line_s (by omega), fun p hp => ?_⟩
  obtain ⟨p1, p2⟩ := D.off hp
  have s1 := same_upd (o := .lst (vs ++ vs2)) hp
  exact k p _ (Ms ++ Ms2) _ hp s1 ⟨upd_same, p1, p2, rows_same s1 (paired_app S.pr S2.pr), allR_app S.al S2.al, by rw [List.length_append]; omega⟩
end
theorem bookR_but {K : PySem.W.Frag} {mg : Str → Option Value} {T : Txt K mg} {d l : Addr} {H H' : Hp} {b : Addr} {q : Int} {n : Nat} {Ps : List (Nat × List Int)} (h : BookR T H b q n Ps) (D : Deck kL H d l) (e : But d l H H') : BookR T H' b q n Ps := by
  obtain ⟨⟨dx, fs, z, h1, h2, h3, h4, h5, a, vs, rfl, h6, h7⟩, hr, hq, h8⟩ := h
  have nb : b ≠ d ∧ b ≠ l := by
    obtain ⟨m, m', cs, k1, k2, _⟩ := D.ex
    exact ⟨ne_of h1 k1 (by intro z; cases z), ne_of h1 k2 (by intro z; cases z)⟩
  exact ⟨⟨dx, fs, _, e _ _ h1 nb.1 nb.2, h2, h3, h4, h5, a, vs, rfl, e.tup D h6, rows_but D e h7⟩, hr, hq, h8⟩
section
variable {w : World} {K : PySem.W.Frag} {mg : Str → Option Value} {base : Heap}
def spNear (T : Txt K mg) : Sp := fun vs H Q _ => ∃ (d l a : Addr) (q : Int) (n : Nat) (Ps : List (Nat × List Int)), vs = [.ref d, .int q, .int (n : Int), .ref a] ∧ Deck kL H d l ∧ BookR T H a q n Ps ∧ 1 ≤ n ∧
  ∀ L vs Ms H', But d l H H' → Deck kL H' d l → SomeE K d l L q n 30 vs Ms H' → Q (.ref L) H'
theorem ok__law_near (T : Txt K mg) : FnOk P w K mg base CX0 9 T.a__law_near T.d__law_near P__law_near (spNear T) := by
  refine T.F__law_near.ok sc__law_near (fun vs H Q E h => ?_) (fun cdv A outer s H vs Q E hr h => ?_)
  · obtain ⟨d, l, a, q, n, Ps, rfl, _⟩ := h
    rfl
  · obtain ⟨d, l, a, q, n, Ps, rfl, D, hA, n1, k⟩ := h
    refine ⟨_, 
      (pss_cons (ps_par (i := 4) (j := 5) (by rfl) sc__law_near.nd rfl rfl (by decide) rfl rfl (pa_cons (pe_call (ok__law_draw T) (hr.mono (by decide)) rfl T.m__law_draw T.F__law_draw.kp T.b__law_draw .nil pass0 (pa_cons (pv 0) (pa_cons pe_int pa_nil))) (pa_cons (pe_callTy call_list_of (by rfl) T.m_list (by decide +kernel) (pa_cons (pe_fld (pv 3) rfl) pa_nil)) pa_nil)) (by rfl))
      (pss_cons (ps_if (pt_cmpR op_eq (pv 4) pe_int (nomark _)) (pss_one (ps_ret (pv 5))) pss_nil)
      (pss_cons (ps_if (pt_cmpR op_eq (pv 4) pe_int (nomark _)) (pss_one (ps_ret (pe_slice sl_list (pv 5) po_none (po_some (pe_call (ok__law_draw T) (hr.mono (by decide)) rfl T.m__law_draw T.F__law_draw.kp T.b__law_draw .nil pass0 (pa_cons (pv 0) (pa_cons (pe_op op_add (pe_callB call_len_seq (by rfl) T.m_len (by decide +kernel) (pa_cons (pv 5) pa_nil)) pe_int) pa_nil))))))) pss_nil)
      (pss_cons (ps_if (pt_cmpR op_eq (pv 4) pe_int (nomark _)) (pss_one (ps_ret (pe_op op_cat (pv 5) (pe_slice sl_list (pe_call (ok__law_rows T) (hr.mono (by decide)) rfl T.m__law_rows T.F__law_rows.kp T.b__law_rows .nil pass0 (pa_cons (pv 0) (pa_cons (pv 1) (pa_cons (pv 2) pa_nil)))) po_none (po_some pe_int))))) pss_nil)
      (pss_cons (ps_if (PW.pt (pw_and (pt_cmpR op_eq (pv 4) pe_int (nomark _)) (pw_and1 (pt_cmpR (op_neNil hr.units) (pv 5) (pe_lst pa_nil) (nomark _))))) (pss_cons (ps_set (i := 6) sc__law_near.nd rfl (Or.inl rfl) (pe_call (ok__law_draw T) (hr.mono (by decide)) rfl T.m__law_draw T.F__law_draw.kp T.b__law_draw .nil pass0 (pa_cons (pv 0) (pa_cons (pe_callB call_len_seq (by rfl) T.m_len (by decide +kernel) (pa_cons (pv 5) pa_nil)) pa_nil))))
      (pss_cons (ps_asg (pe_call (ok__law_plus T) (hr.mono (by decide)) rfl T.m__law_plus T.F__law_plus.kp T.b__law_plus .nil pass0 (pa_cons (pv 1) (pa_cons (pe_ix (r := rIxL K) ix_list (pv 5) (pv 6) (fun _ _ => rfl)) (pa_cons (pe_callTy call_tuple_of (by rfl) T.m_tuple (by decide +kernel) (pa_cons (pe_lc (own := [("_law_place", 12)]) (g := gName 12) (tt := tYes) rfl sc__law_near.nd (pi_range1 rfl T.m_range (pa_cons (pv 2) pa_nil)) (blkOk_by (own := [("_law_place", 12)]) (N := N__law_near) (sc := (defScope s__law_near)) (by decide +kernel)) (fun _ _ _ _ _ => (pg_name (i := 12) sc__law_near.nd rfl (Or.inl rfl))) (fun _ _ _ _ _ => pts_nil) (fun _ _ _ _ _ => (pe_call (ok__law_draw T) (hr.mono (by decide)) rfl T.m__law_draw T.F__law_draw.kp T.b__law_draw .nil pass0 (pa_cons (pv 0) (pa_cons (pv 1) pa_nil))))) pa_nil)) pa_nil)))) (pg_sub (pv 5) (pv 6) set_list))
      (pss_one (ps_ret (pe_slice sl_list (pv 5) (po_some (pe_call (ok__law_draw T) (hr.mono (by decide)) rfl T.m__law_draw T.F__law_draw.kp T.b__law_draw .nil pass0 (pa_cons (pv 0) (pa_cons pe_int pa_nil)))) po_none))))) pss_nil)
      (pss_cons (ps_if (pt_cmpR op_eq (pv 4) pe_int (nomark _)) (pss_cons (ps_set (i := 7) sc__law_near.nd rfl (Or.inl rfl) (pe_op op_rep (pe_lst (pa_cons (pe_op op_repA (pe_tup (pa_cons pe_int pa_nil)) (pv 2)) pa_nil)) (pe_op op_add pe_int (pe_call (ok__law_draw T) (hr.mono (by decide)) rfl T.m__law_draw T.F__law_draw.kp T.b__law_draw .nil pass0 (pa_cons (pv 0) (pa_cons pe_int pa_nil))))))
      (pss_cons (ps_for PassesOwn.never rfl (pi_tup (pe_fld (pe_call (ok_mirror T) (hr.mono (by decide)) rfl T.m_mirror T.F_mirror.kp T.b_mirror .nil pass0 (pa_cons (pv 3) pa_nil)) rfl)) (pg_name (i := 8) sc__law_near.nd rfl (Or.inr rfl)) (pss_cons (ps_setLc (i := 9) (own := [("_law_word", 10)]) (g := gName 10) (tt := tYes) rfl sc__law_near.nd rfl rfl (sw_true rfl rfl rfl (by decide +kernel)) (pi_list (pv 7)) (blkOk_by (own := [("_law_word", 10)]) (N := N__law_near) (sc := (defScope s__law_near)) (by decide +kernel)) (fun _ _ _ _ _ => (pg_name (i := 10) sc__law_near.nd rfl (Or.inl rfl))) (fun _ _ _ _ _ => pts_nil) (fun _ _ _ _ _ => (pe_call (ok__law_draw T) (hr.mono (by decide)) rfl T.m__law_draw T.F__law_draw.kp T.b__law_draw .nil pass0 (pa_cons (pv 0) (pa_cons (pv 1) pa_nil)))))
      (pss_one (ps_setLc (i := 7) (own := [("_law_word", 10), ("_law_letter", 11)]) (g := gTup K 2 (gCons (gName 10) (gCons (gName 11) gNil))) (tt := tYes) rfl sc__law_near.nd rfl rfl (sw_true rfl rfl rfl (by decide +kernel)) (RZ.pi_zipA (by rfl) T.m_zip (pa_cons (pv 7) (pa_cons (pv 9) pa_nil))) (blkOk_by (own := [("_law_word", 10), ("_law_letter", 11)]) (N := N__law_near) (sc := (defScope s__law_near)) (by decide +kernel)) (fun _ _ _ _ _ => (pg_tup rfl (pgs_cons (pg_name (i := 10) sc__law_near.nd rfl (Or.inl rfl)) (pgs_cons (pg_name (i := 11) sc__law_near.nd rfl (Or.inl rfl)) pgs_nil)))) (fun _ _ _ _ _ => pts_nil) (fun _ _ _ _ _ => (pe_call (ok__law_plus T) (hr.mono (by decide)) rfl T.m__law_plus T.F__law_plus.kp T.b__law_plus .nil pass0 (pa_cons (pv 1) (pa_cons (pv 10) (pa_cons (pe_call (ok__law_times T) (hr.mono (by decide)) rfl T.m__law_times T.F__law_times.kp T.b__law_times .nil pass0 (pa_cons (pv 1) (pa_cons (pv 11) (pa_cons (pv 8) pa_nil)))) pa_nil)))))))))
      (pss_one (ps_ret (pe_op op_cat (pe_slice sl_list (pv 5) po_none (po_some (pe_call (ok__law_draw T) (hr.mono (by decide)) rfl T.m__law_draw T.F__law_draw.kp T.b__law_draw .nil pass0 (pa_cons (pv 0) (pa_cons pe_int pa_nil))))) (pv 7)))))) pss_nil)
      (pss_one (ps_ret (pe_call (ok__law_rows T) (hr.mono (by decide)) rfl T.m__law_rows T.F__law_rows.kp T.b__law_rows .nil pass0 (pa_cons (pv 0) (pa_cons (pv 1) (pa_cons (pv 2) pa_nil)))))))))))), ?_⟩
    have hq := hA.lq
    have n8 := hA.n8
    have q2 := hq.lo
    have q5 := hq.hi
    have lP := rr_len hA.rr
    dsimp only [gName]
    refine (seq_cut (fun σ' G => ∃ (way : Int) (L : Addr) (vs : List V), σ' = [some (.ref d), some (.int q), some (.int (n : Int)), some (.ref a), some (.int way), some (.ref L), none, none, none, none, none, none, none] ∧ H L = none ∧ But d l H G ∧ Deck kL G d l ∧ BookR T G a q n Ps ∧ SomeE K d l L q n 8 vs (Ps.map (·.2)) G) (fun D' go => ?_) ?_)
    · refine ⟨_, rfl, d, l, 6, rfl, by decide, by decide, D, fun way H1 _ _ e1 D1 => ?_⟩
      have A1 := bookR_but hA D e1
      obtain ⟨dx, fs, z, ha, aq, an, ar, ad, c, vs, rfl, hc, pc⟩ := id A1.at_
      refine ⟨_, rfl, a, _, dx, fs, _, rfl, ha, T.cl_Book, T.no_Book_rows, ar, c, vs, rfl, .inr hc, fun L hL => ⟨_, _, rfl, ?_⟩⟩
      obtain ⟨L1, L2⟩ := D1.off hL
      have s2 := same_upd (o := .lst vs) hL
      exact go _ _ ⟨way, L, vs, rfl, e1.free D1 hL, e1.same s2, D1.same s2, A1.same s2, upd_same, L1, L2, rows_same s2 pc, hA.rr.rows, by rw [List.length_map]; omega⟩
    rintro _ H1 ⟨way, L, vs, rfl, L0, b1, D1, A1, S1⟩
    have lv := S1.pr.length
    have lS := S1.le
    refine ⟨_, rfl, rfl, _, rfl, ite2 (fun _ => ⟨_, rfl, k L vs _ _ b1 D1 (S1.mono (by decide))⟩) (fun _ => ?_)⟩
    dsimp only [tNext]
    refine ⟨_, rfl, rfl, _, rfl, ite2 (fun _ => ?_) (fun _ => ?_)⟩
    · refine ⟨_, rfl, ?_⟩
      dsimp only [tNoPart, tPart]
      refine ⟨_, rfl, _, rfl, L, vs, rfl, .inl (SqL.of S1.li), _, _, rfl, rfl, d, l, _, rfl, by omega, ?_, D1, fun r H2 _ _ e2 D2 => ⟨r, rfl, ?_⟩⟩
      · exact Nat.lt_of_le_of_lt (show ((vs.length : Int) + 1).natAbs ≤ 9 by omega) (by decide)
      exact cut_rd D2 (S1.but D1 e2) fun p vs' Ms' H3 _ s3 S3 => k p _ _ _ ((b1.trans e2).same s3) (D2.same s3) (S3.mono (by decide))
    dsimp only [tNext]
    refine ⟨_, rfl, rfl, _, rfl, ite2 (fun _ => ?_) (fun _ => ?_)⟩
    · refine ⟨_, rfl, _, rfl, _, rfl, _, rfl, d, l, q, n, rfl, D1, hq, n1, n8, fun L' vs' Ms' H2 _ e2 D2 S2 => ?_⟩
      dsimp only [tNoPart, tPart]
      refine ⟨2, rfl, cut_rd D2 S2 fun p vs3 Ms3 H3 _ s3 S3 => ?_⟩
      have D3 := D2.same s3
      exact catl_rd D3 ((S1.but D1 e2).same s3) S3 (by decide) fun p4 vs4 Ms4 H4 _ s4 S4 => k p4 _ _ _ (((b1.trans e2).same s3).same s4) (D3.same s4) (S4.mono (by decide))
    dsimp only [tNext]
    have qb : q.natAbs < 2 ^ 8000 := Nat.lt_of_le_of_lt (show q.natAbs ≤ 5 by omega) (by decide)
    refine (seq_cutR (fun σ' G => σ' = [some (.ref d), some (.int q), some (.int (n : Int)), some (.ref a), some (.int way), some (.ref L), none, none, none, none, none, none, none] ∧ But d l H G ∧ Deck kL G d l ∧ BookR T G a q n Ps ∧ SomeE K d l L q n 8 vs (Ps.map (·.2)) G) (fun D' er go => ?_) ?_)
    · refine ⟨_, rfl, rfl, _, rfl, ite2 (fun _ => ?_) (fun _ => iteF (go _ _ ⟨rfl, b1, D1, A1, S1⟩))⟩
      refine ⟨_, rfl, line_s (Nat.zero_le _), fun N hN => ?_⟩
      have s2 := same_upd (o := .lst []) hN
      have D2 := D1.same s2
      have S2 := S1.same s2
      have b2 := b1.same s2
      have A2 := A1.same s2
      have g2 : (upd H1 N (.lst [])) N = some (.lst []) := upd_same
      generalize upd H1 N (.lst []) = H2 at s2 D2 S2 b2 A2 g2 ⊢
      refine ⟨L, N, vs, rfl, rfl, SqL.of S2.li, SqL.of g2, _, rfl, ite2 (fun hne => ?_) (fun _ => go _ _ ⟨rfl, b2, D2, A2, S2⟩)⟩
      have hv1 : 0 < vs.length := by
        cases vs with
        | nil => cases hne
        | cons _ _ => exact Nat.zero_lt_succ _
      clear g2 s2 go hne D1 S1 b1 A1 hN
      refine ⟨_, rfl, _, rfl, L, vs, rfl, .inl (SqL.of S2.li), d, l, _, rfl, by omega, Nat.lt_of_le_of_lt (show ((vs.length : Nat) : Int).natAbs ≤ 8 by omega) (by decide), D2, fun r H3 r0 r1 e3 D3 => ?_⟩
      have S3 := S2.but D2 e3
      have b3 := b2.trans e3
      obtain ⟨j, rfl⟩ := int_nat r0
      have hj : j < vs.length := by omega
      obtain ⟨x, hx, tx⟩ := paired_get S3.pr (i := j) (by omega)
      have wx := hA.rr.rows _ (List.getElem_mem (show j < (Ps.map (·.2)).length by omega))
      generalize (Ps.map (·.2))[j]'(by omega) = row at tx wx
      dsimp only [gName]
      refine ⟨_, rfl, _, rfl, _, rfl, L, vs, (j : Int), x, rfl, rfl, SqL.of S3.li, atI_nat hx, ?_⟩
      refine ⟨_, rfl, _, rfl, by omega, by omega, fun M hM => ?_⟩
      obtain ⟨M1, M2⟩ := D3.off hM
      refine lc_it (walk_range (lo := 0) (n := (n : Int).toNat))
        (fun i G => But d l H3 G ∧ Deck kL G d l ∧ ∃ ns : List Int, ns.length = i ∧ IsRow q ns ∧ G M = some (.lst (ns.map V.int)))
        ⟨(But.refl (d := d) (l := l)).upd hM, D3.upd M1 M2, [], rfl, (fun _ h => by cases h), upd_same⟩ (fun _ _ _ _ => trivial) ?_ ?_
      · rintro i x G _ hi ⟨e4, D4, ns, hn, hr4, hM4⟩ ⟨rfl, rfl⟩
        refine ⟨rfl, ?_⟩
        refine ⟨_, rfl, _, rfl, d, l, q, rfl, by omega, qb, D4, fun c G5 c0 c1 e5 D5 => ?_⟩
        have hM5 := e5 _ _ hM4 M1 M2
        refine ⟨_, hM5, ?_, (e4.trans e5).upd hM, D5.upd M1 M2, ns ++ [c], by rw [List.length_append, hn]; rfl, ?_, ?_⟩
        · rw [List.length_map, hn]
          exact line_le (by omega)
        · intro z hz
          rcases List.mem_append.mp hz with hz | hz
          · exact hr4 z hz
          · rw [List.mem_singleton.mp hz]
            exact ⟨c0, c1⟩
        · rw [upd_same, List.map_append]
          rfl
      · rintro G4 ⟨e4, D4, ns, hn, hr4, hM4⟩
        rw [Int.toNat_natCast] at hn
        refine ⟨M, _, rfl, .inl ⟨SqL.of hM4, fun p hp => ?_⟩⟩
        have s5 := same_upd (o := .tup (ns.map V.int)) hp
        have e5 := e4.same s5
        have S5 := S3.but D3 e5
        have t5 := tx.but D3 e5
        refine ⟨q, x, .ref p, row, ns, rfl, hq, t5, ⟨p, rfl, SqT.of upd_same⟩, by rw [wx.2]; omega, fun z G6 s6 tz => ?_⟩
        have S6 := S5.same s6
        refine ⟨_, rfl, _, rfl, L, vs, (j : Int), j, rfl, rfl, S6.li, ix_nat hj, ?_⟩
        have D6 := (D4.same s5).same s6
        have e06 := e5.same s6
        have S7 : SomeE K d l L q n 8 (vs.set j z) ((Ps.map (·.2)).set j (vsum q row ns)) (upd G6 L (.lst (vs.set j z))) :=
          ⟨upd_same, S6.nd, S6.nl, paired_set (rows_lst S6.li S6.pr) (tz.lst S6.li) j, allR_set hA.rr.rows (wd_sum hq wx ⟨hr4, hn⟩), by rw [List.length_set]; exact S6.le⟩
        have D7 := D6.upd S6.nd S6.nl (o := .lst (vs.set j z))
        have b7 := (b3.trans e06).upd L0 (o := .lst (vs.set j z))
        generalize upd G6 L (.lst (vs.set j z)) = G7 at S7 D7 b7 ⊢
        refine ⟨_, rfl, ?_⟩
        dsimp only [tNoPart, tPart]
        refine ⟨_, rfl, d, l, 2, rfl, by decide, by decide, D7, fun r8 G8 _ _ e8 D8 => ⟨r8, rfl, cut_rd D8 (S7.but D7 e8) fun p9 vs9 Ms9 G9 _ s9 S9 => ?_⟩⟩
        show D'.rt _ _
        rw [er]
        exact k p9 _ _ _ ((b7.trans e8).same s9) (D8.same s9) (S9.mono (by decide))
    rintro _ H2 ⟨rfl, b2, D2, A2, S2⟩
    clear b1 D1 A1 S1
    refine ⟨_, rfl, rfl, _, rfl, ite2 (fun _ => ?_) (fun _ => ?_)⟩
    ·
      refine (seq_cut (fun σ' G => ∃ (S : Addr) (ws : List V) (Ms : List (List Int)), σ' = [some (.ref d), some (.int q), some (.int (n : Int)), some (.ref a), some (.int way), some (.ref L), none, some (.ref S), none, none, none, none, none] ∧ But d l H G ∧ Deck kL G d l ∧ BookR T G a q n Ps ∧ SomeE K d l L q n 8 vs (Ps.map (·.2)) G ∧ SomeE K d l S q n 3 ws Ms G) (fun D' go => ?_) ?_)
      · refine ⟨line_s (show 1 ≤ 100000 by decide), fun p0 hp0 => ⟨_, rfl, ?_⟩⟩
        have s3 := same_upd (o := .tup [.int 0]) hp0
        refine rep_rd (c := 0) (k := (n : Int)) ⟨p0, rfl, SqT.of upd_same⟩ (by omega) (by omega) fun y G4 s4 ty => ⟨line_s (show 1 ≤ 100000 by decide), fun N hN => ?_⟩
        rw [Int.toNat_natCast] at ty
        have s34 := s3.trans s4
        have D4 := D2.same s34
        obtain ⟨N1, N2⟩ := D4.off hN
        have s5 := same_upd (o := .lst [y]) hN
        have g5 : (upd G4 N (.lst [y])) N = some (.lst [y]) := upd_same
        have ty5 := ty.same s5
        generalize upd G4 N (.lst [y]) = G5 at s5 g5 ty5 ⊢
        have s35 := s34.trans s5
        have D5 := D4.same s5
        refine ⟨_, rfl, d, l, 3, rfl, by decide, by decide, D5, fun r G6 r0 r1 e6 D6 => ⟨_, _, rfl, rfl, ?_⟩⟩
        have g6 := e6 _ _ g5 N1 N2
        have ty6 := ty5.but D5 e6
        refine ⟨N, _, [y], rfl, rfl, g6, ?_, ?_, ?_, fun S hS => ?_⟩
        · show -(2 : Int) ^ 63 ≤ 1 + r
          omega
        · show (1 : Int) + r < 2 ^ 63
          omega
        · refine line_s ?_
          show [y].length * ((1 : Int) + r).toNat ≤ 100000
          rw [List.length_singleton]
          omega
        obtain ⟨S1', S2'⟩ := D6.off hS
        have ef : ∀ k : Nat, (List.replicate k [y]).flatten = List.replicate k y := fun k => by simp
        rw [ef]
        generalize ek : ((1 : Int) + r).toNat = kk
        have s7 := same_upd (o := .lst (List.replicate kk y)) hS
        have e7 := ((But.of s35).trans e6).same s7
        refine go _ _ ⟨S, List.replicate kk y, List.replicate kk (zrow n), rfl, b2.trans e7, D6.same s7, bookR_but A2 D2 e7, S2.but D2 e7, ⟨upd_same, S1', S2', paired_rep (ty6.same s7) kk, fun r' hr' => ?_, by rw [List.length_replicate]; omega⟩⟩
        rw [List.eq_of_mem_replicate hr']
        exact wd_zero hq
      rintro _ H3 ⟨S, ws, Ms, rfl, b3, D3, A3, S3, W3⟩
      clear b2 D2 A2 S2
      refine (seq_cut (fun σ' G => ∃ (o8 o9 : Option V) (S : Addr) (ws : List V) (Ms : List (List Int)), σ' = [some (.ref d), some (.int q), some (.int (n : Int)), some (.ref a), some (.int way), some (.ref L), none, some (.ref S), o8, o9, none, none, none] ∧ But d l H G ∧ Deck kL G d l ∧ SomeE K d l L q n 8 vs (Ps.map (·.2)) G ∧ SomeE K d l S q n 3 ws Ms G) (fun D' go => ?_) ?_)
      · refine ⟨_, rfl, a, q, n, Ps, rfl, A3, n1, fun m Qs H4 s4 mir hM => ?_⟩
        obtain ⟨dx, fs, z, hm, mq, mn, mr, md, c, vc, rfl, hc, pc⟩ := id hM.at_
        have D4 := D3.same s4
        refine ⟨m, _, dx, fs, _, rfl, hm, T.cl_Book, T.no_Book_rows, mr, c, rfl, ⟨vc, hc⟩, for_it (walk_tup (K := K) (a := c) (xs := vc))
          (fun i σ' G => ∃ (o8 o9 : Option V) (S : Addr) (ws : List V) (Ms : List (List Int)), σ' = [some (.ref d), some (.int q), some (.int (n : Int)), some (.ref a), some (.int way), some (.ref L), none, some (.ref S), o8, o9, none, none, none] ∧ But d l H4 G ∧ Deck kL G d l ∧ SomeE K d l S q n 3 ws Ms G)
          ⟨none, none, S, ws, Ms, rfl, But.refl, D4, W3.same s4⟩ (fun i σ' G _ ⟨_, _, _, _, _, _, e, _⟩ => e.tup D4 hc) ?_ ?_⟩
        · rintro i v _ G G' hi ⟨o8, o9, S, ws, Ms, rfl, e5, D5, W5⟩ ⟨rfl, hv⟩
          obtain ⟨r, hr2, tr⟩ := paired_at pc hv
          have wr := mir.r.rows r (List.mem_of_getElem? hr2)
          have tr5 := tr.but D4 e5
          have lw := W5.pr.length
          have lM := W5.le
          clear go
          dsimp only [gName]
          refine ⟨_, rfl, S, rfl, ⟨_, SqL.of W5.li⟩, fun Z hZ => ?_⟩
          obtain ⟨Z1, Z2⟩ := D5.off hZ
          refine lc_it (walk_list (K := K) (a := S) (xs := ws))
            (fun j G2 => But d l G' G2 ∧ Deck kL G2 d l ∧ ∃ ls : List Int, ls.length = j ∧ IsRow q ls ∧ G2 Z = some (.lst (ls.map V.int)))
            ⟨(But.refl (d := d) (l := l)).upd hZ, D5.upd Z1 Z2, [], rfl, (fun _ h => by cases h), upd_same⟩ (fun j G2 _ ⟨e, _⟩ => SqL.of (e _ _ W5.li W5.nd W5.nl)) ?_ ?_
          · rintro j v2 _ G2 hj ⟨e6, D6, ls, hl, hr6, hM6⟩ ⟨rfl, _⟩
            refine ⟨rfl, ?_⟩
            refine ⟨_, rfl, _, rfl, d, l, q, rfl, by omega, qb, D6, fun c' G7 c0 c1 e7 D7 => ?_⟩
            have hM7 := e7 _ _ hM6 Z1 Z2
            refine ⟨_, hM7, ?_, (e6.trans e7).upd hZ, D7.upd Z1 Z2, ls ++ [c'], by rw [List.length_append, hl]; rfl, ?_, ?_⟩
            · rw [List.length_map, hl]
              exact line_le (by omega)
            · intro z hz
              rcases List.mem_append.mp hz with hz | hz
              · exact hr6 z hz
              · rw [List.mem_singleton.mp hz]
                exact ⟨c0, c1⟩
            · rw [upd_same, List.map_append]
              rfl
          rintro G2 ⟨e6, D6, ls, hl, hr6, hM6⟩
          have W6 := W5.but D5 e6
          have tr6 := tr5.but D5 e6
          refine ⟨_, rfl, _, rfl, S, Z, ws, ls.map V.int, rfl, .inl ⟨SqL.of W6.li, SqL.of hM6, fun Y hY => ?_⟩⟩
          obtain ⟨Y1, Y2⟩ := D6.off hY
          refine lc_it (walk_zip (K := K) (a := S) (b := Z) (xs := ws) (ys := ls.map V.int) rfl)
            (fun j G3 => Same G2 G3 ∧ ∃ (zs : List V) (Ns : List (List Int)), Ns.length = j ∧ AllR q n Ns ∧ G3 Y = some (.lst zs) ∧ Paired (TI K G3) zs Ns)
            ⟨same_upd hY, [], [], rfl, (fun _ h => by cases h), upd_same, .nil⟩ (fun j G3 _ ⟨e, _⟩ => ⟨SqL.of (e _ _ W6.li), SqL.of (e _ _ hM6)⟩) ?_ ?_
          · rintro j v3 G3 _ hj ⟨e7, zs, Ns, hN, aN, hY7, pN⟩ ⟨T0, x1, y1, rfl, hT0, rfl, hx, hy⟩
            obtain ⟨u, hu2, tu⟩ := paired_at W6.pr hx
            have wu := W6.al u (List.mem_of_getElem? hu2)
            obtain ⟨c', hc', rfl⟩ := int_at hy
            have lc' := hr6 c' (List.mem_of_getElem? hc')
            have s8 := same_upd (o := .tup [x1, .int c']) hT0
            have e8 := e7.trans s8
            refine ⟨T0, _, rfl, SqT.of upd_same, rfl, _, _, rfl, _, _, rfl, rfl, rfl, ?_⟩
            refine ⟨_, rfl, _, rfl, _, rfl, _, rfl, _, rfl, q, c', v, r, rfl, hq, lc', tr6.same e8, wr.1, by rw [wr.2]; omega, fun z1 G9 s9 tz1 => ?_⟩
            refine ⟨q, x1, z1, u, vtim q c' r, rfl, hq, (tu.same e8).same s9, tz1, by rw [wu.2]; omega, fun z2 G10 s10 tz2 => ?_⟩
            have s810 := s8.trans (s9.trans s10)
            have hY10 := s810 _ _ hY7
            have lz := pN.length
            refine ⟨zs, hY10, line_le (by rw [lz, hN]; rw [List.length_map] at hj; omega), same_set hY (e7.trans s810), zs ++ [z2], Ns ++ [vsum q u (vtim q c' r)], by rw [List.length_append, hN]; rfl, allR_app aN (allR_one (wd_sum hq wu (wd_tim hq lc' wr))), upd_same, ?_⟩
            exact paired_app (rows_lst hY10 (rows_same s810 pN)) (.cons (tz2.lst hY10) .nil)
          · rintro G3 ⟨e7, zs, Ns, hN, aN, hY7, pN⟩
            refine ⟨_, _, Y, zs, Ns, rfl, (e5.trans e6).same e7, D6.same e7, hY7, Y1, Y2, pN, aN, ?_⟩
            rw [hN]
            exact Nat.le_trans (Nat.min_le_left _ _) (by omega)
        · rintro _ G ⟨o8, o9, S, ws, Ms, rfl, e5, D5, W5⟩
          have e35 := (But.of s4).trans e5
          exact go _ _ ⟨o8, o9, S, ws, Ms, rfl, b3.trans e35, D5, S3.but D3 e35, W5⟩
      rintro _ H4 ⟨o8, o9, S, ws, Ms, rfl, b4, D4, S4, W4⟩
      refine ⟨_, rfl, ?_⟩
      dsimp only [tNoPart, tPart]
      refine ⟨_, rfl, d, l, 2, rfl, by decide, by decide, D4, fun r5 H5 _ _ e5 D5 => ⟨r5, rfl, cut_rd D5 (S4.but D4 e5) fun p6 vs6 Ms6 H6 _ s6 S6 => ?_⟩⟩
      have D6 := D5.same s6
      refine ⟨_, rfl, catl_rd D6 S6 ((W4.but D4 e5).same s6) (by decide) fun p7 vs7 Ms7 H7 _ s7 S7 => ?_⟩
      exact k p7 _ _ _ (((b4.trans e5).same s6).same s7) (D6.same s7) (S7.mono (by decide))
    dsimp only [tNext]
    refine ⟨_, rfl, _, rfl, _, rfl, d, l, q, n, rfl, D2, hq, n1, n8, fun L' vs' Ms' H3 _ e3 D3 S3 => ?_⟩
    exact k L' _ _ _ (b2.trans e3) D3 (S3.mono (by decide))
end
end K09
end
section
set_option maxRecDepth 100000
set_option maxHeartbeats 8000000
set_option exponentiation.threshold 9000
namespace K09
open PySem PySem.Spec PyProof.Rows L2 MB LM
open LamX hiding takes0
theorem meets_of {K : PySem.W.Frag} {C S : Addr} {r : Bool} (te : PySem.W.exmOne K (.ref S) (.ref S) = some true) (h : PySem.W.subIn K (.ref C) (.ref S) = some r) : PySem.W.exmOne K (.ref C) (.ref S) = some r := by
  have te' : (if (PySem.W.subIn K (.ref S) (.type "BaseException") == some true) = true then (if ((PySem.W.clsIn K S).isSome && PySem.W.typeIn K (.ref S) == some (.type "type")) = true then PySem.W.subIn K (.ref S) (.ref S) else none) else none) = some true := te
  show (if (PySem.W.subIn K (.ref S) (.type "BaseException") == some true) = true then (if ((PySem.W.clsIn K S).isSome && PySem.W.typeIn K (.ref S) == some (.type "type")) = true then PySem.W.subIn K (.ref C) (.ref S) else none) else none) = some r
  split at te'
  · rename_i h1
    rw [if_pos h1]
    split at te'
    · rename_i h2
      rw [if_pos h2]
      exact h
    · cases te'
  · cases te'
section
variable {w : World} {K : PySem.W.Frag} {mg : Str → Option Value} {base : Heap}
def ClsF (T : Txt K mg) (C : Addr) (wd : Str) : Prop := (C = T.C_OtherFields ∧ wd = "fields") ∨ (C = T.C_OtherPlaces ∧ wd = "places")
def ETold (T : Txt K mg) (Q : VK) : XK := fun cls d H' => ∃ (C : Addr) (wd : Str), ClsF T C wd ∧ cls = .ref C ∧ d = none ∧ ∀ p, H' p = none → Q (.ref p) (upd H' p (.tup [.str wd, .non]))
def QT (Q : VK) : VK := fun v H' => [V.str "told", v].length ≤ sizeLine ∧ ∀ p, H' p = none → Q (.ref p) (upd H' p (.tup [.str "told", v]))
def TTold (T : Txt K mg) : (XK → Hp → VK → Prop) → Hp → VK → Prop := fun tl H Q => tl (ETold T Q) H (QT Q)
theorem gives__law_told (T : Txt K mg) {CX : CXT} {N' : List Str} {qual q : Str} {scope : Scope} {f : Addr} {cd : Value} {A : Around} {outer : List Env} {s : Shared} {H : Hp} {E : XK} {cdg : Value} :
    GivesTo (cxOf CX P w K mg base N' qual scope f cd A outer s H E).nox N__law_told "_law_told" (defScope s__law_told) T.a__law_told cdg (defBody s__law_told) "_law_deed" q (TTold T) := by
  intro f c' s H Q tl act hc h
  refine ⟨_, 
      (pss_one (ps_tryMix (Wout := fun _ _ _ _ => False) rfl rfl sc__law_told.nd takes0 (fun W pn xe tk pass => (pss_one (ps_ret (pe_tup (pa_cons pe_str (pa_cons (pe_deed 2 (fun W E p1 p2 tk hW => act W _ _ E p1 p2 tk hW) tk) pa_nil)))))) (.named (i := 1) ⟨rfl, by decide, Or.inl T.e_OtherFields.gC⟩ rfl rfl (fun a oe cls d pn hz hf => (pss_one (ps_ret (pe_tup (pa_cons pe_str (pa_cons pe_non pa_nil)))))) (.named (i := 1) ⟨rfl, by decide, Or.inl T.e_OtherPlaces.gC⟩ rfl rfl (fun a oe cls d pn hz hf => (pss_one (ps_ret (pe_tup (pa_cons pe_str (pa_cons pe_non pa_nil)))))) .nil)))), ?_⟩
  have z2 : (2 : Nat) ≤ sizeLine := line_s (by decide)
  refine ⟨ETold T Q, ?_, rfl, hc, ?_⟩
  · rintro cls d σ' H' ⟨C, wd, hC, rfl, rfl, k⟩ hl
    rcases hC with ⟨rfl, rfl⟩ | ⟨rfl, rfl⟩
    · refine ⟨true, T.e_OtherFields.te, fun _ a ha => ?_, fun z => Bool.noConfusion z⟩
      exact ⟨z2, fun p hp => k p hp⟩
    · refine ⟨false, meets_of T.e_OtherFields.te T.x_pf, fun z => Bool.noConfusion z, fun _ => ⟨true, T.e_OtherPlaces.te, fun _ a ha => ?_, fun z => Bool.noConfusion z⟩⟩
      exact ⟨z2, fun p hp => k p hp⟩
  · exact h
def qL_law : Str := (envOfC "law" (defScope s_law) 0 0 .none).qual ++ "<lambda>"
def TL (T : Txt K mg) : List (Addr × Str) := [(T.tP_law, qL_law)]
theorem hu_law (T : Txt K mg) : ∀ p ∈ TL T, p.1 = T.tP_law → p.2 = qL_law := fun p hp _ => by
  rw [List.mem_singleton.mp hp]
structure Env9 (T : Txt K mg) (d l b L : Addr) (q : Int) (n : Nat) (Ps : List (Nat × List Int)) (vs : List V) (Ms : List (List Int)) (H : Hp) : Prop where
  D : Deck kL H d l
  t : Tabs (TL T) H
  B : BookR T H b q n Ps
  S : SomeE K d l L q n 9 vs Ms H
theorem bookR_ext {T : Txt K mg} {H H' : Hp} {b : Addr} {q : Int} {n : Nat} {Ps : List (Nat × List Int)} (h : BookR T H b q n Ps) (e : ExtN H H') : BookR T H' b q n Ps := by
  obtain ⟨⟨dx, fs, z, h1, h2, h3, h4, h5, a, vs, rfl, h6, h7⟩, hr, hq, h8⟩ := h
  exact ⟨⟨dx, fs, _, e _ _ h1 (by intro ps z; cases z), h2, h3, h4, h5, a, vs, rfl, MB.SqT.extN e h6, rows_extN e h7⟩, hr, hq, h8⟩
section
variable {T : Txt K mg} {d l b L : Addr} {q : Int} {n : Nat} {Ps : List (Nat × List Int)} {vs : List V} {Ms : List (List Int)} {H H' : Hp}
theorem Env9.but (h : Env9 T d l b L q n Ps vs Ms H) (e : But d l H H') (D' : Deck kL H' d l) : Env9 T d l b L q n Ps vs Ms H' := ⟨D', tabs_but h.D e h.t, bookR_but h.B h.D e, h.S.but h.D e⟩
theorem Env9.same (h : Env9 T d l b L q n Ps vs Ms H) (e : Same H H') : Env9 T d l b L q n Ps vs Ms H' := ⟨h.D.same e, h.t.ext e, h.B.same e, h.S.same e⟩
theorem Env9.ext (h : Env9 T d l b L q n Ps vs Ms H) (e : ExtN H H') (t : Tabs (TL T) H') : Env9 T d l b L q n Ps vs Ms H' := ⟨h.D.extN e, t, bookR_ext h.B e, h.S.ext e⟩
end
theorem take16 (vs : List V) : cutV vs none (some (16 : Int)) = vs.take 16 := by
  unfold cutV
  rw [show (16 : Int) = ((16 : Nat) : Int) from rfl, HT.sIx_nat]
  show (vs.drop 0).take (min 16 vs.length - 0) = _
  rw [List.drop_zero, Nat.sub_zero]
  by_cases h : 16 ≤ vs.length
  · rw [Nat.min_eq_left h]
  · rw [Nat.min_eq_right (by omega), List.take_length, List.take_of_length_le (by omega)]
theorem to16_rd {K : PySem.W.Frag} {d l L : Addr} {q : Int} {n m : Nat} {vs : List V} {Ms : List (List Int)} {H : Hp} {Q : VK} (D : Deck kL H d l) (S : SomeE K d l L q n m vs Ms H) (k : ∀ p H', Same H H' → SomeE K d l p q n 16 (vs.take 16) (Ms.take 16) H' → Q (.ref p) H') : rSlL K (.ref L) none (some (16 : Int)) H Q := by
  refine ⟨L, vs, rfl, SqL.of S.li, fun p hp => ?_⟩
  rw [take16]
  obtain ⟨p1, p2⟩ := D.off hp
  have s1 := same_upd (o := .lst (vs.take 16)) hp
  exact k p _ s1 ⟨upd_same, p1, p2, paired_take (rows_same s1 S.pr) 16, fun r hr => S.al r (List.mem_of_mem_take hr), by rw [List.length_take]; omega⟩
theorem mk_book {T : Txt K mg} {q : Int} {n m : Nat} {d l L : Addr} {vs : List V} {Ms : List (List Int)} {G : Hp} {Q : VK} {p b dx : Addr} (hq : LetQ q) (n1 : 1 ≤ n) (n8 : n ≤ 8) (S : SomeE K d l L q n m vs Ms G) (m16 : m ≤ 16) (hp : G p = none)
    (hb : upd G p (.tup vs) b = none) (hdx : upd G p (.tup vs) dx = none) (hne : dx ≠ b)
    (k : ∀ Ps H', Same G H' → gauss q n Ms = Ps.map (·.2) → BookR T H' b q n Ps → Q .non H') :
    spBook K T.C_Book [.ref b, .int q, .int (n : Int), .ref p] (upd (upd (upd G p (.tup vs)) dx (.own b)) b (.ins T.C_Book dx [])) Q E0 := by
  have s4 := same_upd (o := .tup vs) hp
  have S4 := S.same s4
  have g4 : TupRows K (upd G p (.tup vs)) (.ref p) Ms := ⟨p, vs, rfl, SqT.of upd_same, S4.pr⟩
  generalize upd G p (.tup vs) = G4 at s4 S4 g4 hb hdx ⊢
  have hm2 : (upd G4 dx (.own b)) b = none := by rw [upd_ne hne.symm]; exact hb
  obtain ⟨Ps, p1, p2, p3⟩ := gauss_gen hq S.al
  refine ⟨G4, b, dx, q, n, .ref p, Ms, rfl, (same_upd hdx).trans (same_upd hm2), hb, upd_same, hq, ⟨n1, n8⟩, g4, S4.al, Nat.le_trans S4.le m16, fun H7 s7 hbk => ?_⟩
  rw [p2] at hbk
  exact k Ps H7 (s4.trans s7) p2 ⟨hbk, p1, hq, n8⟩
theorem ground {H G : Hp} (e : ExtN H G) : Same (noT H) G := (extN_noT e).trans noT_sub
theorem ext_lst {H G : Hp} {L : Addr} {o : HO} (e : ExtN H G) (n : noT H L = none) : ExtN H (upd G L o) := fun b u q nt => by
  have bL : b ≠ L := fun w => by
    have := noT_some q nt
    rw [w, n] at this
    cases this
  rw [upd_ne bL]
  exact e b u q nt
theorem tabs_lst {TT : List (Addr × Str)} {G : Hp} {L : Addr} {xs ys : List V} (t : Tabs TT G) (h : G L = some (.lst xs)) : Tabs TT (upd G L (.lst ys)) := fun p hp => by
  obtain ⟨ps, a1, a2, a3⟩ := t p hp
  refine ⟨ps, by rw [upd_ne (ne_of a1 h (by intro w; cases w))]; exact a1, a2, fun pos cv hc => ?_⟩
  obtain ⟨c, e1, e2⟩ := a3 pos cv hc
  exact ⟨c, e1, by rw [upd_ne (ne_of e2 h (codeO_form.2 _))]; exact e2⟩
theorem new_of {H G : Hp} {L : Addr} (e : ExtN H G) (h : G L = none) : noT H L = none := by
  cases q : noT H L with
  | none => rfl
  | some o =>
    have := ground e _ _ q
    rw [h] at this
    cases this
theorem mk_rows {T : Txt K mg} {z : Int} {y : Nat} {v : V} {As : List (List Int)} {G : Hp} {Q : VK} {m dx : Addr} (hz : LetQ z) (y1 : 1 ≤ y) (y8 : y ≤ 8) (hv : TupRows K G v As) (aA : AllR z y As) (l16 : As.length ≤ 16) (hm : G m = none) (hne : dx ≠ m) (hdx : G dx = none)
    (k : ∀ Fs H', Same G H' → BookR T H' m z y Fs → Q .non H') : spBook K T.C_Book [.ref m, .int z, .int (y : Int), v] (upd (upd G dx (.own m)) m (.ins T.C_Book dx [])) Q E0 := by
  have hm2 : (upd G dx (.own m)) m = none := by rw [upd_ne hne.symm]; exact hm
  obtain ⟨Fs, p1, p2, p3⟩ := gauss_gen hz aA
  refine ⟨G, m, dx, z, y, v, As, rfl, (same_upd hdx).trans (same_upd hm2), hm, upd_same, hz, ⟨y1, y8⟩, hv, aA, l16, fun H7 s7 hbk => ?_⟩
  rw [p2] at hbk
  exact k Fs H7 s7 ⟨hbk, p1, hz, y8⟩
theorem unfit_told {T : Txt K mg} {Q : VK} {Ha : Hp} {q1 q2 : Int} {n1 n2 : Nat} {wd : Str} (h1 : q1 ≠ q2 → wd = "fields") (h2 : q1 = q2 → wd = "places") (go : ∀ p H', Same Ha H' → SqT K H' p [.str wd, .non] → Q (.ref p) H') : Unfit T (ETold T Q) Ha q1 q2 n1 n2 where
  f := fun e H' s => ⟨T.C_OtherFields, wd, .inl ⟨rfl, h1 e⟩, rfl, rfl, fun p hp => go p _ (s.trans (same_upd hp)) (SqT.of upd_same)⟩
  p := fun e _ H' s => ⟨T.C_OtherPlaces, wd, .inr ⟨rfl, h2 e⟩, rfl, rfl, fun p hp => go p _ (s.trans (same_upd hp)) (SqT.of upd_same)⟩
theorem ok_law (T : Txt K mg) (sm : SM base) (tb_law : TabB base mg T.c_law T.tP_law) : FnG P w K mg base 13 T.a_law T.d_law P_law (spLaw K (TL T)) := by
  refine fnGL T.F_law sc_law (fun vs H Q E h => ?_) (fun A outer s H vs Q E hr hgu h => ?_)
  · obtain ⟨a, ns, rfl, _⟩ := h
    rfl
  · obtain ⟨a, ns, rfl, ha, hl, hT, qq⟩ := h
    refine ⟨_, 
      (pss_cons (ps_set (i := 1) sc_law.nd rfl (Or.inl rfl) (pe_call (ok__law_deck T) (hr.mono (by decide)) rfl T.m__law_deck T.F__law_deck.kp T.b__law_deck .nil pass0 (pa_cons (pv 0) pa_nil)))
      (pss_cons (ps_par (i := 2) (j := 3) (by rfl) sc_law.nd rfl rfl (by decide) rfl rfl (pa_cons (pe_op op_add pe_int (pe_call (ok__law_draw T) (hr.mono (by decide)) rfl T.m__law_draw T.F__law_draw.kp T.b__law_draw .nil pass0 (pa_cons (pv 1) (pa_cons pe_int pa_nil)))) (pa_cons (pe_op op_add pe_int (pe_call (ok__law_draw T) (hr.mono (by decide)) rfl T.m__law_draw T.F__law_draw.kp T.b__law_draw .nil pass0 (pa_cons (pv 1) (pa_cons pe_int pa_nil)))) pa_nil)) (by rfl))
      (pss_cons (ps_set (i := 4) sc_law.nd rfl (Or.inl rfl) (pe_call (ok__law_rows T) (hr.mono (by decide)) rfl T.m__law_rows T.F__law_rows.kp T.b__law_rows .nil pass0 (pa_cons (pv 1) (pa_cons (pv 2) (pa_cons (pv 3) pa_nil)))))
      (pss_cons (ps_set (i := 14) sc_law.nd rfl (Or.inr rfl) (pe_make T.mk_Book (ok_Book___init__ T) (hr.mono (by decide)) rfl T.g_Book T.b_Book___init__ .nil pass0 (pa_cons (pv 2) (pa_cons (pv 3) (pa_cons (pe_callTy call_tuple_of (by rfl) T.m_tuple (by decide +kernel) (pa_cons (pv 4) pa_nil)) pa_nil)))))
      (pss_cons (ps_for PassesOwn.never rfl (pi_range1 rfl T.m_range (pa_cons pe_int pa_nil)) (pg_name (i := 5) sc_law.nd rfl (Or.inl rfl)) (pss_cons (ps_set (i := 6) sc_law.nd rfl (Or.inl rfl) (pe_call (ok__law_near T) (hr.mono (by decide)) rfl T.m__law_near T.F__law_near.kp T.b__law_near .nil pass0 (pa_cons (pv 1) (pa_cons (pv 2) (pa_cons (pv 3) (pa_cons (pv 14) pa_nil))))))
      (pss_cons (ps_set (i := 7) sc_law.nd rfl (Or.inl rfl) (pe_make T.mk_Book (ok_Book___init__ T) (hr.mono (by decide)) rfl T.g_Book T.b_Book___init__ .nil pass0 (pa_cons (pv 2) (pa_cons (pv 3) (pa_cons (pe_callTy call_tuple_of (by rfl) T.m_tuple (by decide +kernel) (pa_cons (pe_slice sl_list (pv 6) po_none (po_some pe_int)) pa_nil)) pa_nil)))))
      (pss_cons (ps_set (i := 8) sc_law.nd rfl (Or.inl rfl) (pe_call (ok_mirror T) (hr.mono (by decide)) rfl T.m_mirror T.F_mirror.kp T.b_mirror .nil pass0 (pa_cons (pv 7) pa_nil)))
      (pss_cons (ps_if (PW.pt (pw_or (pt_not (pt_val (pe_callG (ok__law_is_book T sm) (hr.mono (by decide)) hgu rfl T.m__law_is_book T.F__law_is_book.kp T.b__law_is_book (pa_cons (pv 7) (pa_cons (pv 2) (pa_cons (pv 3) (pa_cons (pe_slice sl_list (pv 6) po_none (po_some pe_int)) pa_nil))))))) (pw_or (pt_not (pt_val (pe_callG (ok__law_is_mirror T sm) (hr.mono (by decide)) hgu rfl T.m__law_is_mirror T.F__law_is_mirror.kp T.b__law_is_mirror (pa_cons (pv 2) (pa_cons (pv 3) (pa_cons (pv 7) (pa_cons (pv 8) pa_nil))))))) (pw_or1 (pt_cmpR (op_neX (ok_Book___eq__ T) T.ne_Book T.eq_Book T.eqf_Book T.ob_Book T.b_Book___eq__ pass0 (hr.mono (by decide))) (pe_call (ok_mirror T) (hr.mono (by decide)) rfl T.m_mirror T.F_mirror.kp T.b_mirror .nil pass0 (pa_cons (pv 8) pa_nil)) (pv 7) (nomark _)))))) (pss_one (ps_ret pe_bl)) pss_nil)
      (pss_one (ps_if (pt_not (pt_val (pe_callG (ok__law_are_joined T sm) (hr.mono (by decide)) hgu rfl T.m__law_are_joined T.F__law_are_joined.kp T.b__law_are_joined (pa_cons (pv 2) (pa_cons (pv 3) (pa_cons (pv 14) (pa_cons (pv 7) pa_nil))))))) (pss_one (ps_ret pe_bl)) pss_nil)))))))
      (pss_cons (ps_if (PW.pt (pw_or (pt_not (pt_val (pe_callG (ok__law_is_mirror T sm) (hr.mono (by decide)) hgu rfl T.m__law_is_mirror T.F__law_is_mirror.kp T.b__law_is_mirror (pa_cons (pv 2) (pa_cons (pv 3) (pa_cons (pv 14) (pa_cons (pe_call (ok_mirror T) (hr.mono (by decide)) rfl T.m_mirror T.F_mirror.kp T.b_mirror .nil pass0 (pa_cons (pv 14) pa_nil)) pa_nil))))))) (pw_or1 (pt_cmpR (op_neX (ok_Book___eq__ T) T.ne_Book T.eq_Book T.eqf_Book T.ob_Book T.b_Book___eq__ pass0 (hr.mono (by decide))) (pe_call (ok_mirror T) (hr.mono (by decide)) rfl T.m_mirror T.F_mirror.kp T.b_mirror .nil pass0 (pa_cons (pe_call (ok_mirror T) (hr.mono (by decide)) rfl T.m_mirror T.F_mirror.kp T.b_mirror .nil pass0 (pa_cons (pv 14) pa_nil)) pa_nil)) (pv 14) (nomark _))))) (pss_one (ps_ret pe_bl)) pss_nil)
      (pss_cons (ps_for PassesOwn.never rfl (pi_range1 rfl T.m_range (pa_cons pe_int pa_nil)) (pg_name (i := 5) sc_law.nd rfl (Or.inl rfl)) (pss_cons (ps_par (i := 9) (j := 10) (by rfl) sc_law.nd rfl rfl (by decide) rfl rfl (pa_cons (pe_op op_add pe_int (pe_call (ok__law_draw T) (hr.mono (by decide)) rfl T.m__law_draw T.F__law_draw.kp T.b__law_draw .nil pass0 (pa_cons (pv 1) (pa_cons pe_int pa_nil)))) (pa_cons (pe_op op_add pe_int (pe_call (ok__law_draw T) (hr.mono (by decide)) rfl T.m__law_draw T.F__law_draw.kp T.b__law_draw .nil pass0 (pa_cons (pv 1) (pa_cons pe_int pa_nil)))) pa_nil)) (by rfl))
      (pss_cons (ps_set (i := 10) sc_law.nd rfl (Or.inl rfl) (pe_ifExp (pt_cmpR op_eq (pe_call (ok__law_draw T) (hr.mono (by decide)) rfl T.m__law_draw T.F__law_draw.kp T.b__law_draw .nil pass0 (pa_cons (pv 1) (pa_cons pe_int pa_nil))) pe_int (nomark _)) (pv 3) (pv 10)))
      (pss_one (ps_if (pt_cmpR (op_neD hr.units) (pe_tup (pa_cons (pv 9) (pa_cons (pv 10) pa_nil))) (pe_tup (pa_cons (pv 2) (pa_cons (pv 3) pa_nil))) (nomark _)) (pss_cons (ps_set (i := 13) sc_law.nd rfl (Or.inr rfl) (pe_make T.mk_Book (ok_Book___init__ T) (hr.mono (by decide)) rfl T.g_Book T.b_Book___init__ .nil pass0 (pa_cons (pv 9) (pa_cons (pv 10) (pa_cons (pe_op op_repA (pe_tup (pa_cons (pe_op op_repA (pe_tup (pa_cons pe_int pa_nil)) (pv 10)) pa_nil)) (pe_call (ok__law_draw T) (hr.mono (by decide)) rfl T.m__law_draw T.F__law_draw.kp T.b__law_draw .nil pass0 (pa_cons (pv 1) (pa_cons pe_int pa_nil)))) pa_nil)))))
      (pss_cons (ps_set (i := 11) sc_law.nd rfl (Or.inl rfl) (pe_ifExp (pt_cmpR op_ne (pv 9) (pv 2) (nomark _)) (pe_tup (pa_cons pe_str (pa_cons pe_non pa_nil))) (pe_tup (pa_cons pe_str (pa_cons pe_non pa_nil)))))
      (pss_cons (ps_set (i := 12) sc_law.nd rfl (Or.inl rfl) (pe_lst (pa_cons (pe_tell (T := TL T) (k := 8) (c := T.c_law) (P := T.tP_law) T.F__law_told T.b__law_told rfl T.m__law_told sc__law_told rfl (Or.inl rfl) (fun _ => gives__law_told T) tb_law rfl (.head _) (hu_law T) (hr.mono (by decide)) (lamS_by (sc := defScope s_law) (by decide +kernel)) rfl (fun _ _ _ _ _ => rfl)
        (fun A outer s H E f c' hr => (pe_callS (ok_sum_of T) (hr.mono (by decide)) rfl T.m_sum_of T.F_sum_of.kp T.b_sum_of (fun σ => passAt (takes_of rfl rfl rfl rfl) σ) (pa_cons (pv 14) (pa_cons (pv 13) pa_nil))))) (pa_cons (pe_tell (T := TL T) (k := 9) (c := T.c_law) (P := T.tP_law) T.F__law_told T.b__law_told rfl T.m__law_told sc__law_told rfl (Or.inl rfl) (fun _ => gives__law_told T) tb_law rfl (.head _) (hu_law T) (hr.mono (by decide)) (lamS_by (sc := defScope s_law) (by decide +kernel)) rfl (fun _ _ _ _ _ => rfl)
        (fun A outer s H E f c' hr => (pe_callS (ok_common T) (hr.mono (by decide)) rfl T.m_common T.F_common.kp T.b_common (fun σ => passAt (takes_of rfl rfl rfl rfl) σ) (pa_cons (pv 14) (pa_cons (pv 13) pa_nil))))) (pa_cons (pe_tell (T := TL T) (k := 8) (c := T.c_law) (P := T.tP_law) T.F__law_told T.b__law_told rfl T.m__law_told sc__law_told rfl (Or.inl rfl) (fun _ => gives__law_told T) tb_law rfl (.head _) (hu_law T) (hr.mono (by decide)) (lamS_by (sc := defScope s_law) (by decide +kernel)) rfl (fun _ _ _ _ _ => rfl)
        (fun A outer s H E f c' hr => (pe_callS (ok_is_within T) (hr.mono (by decide)) rfl T.m_is_within T.F_is_within.kp T.b_is_within (fun σ => passAt (takes_of rfl rfl rfl rfl) σ) (pa_cons (pv 14) (pa_cons (pv 13) pa_nil))))) pa_nil)))))
      (pss_cons (ps_expr (pe_bm PySem.F.plainAttrs_list PySem.F.slot_list_append PySem.F.type_list_append mt_append (pv 12) (pa_cons (pe_tell (T := TL T) (k := 8) (c := T.c_law) (P := T.tP_law) T.F__law_told T.b__law_told rfl T.m__law_told sc__law_told rfl (Or.inl rfl) (fun _ => gives__law_told T) tb_law rfl (.head _) (hu_law T) (hr.mono (by decide)) (lamS_by (sc := defScope s_law) (by decide +kernel)) rfl (fun _ _ _ _ _ => rfl)
        (fun A outer s H E f c' hr => (pe_callK0S (ok_is_within T) (hr.mono (by decide)) rfl T.m_is_within T.F_is_within.kp T.q_is_within_other_one (fun σ => passAt (takes_of rfl rfl rfl rfl) σ) (pk_cons (pv 14) (pk_cons (pv 13) pk_nil))))) pa_nil)))
      (pss_one (ps_if (pt_cmpR op_ne (pe_callB (call_tell sm hgu hr.units) (by rfl) T.m_repr (by decide +kernel) (pa_cons (pv 12) pa_nil)) (pe_callB (call_tell sm hgu hr.units) (by rfl) T.m_repr (by decide +kernel) (pa_cons (pe_op op_rep (pe_lst (pa_cons (pv 11) pa_nil)) pe_int) pa_nil)) (nomark _)) (pss_one (ps_ret pe_bl)) pss_nil)))))) pss_nil)))))
      (pss_one (ps_ret (pe_callG (ok__law_is_book T sm) (hr.mono (by decide)) hgu rfl T.m__law_is_book T.F__law_is_book.kp T.b__law_is_book (pa_cons (pv 14) (pa_cons (pv 2) (pa_cons (pv 3) (pa_cons (pv 4) pa_nil)))))))))))))), ?_⟩
    refine ⟨_, rfl, a, ns, rfl, ha, hl, fun d l H1 s1 D1 => ?_⟩
    have T1 := hT.ext s1
    dsimp only [gName]
    refine (seq_cut (fun σ' G => ∃ (q : Int) (n : Nat), σ' = [some (.ref a), some (.ref d), some (.int q), some (.int (n : Int)), none, none, none, none, none, none, none, none, none, none, none] ∧ LetQ q ∧ 1 ≤ n ∧ n ≤ 8 ∧ Deck kL G d l ∧ Tabs (TL T) G) (fun D' go => ?_) ?_)
    · refine ⟨_, rfl, d, l, 4, rfl, by decide, by decide, D1, fun r H2 r0 r1 e2 D2 => ⟨_, _, rfl, rfl, _, rfl, d, l, 8, rfl, by decide, by decide, D2, fun m H3 m0 m1 e3 D3 => ⟨_, _, rfl, rfl, _, _, rfl, ?_⟩⟩⟩
      refine go _ _ ⟨2 + r, (1 + m).toNat, ?_, ⟨by omega, by omega⟩, by omega, by omega, D3, tabs_but D2 e3 (tabs_but D1 e2 T1)⟩
      rw [Int.toNat_of_nonneg (by omega)]
      rfl
    rintro _ H4 ⟨q, n, rfl, hq, n1, n8, D4, T4⟩
    have q2 := hq.lo
    have q5 := hq.hi
    refine ⟨_, rfl, _, rfl, _, rfl, d, l, q, n, rfl, D4, hq, n1, n8, fun L vs Ms H5 L0 e5 D5 S5 => ?_⟩
    have T5 := tabs_but D4 e5 T4
    dsimp only [gName]
    refine (seq_cut (fun σ' G => ∃ (b : Addr) (Ps : List (Nat × List Int)), σ' = [some (.ref a), some (.ref d), some (.int q), some (.int (n : Int)), some (.ref L), none, none, none, none, none, none, none, none, none, some (.ref b)] ∧ gauss q n Ms = Ps.map (·.2) ∧ Env9 T d l b L q n Ps vs Ms G) (fun D' go => ?_) ?_)
    · refine ⟨_, rfl, _, rfl, _, rfl, L, vs, rfl, .inl ⟨SqL.of S5.li, fun p hp => fun b dy hb hdx hne => ?_⟩⟩
      refine mk_book (T := T) hq n1 n8 S5 (by decide) hp hb hdx hne fun Ps H6 s6 eg hB => ⟨rfl, ?_⟩
      exact go _ _ ⟨b, Ps, rfl, eg, D5.same s6, T5.ext s6, hB, S5.same s6⟩
    rintro _ H6 ⟨b, Ps, rfl, eg, E6⟩
    clear D4 T4 D5 T5 S5 e5
    refine (seq_cutF (fun σ' G => ∃ o5 o6 o7 o8 : Option V, σ' = [some (.ref a), some (.ref d), some (.int q), some (.int (n : Int)), some (.ref L), o5, o6, o7, o8, none, none, none, none, none, some (.ref b)] ∧ Env9 T d l b L q n Ps vs Ms G) (fun D' go => ?_) ?_)
    · refine ⟨_, rfl, by decide, by decide, for_range (lo := 0) (n := 3)
        (fun i σ' G => ∃ o5 o6 o7 o8 : Option V, σ' = [some (.ref a), some (.ref d), some (.int q), some (.int (n : Int)), some (.ref L), o5, o6, o7, o8, none, none, none, none, none, some (.ref b)] ∧ Env9 T d l b L q n Ps vs Ms G)
        ⟨none, none, none, none, rfl, E6⟩ ?_ (fun σ' G h => go σ' G h)⟩
      rintro i _ G1 hi ⟨o5, o6, o7, o8, rfl, F1⟩
      clear E6 go
      dsimp only [gName]
      refine ⟨_, rfl, _, rfl, _, rfl, _, rfl, d, l, b, q, n, Ps, rfl, F1.D, F1.B, n1, fun M ws Ns G2 e2 D2 S2 => ?_⟩
      have F2 := F1.but e2 D2
      clear F1 e2
      dsimp only [gName]
      refine (seq_cut (fun σ' G => ∃ (o : Addr) (Rs : List (Nat × List Int)), σ' = [some (.ref a), some (.ref d), some (.int q), some (.int (n : Int)), some (.ref L), some (.int (0 + (i : Int))), some (.ref M), some (.ref o), o8, none, none, none, none, none, some (.ref b)] ∧ gauss q n (Ns.take 16) = Rs.map (·.2) ∧ BookR T G o q n Rs ∧ Env9 T d l b L q n Ps vs Ms G ∧ SomeE K d l M q n 30 ws Ns G) (fun D' go => ?_) ?_)
      · refine ⟨_, rfl, _, rfl, _, rfl, ?_⟩
        dsimp only [tNoPart, tPart]
        refine ⟨_, rfl, to16_rd D2 S2 fun p3 G3 s3 S3 => ?_⟩
        refine ⟨p3, _, rfl, .inl ⟨SqL.of S3.li, fun p hp => fun o dy hb hdx hne => ?_⟩⟩
        refine mk_book (T := T) hq n1 n8 S3 (by decide) hp hb hdx hne fun Rs G4 s4 eg' hB => ⟨rfl, ?_⟩
        exact go _ _ ⟨o, Rs, rfl, eg', hB, F2.same (s3.trans s4), S2.same (s3.trans s4)⟩
      rintro _ G3 ⟨o, Rs, rfl, eo, O3, F3, S3⟩
      clear F2 S2 D2
      refine ⟨_, rfl, o, q, n, Rs, rfl, O3, n1, fun m Qs G4 s4 mir M4 => ?_⟩
      have O4 := O3.same s4
      have F4 := F3.same s4
      have S4 := S3.same s4
      clear O3 F3 S3
      dsimp only [gName]
      refine (seq_cutI (fun σ' G => σ' = [some (.ref a), some (.ref d), some (.int q), some (.int (n : Int)), some (.ref L), some (.int (0 + (i : Int))), some (.ref M), some (.ref o), some (.ref m), none, none, none, none, none, some (.ref b)] ∧ BookR T G o q n Rs ∧ Env9 T d l b L q n Ps vs Ms G) (fun D' go => ?_) ?_)
      · refine ⟨_, rfl, _, rfl, _, rfl, _, rfl, ?_⟩
        dsimp only [tNoPart, tPart]
        refine ⟨_, rfl, to16_rd F4.D S4 fun p5 G5 s5 S5 => ?_⟩
        have O5 := O4.same s5
        have ho := O5.at_
        rw [← eo] at ho
        refine ⟨o, q, n, .ref p5, _, rfl, hq, n1, n8, ⟨p5, _, rfl, .inl (SqL.of S5.li), S5.pr⟩, S5.al, Nat.le_trans S5.le (by decide), ho, fun G6 s6 => ⟨true, rfl, iteF ?_⟩⟩
        have s46 := s5.trans s6
        refine ⟨_, rfl, _, rfl, _, rfl, _, rfl, o, m, q, n, Rs, Qs, rfl, O4.same s46, M4.same s46, mir, fun G7 s7 => ⟨true, rfl, iteF ?_⟩⟩
        have s47 := s46.trans s7
        refine ⟨_, rfl, m, q, n, Qs, rfl, M4.same s47, n1, fun m2 Qs2 G8 s8 mir2 M8 => ?_⟩
        have h8 := M8.at_
        rw [Mir.uniq hq mir2 (mir.symm hq)] at h8
        exact ⟨_, rfl, neX_eq h8 ((O4.same s47).same s8).at_ ⟨_, rfl, iteF (go _ _ ⟨rfl, (O4.same s47).same s8, (F4.same s47).same s8⟩)⟩⟩
      rintro _ G5 ⟨rfl, O5, F5⟩
      refine ⟨_, rfl, _, rfl, _, rfl, _, rfl, b, o, q, n, Ps, Rs, rfl, F5.B, O5, n1, fun G6 s6 => ⟨true, rfl, iteF ?_⟩⟩
      exact ⟨_, _, _, _, rfl, F5.same s6⟩
    rintro _ H7 ⟨o5, o6, o7, o8, rfl, E7⟩
    clear E6
    refine (seq_cutI (fun σ' G => σ' = [some (.ref a), some (.ref d), some (.int q), some (.int (n : Int)), some (.ref L), o5, o6, o7, o8, none, none, none, none, none, some (.ref b)] ∧ Env9 T d l b L q n Ps vs Ms G) (fun D' go => ?_) ?_)
    · refine ⟨_, rfl, _, rfl, _, rfl, _, rfl, b, q, n, Ps, rfl, E7.B, n1, fun m Qs H8 s8 mir M8 => ?_⟩
      refine ⟨b, m, q, n, Ps, Qs, rfl, E7.B.same s8, M8, mir, fun H9 s9 => ⟨true, rfl, iteF ?_⟩⟩
      have E9 := (E7.same s8).same s9
      refine ⟨_, rfl, b, q, n, Ps, rfl, E9.B, n1, fun m2 Qs2 H10 s10 mir2 M10 => ⟨m2, q, n, Qs2, rfl, M10, n1, fun m3 Qs3 H11 s11 mir3 M11 => ?_⟩⟩
      have E11 := (E9.same s10).same s11
      have h11 := M11.at_
      rw [Mir.uniq hq mir3 (mir2.symm hq)] at h11
      exact ⟨_, rfl, neX_eq h11 E11.B.at_ ⟨_, rfl, iteF (go _ _ ⟨rfl, E11⟩)⟩⟩
    rintro _ H8 ⟨rfl, E8⟩
    clear E7
    refine (seq_cutF (fun σ' G => ∃ o5 o9 o10 o11 o12 o13 : Option V, σ' = [some (.ref a), some (.ref d), some (.int q), some (.int (n : Int)), some (.ref L), o5, o6, o7, o8, o9, o10, o11, o12, o13, some (.ref b)] ∧ Env9 T d l b L q n Ps vs Ms G) (fun D' go => ?_) ?_)
    · refine ⟨_, rfl, by decide, by decide, for_range (lo := 0) (n := 4)
        (fun i σ' G => ∃ o5 o9 o10 o11 o12 o13 : Option V, σ' = [some (.ref a), some (.ref d), some (.int q), some (.int (n : Int)), some (.ref L), o5, o6, o7, o8, o9, o10, o11, o12, o13, some (.ref b)] ∧ Env9 T d l b L q n Ps vs Ms G)
        ⟨o5, none, none, none, none, none, rfl, E8⟩ ?_ (fun σ' G h => go σ' G h)⟩
      rintro i _ G1 hi ⟨o5, o9, o10, o11, o12, o13, rfl, F1⟩
      clear E8 go
      dsimp only [gName]
      refine (seq_cut (fun σ' G => ∃ (z : Int) (y : Nat), σ' = [some (.ref a), some (.ref d), some (.int q), some (.int (n : Int)), some (.ref L), some (.int (0 + (i : Int))), o6, o7, o8, some (.int z), some (.int (y : Int)), o11, o12, o13, some (.ref b)] ∧ LetQ z ∧ 1 ≤ y ∧ y ≤ 8 ∧ Env9 T d l b L q n Ps vs Ms G) (fun D' go => ?_) ?_)
      · refine ⟨_, rfl, d, l, 4, rfl, by decide, by decide, F1.D, fun r H2 r0 r1 e2 D2 => ⟨_, _, rfl, rfl, _, rfl, d, l, 8, rfl, by decide, by decide, D2, fun m H3 m0 m1 e3 D3 => ⟨_, _, rfl, rfl, _, _, rfl, ?_⟩⟩⟩
        refine go _ _ ⟨2 + r, (1 + m).toNat, ?_, ⟨by omega, by omega⟩, by omega, by omega, F1.but (e2.trans e3) D3⟩
        rw [Int.toNat_of_nonneg (by omega)]
        rfl
      rintro _ G2 ⟨z, y0, rfl, hz, y01, y08, F2⟩
      clear F1
      refine (seq_cut (fun σ' G => ∃ y : Nat, σ' = [some (.ref a), some (.ref d), some (.int q), some (.int (n : Int)), some (.ref L), some (.int (0 + (i : Int))), o6, o7, o8, some (.int z), some (.int (y : Int)), o11, o12, o13, some (.ref b)] ∧ 1 ≤ y ∧ y ≤ 8 ∧ Env9 T d l b L q n Ps vs Ms G) (fun D' go => ?_) ?_)
      · refine ⟨_, rfl, d, l, 2, rfl, by decide, by decide, F2.D, fun r H3 _ _ e3 D3 => ⟨rfl, _, rfl, ?_⟩⟩
        have F3 := F2.but e3 D3
        exact ite2 (fun _ => ⟨_, rfl, go _ _ ⟨n, rfl, n1, n8, F3⟩⟩) (fun _ => ⟨_, rfl, go _ _ ⟨y0, rfl, y01, y08, F3⟩⟩)
      rintro _ G3 ⟨y, rfl, y1, y8, F3⟩
      clear F2 y01 y08
      have z2 := hz.lo
      have z5 := hz.hi
      refine ⟨_, rfl, _, rfl, line_s (show 2 ≤ 100000 by decide), fun p hp => ?_⟩
      have s4 := same_upd (o := .tup [.int z, .int (y : Int)]) hp
      have g4 : SqT K (upd G3 p (.tup [.int z, .int (y : Int)])) p ([z, (y : Int)].map V.int) := SqT.of upd_same
      have F4 := F3.same s4
      generalize upd G3 p (.tup [.int z, .int (y : Int)]) = G4 at s4 g4 F4 ⊢
      refine ⟨_, rfl, _, rfl, line_s (show 2 ≤ 100000 by decide), fun p2 hp2 => ?_⟩
      have s5 := same_upd (o := .tup [.int q, .int (n : Int)]) hp2
      have g5 : SqT K (upd G4 p2 (.tup [.int q, .int (n : Int)])) p2 ([q, (n : Int)].map V.int) := SqT.of upd_same
      have F5 := F4.same s5
      have g4' := s5.tup g4
      generalize upd G4 p2 (.tup [.int q, .int (n : Int)]) = G5 at s5 g5 F5 g4' ⊢
      refine ⟨_, _, .tup g4' (dp_ints _), .tup g5 (dp_ints _), tup_shaped _, tup_shaped _, _, rfl, ?_⟩
      rw [eqv_ints]
      refine ite2 (fun hne => ?_) (fun _ => ⟨_, _, _, _, _, _, rfl, F5⟩)
      have ne : ¬ (z = q ∧ y = n) := fun ⟨e1, e2⟩ => by
        subst e1 e2
        rw [decide_eq_true rfl] at hne
        cases hne
      clear hne g4 g5 g4' F4 F3 s4 s5 hp hp2
      refine (seq_cut (fun σ' G => ∃ (f : Addr) (Fs : List (Nat × List Int)), σ' = [some (.ref a), some (.ref d), some (.int q), some (.int (n : Int)), some (.ref L), some (.int (0 + (i : Int))), o6, o7, o8, some (.int z), some (.int (y : Int)), o11, o12, some (.ref f), some (.ref b)] ∧ BookR T G f z y Fs ∧ Env9 T d l b L q n Ps vs Ms G) (fun D' go => ?_) ?_)
      · refine ⟨_, rfl, _, rfl, line_s (show 1 ≤ 100000 by decide), fun p1 hp1 => ⟨_, rfl, ?_⟩⟩
        have s6 := same_upd (o := .tup [.int 1]) hp1
        refine rep_rd (c := 1) (k := (y : Int)) ⟨p1, rfl, SqT.of upd_same⟩ (by omega) (by omega) fun w1 G7 s7 tw => ⟨line_s (show 1 ≤ 100000 by decide), fun p3 hp3 => ?_⟩
        rw [Int.toNat_natCast] at tw
        have s8 := same_upd (o := .tup [w1]) hp3
        have tw8 := tw.same s8
        have g8 : SqT K (upd G7 p3 (.tup [w1])) p3 [w1] := SqT.of upd_same
        have F8 := F5.same (s6.trans (s7.trans s8))
        generalize upd G7 p3 (.tup [w1]) = G8 at s8 tw8 g8 F8 ⊢
        refine ⟨_, rfl, d, l, 2, rfl, by decide, by decide, F8.D, fun r G9 r0 r1 e9 D9 => ?_⟩
        have F9 := F8.but e9 D9
        have g9 := e9.tup F8.D g8
        have tw9 := tw8.but F8.D e9
        refine ⟨p3, r, [w1], rfl, rfl, g9, by simp, by omega, by omega, by simp, fun _ => fun m dx hm hdx hne => ?_, fun e1 p4 hp4 => fun m dx hm hdx hne => ?_⟩
        · refine mk_rows (T := T) hz y1 y8 (As := [List.replicate y 1]) ⟨p3, [w1], rfl, g9, .cons tw9 .nil⟩ (fun r' hr' => ?_) (show 1 ≤ 16 by decide) hm hne hdx fun Fs H7 s7 hB => ⟨rfl, ?_⟩
          · rw [List.mem_singleton.mp hr']
            refine ⟨fun c hc => ?_, List.length_replicate⟩
            rw [List.eq_of_mem_replicate hc]
            exact ⟨by decide, by omega⟩
          · exact go _ _ ⟨m, Fs, rfl, hB, F9.same s7⟩
        · have r00 : r = 0 := by omega
          subst r00
          have s10 := same_upd (o := .tup (List.replicate (0 : Int).toNat [w1]).flatten) hp4
          refine mk_rows (T := T) hz y1 y8 (As := []) ⟨p4, [], rfl, SqT.of upd_same, .nil⟩ (fun r' hr' => by cases hr') (Nat.zero_le _) hm hne hdx fun Fs H7 s7 hB => ⟨rfl, ?_⟩
          exact go _ _ ⟨m, Fs, rfl, hB, F9.same (s10.trans s7)⟩
      rintro _ G6 ⟨f, Fs, rfl, B6, F6⟩
      clear F5
      obtain ⟨wd, hw1, hw2, zwd⟩ : ∃ wd : Str, (z ≠ q → wd = "fields") ∧ (z = q → wd = "places") ∧ Sz 10 6 (.str wd) := by
        by_cases e : z = q
        · exact ⟨"places", fun h => absurd e h, fun _ => rfl, sz_text (s := "places") (by decide)⟩
        · exact ⟨"fields", fun _ => rfl, fun h => absurd h e, sz_text (s := "fields") (by decide)⟩
      have zW : Sz 22 7 (.tuple [.str wd, .none]) := (sz_tup (szAll_cons zwd (szAll_cons (sz_none (b := 0)) (szAll_nil (b := 0))))).mono (by decide) (by decide)
      have told4 : Told (.list [.tuple [.str wd, .none], .tuple [.str wd, .none], .tuple [.str wd, .none], .tuple [.str wd, .none]]) := (sz_lst (szAll_cons zW (szAll_cons zW (szAll_cons zW (szAll_cons zW (szAll_nil (b := 0))))))).told (by decide) (by decide)
      refine (seq_cut (fun σ' G => ∃ pd : Addr, σ' = [some (.ref a), some (.ref d), some (.int q), some (.int (n : Int)), some (.ref L), some (.int (0 + (i : Int))), o6, o7, o8, some (.int z), some (.int (y : Int)), some (.ref pd), o12, some (.ref f), some (.ref b)] ∧ SqT K G pd [.str wd, .non] ∧ BookR T G f z y Fs ∧ Env9 T d l b L q n Ps vs Ms G) (fun D' go => ?_) ?_)
      · refine ⟨_, rfl, _, rfl, rfl, _, rfl, ?_⟩
        refine ite2 (fun e => ?_) (fun e => ?_)
        · have ez : z ≠ q := fun z' => by
            subst z'
            rw [decide_eq_true rfl] at e
            cases e
          refine ⟨line_s (show 2 ≤ 100000 by decide), fun pd hpd => ?_⟩
          have s7 := same_upd (o := .tup [.str (Str.ofString "fields"), .non]) hpd
          exact go _ _ ⟨pd, rfl, by rw [hw1 ez]; exact SqT.of upd_same, B6.same s7, F6.same s7⟩
        · have ez : z = q := Classical.byContradiction fun z' => e (by rw [decide_eq_false (fun w => z' (V.int.inj w))]; rfl)
          refine ⟨line_s (show 2 ≤ 100000 by decide), fun pd hpd => ?_⟩
          have s7 := same_upd (o := .tup [.str (Str.ofString "places"), .non]) hpd
          exact go _ _ ⟨pd, rfl, by rw [hw2 ez]; exact SqT.of upd_same, B6.same s7, F6.same s7⟩
      rintro _ G7 ⟨pd, rfl, d7, B7, F7⟩
      clear B6 F6
      have ne2 : ¬ (q = z ∧ n = y) := fun e => ne ⟨e.1.symm, e.2.symm⟩
      have hv1 : q ≠ z → wd = "fields" := fun e => hw1 (fun e' => e e'.symm)
      have hv2 : q = z → wd = "places" := fun e => hw2 e.symm
      refine (seq_cut (fun σ' G => ∃ (W w1 w2 w3 : Addr), σ' = [some (.ref a), some (.ref d), some (.int q), some (.int (n : Int)), some (.ref L), some (.int (0 + (i : Int))), o6, o7, o8, some (.int z), some (.int (y : Int)), some (.ref pd), some (.ref W), some (.ref f), some (.ref b)] ∧ (∃ Gb, noT Gb W = none ∧ ExtN Gb G ∧ Env9 T d l b L q n Ps vs Ms Gb ∧ BookR T Gb f z y Fs ∧ SqT K Gb pd [.str wd, .non] ∧ SqT K Gb w1 [.str wd, .non] ∧ SqT K Gb w2 [.str wd, .non] ∧ SqT K Gb w3 [.str wd, .non]) ∧ Tabs (TL T) G ∧ G W = some (.lst [.ref w1, .ref w2, .ref w3])) (fun D' go => ?_) ?_)
      · refine ⟨F7.t, fun Ha ea Ta => ⟨_, rfl, _, rfl, b, f, q, z, n, y, Ps, Fs, rfl, bookR_ext F7.B ea, bookR_ext B7 ea, n1, unfit_told hv1 hv2 fun w1 H8 s8 h1 => ?_, fun e e2 => absurd ⟨e, e2⟩ ne2⟩⟩
        have x8 := ea.trans (same_extN s8)
        have F8 := F7.ext x8 (Ta.ext s8)
        have B8 := bookR_ext B7 x8
        refine ⟨F8.t, fun Hb eb Tb => ⟨_, rfl, _, rfl, b, f, q, z, n, y, Ps, Fs, rfl, bookR_ext F8.B eb, bookR_ext B8 eb, n1, y1, unfit_told hv1 hv2 fun w2 H9 s9 h2 => ?_, fun e e2 => absurd ⟨e, e2⟩ ne2⟩⟩
        have x9 := eb.trans (same_extN s9)
        have F9 := F8.ext x9 (Tb.ext s9)
        have B9 := bookR_ext B8 x9
        have h19 := MB.SqT.extN x9 h1
        refine ⟨F9.t, fun Hc ec Tc => ⟨_, rfl, _, rfl, b, f, q, z, n, y, Ps, Fs, rfl, bookR_ext F9.B ec, bookR_ext B9 ec, unfit_told hv1 hv2 fun w3 H10 s10 h3 => ⟨line_s (show 3 ≤ 100000 by decide), fun W hW => ?_⟩, fun e e2 => absurd ⟨e, e2⟩ ne2⟩⟩
        have x10 := ec.trans (same_extN s10)
        have F10 := F9.ext x10 (Tc.ext s10)
        have s11 := same_upd (o := .lst [.ref w1, .ref w2, .ref w3]) hW
        exact go _ _ ⟨W, w1, w2, w3, rfl, ⟨H10, new_of (ExtN.refl _) hW, same_extN s11, F10, bookR_ext B9 x10, MB.SqT.extN (x8.trans (x9.trans x10)) d7, MB.SqT.extN x10 h19, MB.SqT.extN x10 h2, h3⟩, F10.t.ext s11, upd_same⟩
      rintro _ G8 ⟨W, w1, w2, w3, rfl, ⟨Gb, nW, eb, Fb, Bb, db, h1, h2, h3⟩, T8, hW8⟩
      clear F7 B7 d7
      have hWb : ∀ {G : Hp}, ExtN G8 G → G W = some (.lst [.ref w1, .ref w2, .ref w3]) := fun e => e _ _ hW8 (by intro ps z; cases z)
      refine ⟨_, rfl, .inl ⟨rfl, _, SqL.of hW8⟩, T8, fun Hd ed Td => ⟨_, rfl, _, rfl, f, b, z, q, y, n, Fs, Ps, rfl, bookR_ext Bb (eb.trans ed), bookR_ext Fb.B (eb.trans ed), unfit_told hw1 hw2 fun w4 He se h4 => ?_, fun e e2 => absurd ⟨e, e2⟩ ne⟩⟩
      have hWe := se _ _ (hWb ed)
      have xe := (eb.trans ed).trans (same_extN se)
      refine ⟨W, _, _, rfl, rfl, hWe, line_le (Nat.le_of_ble_eq_true rfl), ?_⟩
      have xf := ext_lst (o := .lst ([.ref w1, .ref w2, .ref w3] ++ [.ref w4])) xe nW
      have F9 := Fb.ext xf (tabs_lst (Td.ext se) hWe)
      have d9 := MB.SqT.extN xf db
      have k1 := MB.SqT.extN xf h1
      have k2 := MB.SqT.extN xf h2
      have k3 := MB.SqT.extN xf h3
      have k4 : SqT K (upd He W (.lst ([.ref w1, .ref w2, .ref w3] ++ [.ref w4]))) w4 [.str wd, .non] := sqT_lst hWe h4
      have l9 : (upd He W (.lst ([.ref w1, .ref w2, .ref w3] ++ [.ref w4]))) W = some (.lst [.ref w1, .ref w2, .ref w3, .ref w4]) := upd_same
      generalize upd He W (.lst ([.ref w1, .ref w2, .ref w3] ++ [.ref w4])) = H9 at F9 d9 k1 k2 k3 k4 l9 ⊢
      clear hWe xe xf h1 h2 h3 h4 db Fb Bb eb nW hW8 T8 hWb
      have dq1 : ∀ {G : Hp} {x : Addr}, SqT K G x [.str wd, .non] → Dq K G (.ref x) (.tuple [.str wd, .none]) := fun h => .tup h (.cons (.str _) (.cons .non .nil))
      refine ⟨_, rfl, _, .list [.tuple [.str wd, .none], .tuple [.str wd, .none], .tuple [.str wd, .none], .tuple [.str wd, .none]], rfl, .lst (SqL.of l9) (.cons (dq1 k1) (.cons (dq1 k2) (.cons (dq1 k3) (.cons (dq1 k4) .nil)))), told4, ?_⟩
      refine ⟨_, rfl, line_s (show 1 ≤ 100000 by decide), fun L2 hL2 => ?_⟩
      have v8 := same_upd (o := .lst [.ref pd]) hL2
      refine ⟨L2, 4, _, rfl, rfl, upd_same, by omega, by omega, line_s (Nat.le_of_ble_eq_true rfl), fun p8 hp8 => ?_⟩
      have v9 := same_upd (o := .lst (List.replicate (4 : Int).toNat [V.ref pd]).flatten) hp8
      have d10 := dq1 ((v8.trans v9).tup d9)
      refine ⟨_, .list [.tuple [.str wd, .none], .tuple [.str wd, .none], .tuple [.str wd, .none], .tuple [.str wd, .none]], rfl, .lst (SqL.of upd_same) (show DqAll K _ [.ref pd, .ref pd, .ref pd, .ref pd] _ from .cons d10 (.cons d10 (.cons d10 (.cons d10 .nil)))), told4, rfl, _, rfl, ?_⟩
      rw [decide_eq_true rfl]
      exact iteF ⟨_, _, _, _, _, _, rfl, F9.same (v8.trans v9)⟩
    rintro _ H9 ⟨o5, o9, o10, o11, o12, o13, rfl, E9⟩
    have hb := E9.B.at_
    rw [← eg] at hb
    refine ⟨_, rfl, _, rfl, _, rfl, _, rfl, b, q, n, .ref L, Ms, rfl, hq, n1, n8, ⟨L, vs, rfl, .inl (SqL.of E9.S.li), E9.S.pr⟩, E9.S.al, Nat.le_trans E9.S.le (by decide), hb, fun H10 _ => qq _⟩
end
end K09
end
section
set_option maxRecDepth 100000
set_option maxHeartbeats 4000000
namespace K09
open PySem PySem.Spec PyProof.Rows L2 MB
open LamX hiding takes0
theorem tabIn_of {K : PySem.W.Frag} {x : Str} {f c Pt : Addr} {oc cc : Value} {od cd : Option Addr} {fd : FuncData} {sl cs : Array (Option Value)} {vs : Array Value} (a : PySem.W.nsIn K mainGlobals x = some (some (.ref f)))
    (l : K.lookup f = some ⟨oc, od, .func fd, sl⟩) (hc : fd.code = .ref c) (lc : K.lookup c = some ⟨cc, cd, .fields vs, cs⟩) (hv : (vs[11]? : Option Value) = some (.ref Pt)) : PySem.W.tabIn K x = some (c, Pt) := by
  unfold PySem.W.tabIn
  rw [a]
  dsimp only
  rw [l]
  dsimp only
  rw [hc]
  dsimp only
  rw [lc]
  dsimp only
  rw [hv]
theorem kit_sub {K : PySem.W.Frag} {C : Addr} {T : String} {r : Bool} (m : PySem.W.kitMeta T = true) (h : PySem.W.subIn K (.ref C) (.type T) = some r) : PySem.W.kitOne K (.ref C) (.type T) = some r := by
  unfold PySem.W.kitOne
  rw [if_neg (by intro z; cases (eq_of_beq z))]
  show (if PySem.W.kitMeta T = true then PySem.W.subIn K (.ref C) (.type T) else none) = some r
  rw [if_pos m]
  exact h
theorem kit_clsR {K : PySem.W.Frag} {C D : Addr} {r : Bool} (c : PySem.W.isClsIn K D = true) (ty : PySem.W.typeIn K (.ref D) = some (.type "type")) (s : PySem.W.subIn K (.ref C) (.ref D) = some r) : PySem.W.kitCls K (.ref C) (.ref D) = some r := by
  have c' : (PySem.W.clsIn K D).isSome = true := c
  have e2 : ((PySem.W.clsIn K D).isSome && PySem.W.typeIn K (.ref D) == some (.type "type")) = true := by
    rw [c', ty] <;> rfl
  show (if ((PySem.W.clsIn K D).isSome && PySem.W.typeIn K (.ref D) == some (.type "type")) = true then PySem.W.subIn K (.ref C) (.ref D) else none) = some r
  rw [if_pos e2]
  exact s
theorem kit_refT {K : PySem.W.Frag} {C D : Addr} (c : PySem.W.isClsIn K D = true) (ty : PySem.W.typeIn K (.ref D) = some (.type "type")) (s : PySem.W.subIn K (.ref C) (.ref D) = some true) : PySem.W.kitOne K (.ref C) (.ref D) = some true := by
  show (if (Value.ref C == Value.ref D) = true then some true else _) = some true
  split
  · rfl
  · exact kit_clsR c ty s
theorem kit_refF {K : PySem.W.Frag} {C D : Addr} (n : C ≠ D) (c : PySem.W.isClsIn K D = true) (ty : PySem.W.typeIn K (.ref D) = some (.type "type")) (s : PySem.W.subIn K (.ref C) (.ref D) = some false) : PySem.W.kitOne K (.ref C) (.ref D) = some false := by
  show (if (Value.ref C == Value.ref D) = true then some true else _) = some false
  rw [if_neg (fun z => n (Value.ref.inj (eq_of_beq z)))]
  exact kit_clsR c ty s
theorem kit_clsT {C : Addr} {T : String} {K : PySem.W.Frag} (ic : PySem.W.isClsIn K C = true) (ty : PySem.W.typeIn K (.ref C) = some (.type "type")) (s : PySem.W.subIn K (.type T) (.ref C) = some false) : PySem.W.kitOne K (.type T) (.ref C) = some false := by
  show (if (Value.type T == Value.ref C) = true then some true else _) = some false
  rw [if_neg (fun z => by cases (eq_of_beq z))]
  have c' : (PySem.W.clsIn K C).isSome = true := ic
  have e2 : ((PySem.W.clsIn K C).isSome && PySem.W.typeIn K (.ref C) == some (.type "type")) = true := by
    rw [c', ty] <;> rfl
  show (if ((PySem.W.clsIn K C).isSome && PySem.W.typeIn K (.ref C) == some (.type "type")) = true then PySem.W.subIn K (.type T) (.ref C) else none) = some false
  rw [if_pos e2]
  exact s
theorem four_mk {K : PySem.W.Frag} {t r0 r1 r2 r3 : Addr} {d d0 d1 d2 d3 : Option Addr} {n n0 n1 n2 n3 : Nat} {sl sl0 sl1 sl2 sl3 : Array (Option Value)}
    {a0 a1 a2 a3 b0 b1 b2 b3 c0 c1 c2 c3 e0 e1 e2 e3 : Tok}
    (lt : K.lookup t = some ⟨.type "tuple", d, .seq #[.ref r0, .ref r1, .ref r2, .ref r3] n, sl⟩)
    (l0 : K.lookup r0 = some ⟨.type "tuple", d0, .seq #[.int 0 a0, .int 0 a1, .int 0 a2, .int 0 a3] n0, sl0⟩)
    (l1 : K.lookup r1 = some ⟨.type "tuple", d1, .seq #[.int 0 b0, .int 1 b1, .int 2 b2, .int 3 b3] n1, sl1⟩)
    (l2 : K.lookup r2 = some ⟨.type "tuple", d2, .seq #[.int 0 c0, .int 2 c1, .int 3 c2, .int 1 c3] n2, sl2⟩)
    (l3 : K.lookup r3 = some ⟨.type "tuple", d3, .seq #[.int 0 e0, .int 3 e1, .int 1 e2, .int 2 e3] n3, sl3⟩) : FourTab K t := by
  refine ⟨[r0, r1, r2, r3], rfl, fun H => .inr ⟨_, _, _, lt, rfl, rfl, by rw [sizeLine_eq]; exact (by decide : 4 ≤ 16777216), .cons rfl (.cons rfl (.cons rfl (.cons rfl .nil)))⟩, fun i r H e => ?_⟩
  have z : (4 : Nat) ≤ sizeLine := by rw [sizeLine_eq]; decide
  match i, e with
  | 0, e =>
    cases e
    exact .inr ⟨_, _, _, l0, rfl, rfl, z, .cons ⟨_, rfl⟩ (.cons ⟨_, rfl⟩ (.cons ⟨_, rfl⟩ (.cons ⟨_, rfl⟩ .nil)))⟩
  | 1, e =>
    cases e
    exact .inr ⟨_, _, _, l1, rfl, rfl, z, .cons ⟨_, rfl⟩ (.cons ⟨_, rfl⟩ (.cons ⟨_, rfl⟩ (.cons ⟨_, rfl⟩ .nil)))⟩
  | 2, e =>
    cases e
    exact .inr ⟨_, _, _, l2, rfl, rfl, z, .cons ⟨_, rfl⟩ (.cons ⟨_, rfl⟩ (.cons ⟨_, rfl⟩ (.cons ⟨_, rfl⟩ .nil)))⟩
  | 3, e =>
    cases e
    exact .inr ⟨_, _, _, l3, rfl, rfl, z, .cons ⟨_, rfl⟩ (.cons ⟨_, rfl⟩ (.cons ⟨_, rfl⟩ (.cons ⟨_, rfl⟩ .nil)))⟩
theorem all_mk {w : World} {K : PySem.W.Frag} {h : Heap} {mg : Str → Option Value} {fa : Addr} (X : K.In h) (G : h.Ns mainGlobals mg) (hfa : mg "law" = some (.ref fa))
    {q : Program} (tq : ∀ (x : Str) (r : DefRec) (c P : Addr), (recsOf q).find? (fun e => e.name == x) = some r → PySem.W.tabIn K x = some (c, P) → PySem.W.CodeHd h c P ∧ h.get? P = some (PySem.W.tabObj #[])) (nK : PySem.W.noTabs K = true)
    {f0 : Addr} {od0 an0 : Option Addr} {sl0 : Array (Option Value)} {oc0 kV0 dc0 pm0 cd0 ct0 : Value}
    {f1 : Addr} {od1 an1 : Option Addr} {sl1 : Array (Option Value)} {oc1 kV1 dc1 pm1 cd1 ct1 : Value}
    {f2 : Addr} {od2 an2 : Option Addr} {sl2 : Array (Option Value)} {oc2 kV2 dc2 pm2 cd2 ct2 : Value}
    {f3 : Addr} {od3 an3 : Option Addr} {sl3 : Array (Option Value)} {oc3 kV3 dc3 pm3 cd3 ct3 : Value}
    {f4 : Addr} {od4 an4 : Option Addr} {sl4 : Array (Option Value)} {oc4 kV4 dc4 pm4 cd4 ct4 : Value}
    {f5 : Addr} {od5 an5 : Option Addr} {sl5 : Array (Option Value)} {oc5 kV5 dc5 pm5 cd5 ct5 : Value}
    {f6 : Addr} {od6 an6 : Option Addr} {sl6 : Array (Option Value)} {oc6 kV6 dc6 pm6 cd6 ct6 : Value}
    {f7 : Addr} {od7 an7 : Option Addr} {sl7 : Array (Option Value)} {oc7 kV7 dc7 pm7 cd7 ct7 : Value}
    {f8 : Addr} {od8 an8 : Option Addr} {sl8 : Array (Option Value)} {oc8 kV8 dc8 pm8 cd8 ct8 : Value}
    {f9 : Addr} {od9 an9 : Option Addr} {sl9 : Array (Option Value)} {oc9 kV9 dc9 pm9 cd9 ct9 : Value}
    {f10 : Addr} {od10 an10 : Option Addr} {sl10 : Array (Option Value)} {oc10 kV10 dc10 pm10 cd10 ct10 : Value}
    {f11 : Addr} {od11 an11 : Option Addr} {sl11 : Array (Option Value)} {oc11 kV11 dc11 pm11 cd11 ct11 : Value}
    {f12 : Addr} {od12 an12 : Option Addr} {sl12 : Array (Option Value)} {oc12 kV12 dc12 pm12 cd12 ct12 : Value}
    {f13 : Addr} {od13 an13 : Option Addr} {sl13 : Array (Option Value)} {oc13 kV13 dc13 pm13 cd13 ct13 : Value}
    {f14 : Addr} {od14 an14 : Option Addr} {sl14 : Array (Option Value)} {oc14 kV14 dc14 pm14 cd14 ct14 : Value}
    {f15 : Addr} {od15 an15 : Option Addr} {sl15 : Array (Option Value)} {oc15 kV15 dc15 pm15 cd15 ct15 : Value}
    {f16 : Addr} {od16 an16 : Option Addr} {sl16 : Array (Option Value)} {oc16 kV16 dc16 pm16 cd16 ct16 : Value}
    {f17 : Addr} {od17 an17 : Option Addr} {sl17 : Array (Option Value)} {oc17 kV17 dc17 pm17 cd17 ct17 : Value}
    {f18 : Addr} {od18 an18 : Option Addr} {sl18 : Array (Option Value)} {oc18 kV18 dc18 pm18 cd18 ct18 : Value}
    {f19 : Addr} {od19 an19 : Option Addr} {sl19 : Array (Option Value)} {oc19 kV19 dc19 pm19 cd19 ct19 : Value}
    {f20 : Addr} {od20 an20 : Option Addr} {sl20 : Array (Option Value)} {oc20 kV20 dc20 pm20 cd20 ct20 : Value}
    {f21 : Addr} {od21 an21 : Option Addr} {sl21 : Array (Option Value)} {oc21 kV21 dc21 pm21 cd21 ct21 : Value}
    {f22 : Addr} {od22 an22 : Option Addr} {sl22 : Array (Option Value)} {oc22 kV22 dc22 pm22 cd22 ct22 : Value}
    {f23 : Addr} {od23 an23 : Option Addr} {sl23 : Array (Option Value)} {oc23 kV23 dc23 pm23 cd23 ct23 : Value}
    {f24 : Addr} {od24 an24 : Option Addr} {sl24 : Array (Option Value)} {oc24 kV24 dc24 pm24 cd24 ct24 : Value}
    {f25 : Addr} {od25 an25 : Option Addr} {sl25 : Array (Option Value)} {oc25 kV25 dc25 pm25 cd25 ct25 : Value}
    {f26 : Addr} {od26 an26 : Option Addr} {sl26 : Array (Option Value)} {oc26 kV26 dc26 pm26 cd26 ct26 : Value}
    {f27 : Addr} {od27 an27 : Option Addr} {sl27 : Array (Option Value)} {oc27 kV27 dc27 pm27 cd27 ct27 : Value}
    {f28 : Addr} {od28 an28 : Option Addr} {sl28 : Array (Option Value)} {oc28 kV28 dc28 pm28 cd28 ct28 : Value}
    {f29 : Addr} {od29 an29 : Option Addr} {sl29 : Array (Option Value)} {oc29 kV29 dc29 pm29 cd29 ct29 : Value}
    {f30 : Addr} {od30 an30 : Option Addr} {sl30 : Array (Option Value)} {oc30 kV30 dc30 pm30 cd30 ct30 : Value}
    {f31 : Addr} {od31 an31 : Option Addr} {sl31 : Array (Option Value)} {oc31 kV31 dc31 pm31 cd31 ct31 : Value}
    {f32 : Addr} {od32 an32 : Option Addr} {sl32 : Array (Option Value)} {oc32 kV32 dc32 pm32 cd32 ct32 : Value}
    {f33 : Addr} {od33 an33 : Option Addr} {sl33 : Array (Option Value)} {oc33 kV33 dc33 pm33 cd33 ct33 : Value}
    {f34 : Addr} {od34 an34 : Option Addr} {sl34 : Array (Option Value)} {oc34 kV34 dc34 pm34 cd34 ct34 : Value}
    {f35 : Addr} {od35 an35 : Option Addr} {sl35 : Array (Option Value)} {oc35 kV35 dc35 pm35 cd35 ct35 : Value}
    {f36 : Addr} {od36 an36 : Option Addr} {sl36 : Array (Option Value)} {oc36 kV36 dc36 pm36 cd36 ct36 : Value}
    {f37 : Addr} {od37 an37 : Option Addr} {sl37 : Array (Option Value)} {oc37 kV37 dc37 pm37 cd37 ct37 : Value}
    {f38 : Addr} {od38 an38 : Option Addr} {sl38 : Array (Option Value)} {oc38 kV38 dc38 pm38 cd38 ct38 : Value}
    {f39 : Addr} {od39 an39 : Option Addr} {sl39 : Array (Option Value)} {oc39 kV39 dc39 pm39 cd39 ct39 : Value}
    {f40 : Addr} {od40 an40 : Option Addr} {sl40 : Array (Option Value)} {oc40 kV40 dc40 pm40 cd40 ct40 : Value}
    {f41 : Addr} {od41 an41 : Option Addr} {sl41 : Array (Option Value)} {oc41 kV41 dc41 pm41 cd41 ct41 : Value}
    {f42 : Addr} {od42 an42 : Option Addr} {sl42 : Array (Option Value)} {oc42 kV42 dc42 pm42 cd42 ct42 : Value}
    {f43 : Addr} {od43 an43 : Option Addr} {sl43 : Array (Option Value)} {oc43 kV43 dc43 pm43 cd43 ct43 : Value}
    {f44 : Addr} {od44 an44 : Option Addr} {sl44 : Array (Option Value)} {oc44 kV44 dc44 pm44 cd44 ct44 : Value}
    {f45 : Addr} {od45 an45 : Option Addr} {sl45 : Array (Option Value)} {oc45 kV45 dc45 pm45 cd45 ct45 : Value}
    {f46 : Addr} {od46 an46 : Option Addr} {sl46 : Array (Option Value)} {oc46 kV46 dc46 pm46 cd46 ct46 : Value}
    {f47 : Addr} {od47 an47 : Option Addr} {sl47 : Array (Option Value)} {oc47 kV47 dc47 pm47 cd47 ct47 : Value}
    {f48 : Addr} {od48 an48 : Option Addr} {sl48 : Array (Option Value)} {oc48 kV48 dc48 pm48 cd48 ct48 : Value}
    {f49 : Addr} {od49 an49 : Option Addr} {sl49 : Array (Option Value)} {oc49 kV49 dc49 pm49 ct49 : Value}
    {c_law tP_law : Addr}
    {B0 : Addr} (gB : PySem.W.nsIn K mainGlobals "BookError" = some (some (.ref B0)))
    {C_BadField I_BadField : Addr} (e_BadField : Er.Txt P K mg B0 C_BadField I_BadField "BadField" "thing")
    {C_Book : Addr} (aC_Book : PySem.W.nsIn K mainGlobals "Book" = some (some (.ref C_Book)))
    (a0 : PySem.W.nsIn K mainGlobals "letter_sum" = some (some (.ref f0))) (l0 : K.lookup f0 = some ⟨oc0, od0, .func (PySem.W.fnOf "letter_sum" "letter_sum" (defArgs s_letter_sum) (defBody s_letter_sum) (defScope s_letter_sum) .none kV0 dc0 pm0 an0 cd0 ct0), sl0⟩) (c0 : PySem.W.codeIn K cd0 "letter_sum" = true) (k0 : PySem.W.keepIn K (.ref f0) = true)
    (a1 : PySem.W.nsIn K mainGlobals "letter_negative" = some (some (.ref f1))) (l1 : K.lookup f1 = some ⟨oc1, od1, .func (PySem.W.fnOf "letter_negative" "letter_negative" (defArgs s_letter_negative) (defBody s_letter_negative) (defScope s_letter_negative) .none kV1 dc1 pm1 an1 cd1 ct1), sl1⟩) (c1 : PySem.W.codeIn K cd1 "letter_negative" = true) (k1 : PySem.W.keepIn K (.ref f1) = true)
    (a2 : PySem.W.nsIn K mainGlobals "letter_times" = some (some (.ref f2))) (l2 : K.lookup f2 = some ⟨oc2, od2, .func (PySem.W.fnOf "letter_times" "letter_times" (defArgs s_letter_times) (defBody s_letter_times) (defScope s_letter_times) .none kV2 dc2 pm2 an2 cd2 ct2), sl2⟩) (c2 : PySem.W.codeIn K cd2 "letter_times" = true) (k2 : PySem.W.keepIn K (.ref f2) = true)
    (a3 : PySem.W.nsIn K mainGlobals "letter_inverse" = some (some (.ref f3))) (l3 : K.lookup f3 = some ⟨oc3, od3, .func (PySem.W.fnOf "letter_inverse" "letter_inverse" (defArgs s_letter_inverse) (defBody s_letter_inverse) (defScope s_letter_inverse) .none kV3 dc3 pm3 an3 cd3 ct3), sl3⟩) (c3 : PySem.W.codeIn K cd3 "letter_inverse" = true) (k3 : PySem.W.keepIn K (.ref f3) = true)
    (a4 : PySem.W.nsIn K mainGlobals "row_sum" = some (some (.ref f4))) (l4 : K.lookup f4 = some ⟨oc4, od4, .func (PySem.W.fnOf "row_sum" "row_sum" (defArgs s_row_sum) (defBody s_row_sum) (defScope s_row_sum) .none kV4 dc4 pm4 an4 cd4 ct4), sl4⟩) (c4 : PySem.W.codeIn K cd4 "row_sum" = true) (k4 : PySem.W.keepIn K (.ref f4) = true)
    (a5 : PySem.W.nsIn K mainGlobals "row_times" = some (some (.ref f5))) (l5 : K.lookup f5 = some ⟨oc5, od5, .func (PySem.W.fnOf "row_times" "row_times" (defArgs s_row_times) (defBody s_row_times) (defScope s_row_times) .none kV5 dc5 pm5 an5 cd5 ct5), sl5⟩) (c5 : PySem.W.codeIn K cd5 "row_times" = true) (k5 : PySem.W.keepIn K (.ref f5) = true)
    (a6 : PySem.W.nsIn K mainGlobals "row_support" = some (some (.ref f6))) (l6 : K.lookup f6 = some ⟨oc6, od6, .func (PySem.W.fnOf "row_support" "row_support" (defArgs s_row_support) (defBody s_row_support) (defScope s_row_support) .none kV6 dc6 pm6 an6 cd6 ct6), sl6⟩) (c6 : PySem.W.codeIn K cd6 "row_support" = true) (k6 : PySem.W.keepIn K (.ref f6) = true)
    (a7 : PySem.W.nsIn K mainGlobals "is_integer" = some (some (.ref f7))) (l7 : K.lookup f7 = some ⟨oc7, od7, .func (PySem.W.fnOf "is_integer" "is_integer" (defArgs s_is_integer) (defBody s_is_integer) (defScope s_is_integer) .none kV7 dc7 pm7 an7 cd7 ct7), sl7⟩) (c7 : PySem.W.codeIn K cd7 "is_integer" = true) (k7 : PySem.W.keepIn K (.ref f7) = true)
    (a8 : PySem.W.nsIn K mainGlobals "is_integer_from" = some (some (.ref f8))) (l8 : K.lookup f8 = some ⟨oc8, od8, .func (PySem.W.fnOf "is_integer_from" "is_integer_from" (defArgs s_is_integer_from) (defBody s_is_integer_from) (defScope s_is_integer_from) .none kV8 dc8 pm8 an8 cd8 ct8), sl8⟩) (c8 : PySem.W.codeIn K cd8 "is_integer_from" = true) (k8 : PySem.W.keepIn K (.ref f8) = true)
    (a9 : PySem.W.nsIn K mainGlobals "are_integers_from" = some (some (.ref f9))) (l9 : K.lookup f9 = some ⟨oc9, od9, .func (PySem.W.fnOf "are_integers_from" "are_integers_from" (defArgs s_are_integers_from) (defBody s_are_integers_from) (defScope s_are_integers_from) .none kV9 dc9 pm9 an9 cd9 ct9), sl9⟩) (c9 : PySem.W.codeIn K cd9 "are_integers_from" = true) (k9 : PySem.W.keepIn K (.ref f9) = true)
    (a10 : PySem.W.nsIn K mainGlobals "are_letters" = some (some (.ref f10))) (l10 : K.lookup f10 = some ⟨oc10, od10, .func (PySem.W.fnOf "are_letters" "are_letters" (defArgs s_are_letters) (defBody s_are_letters) (defScope s_are_letters) .none kV10 dc10 pm10 an10 cd10 ct10), sl10⟩) (c10 : PySem.W.codeIn K cd10 "are_letters" = true) (k10 : PySem.W.keepIn K (.ref f10) = true)
    (a11 : PySem.W.nsIn K mainGlobals "is_row" = some (some (.ref f11))) (l11 : K.lookup f11 = some ⟨oc11, od11, .func (PySem.W.fnOf "is_row" "is_row" (defArgs s_is_row) (defBody s_is_row) (defScope s_is_row) .none kV11 dc11 pm11 an11 cd11 ct11), sl11⟩) (c11 : PySem.W.codeIn K cd11 "is_row" = true) (k11 : PySem.W.keepIn K (.ref f11) = true)
    (a12 : PySem.W.nsIn K mainGlobals "check_field" = some (some (.ref f12))) (l12 : K.lookup f12 = some ⟨oc12, od12, .func (PySem.W.fnOf "check_field" "check_field" (defArgs s_check_field) (defBody s_check_field) (defScope s_check_field) .none kV12 dc12 pm12 an12 cd12 ct12), sl12⟩) (c12 : PySem.W.codeIn K cd12 "check_field" = true) (k12 : PySem.W.keepIn K (.ref f12) = true)
    (a13 : PySem.W.nsIn K mainGlobals "lead_of" = some (some (.ref f13))) (l13 : K.lookup f13 = some ⟨oc13, od13, .func (PySem.W.fnOf "lead_of" "lead_of" (defArgs s_lead_of) (defBody s_lead_of) (defScope s_lead_of) .none kV13 dc13 pm13 an13 cd13 ct13), sl13⟩) (c13 : PySem.W.codeIn K cd13 "lead_of" = true) (k13 : PySem.W.keepIn K (.ref f13) = true)
    (a14 : PySem.W.nsIn K mainGlobals "with_zero_at" = some (some (.ref f14))) (l14 : K.lookup f14 = some ⟨oc14, od14, .func (PySem.W.fnOf "with_zero_at" "with_zero_at" (defArgs s_with_zero_at) (defBody s_with_zero_at) (defScope s_with_zero_at) .none kV14 dc14 pm14 an14 cd14 ct14), sl14⟩) (c14 : PySem.W.codeIn K cd14 "with_zero_at" = true) (k14 : PySem.W.keepIn K (.ref f14) = true)
    (a15 : PySem.W.nsIn K mainGlobals "reduced_rows" = some (some (.ref f15))) (l15 : K.lookup f15 = some ⟨oc15, od15, .func (PySem.W.fnOf "reduced_rows" "reduced_rows" (defArgs s_reduced_rows) (defBody s_reduced_rows) (defScope s_reduced_rows) .none kV15 dc15 pm15 an15 cd15 ct15), sl15⟩) (c15 : PySem.W.codeIn K cd15 "reduced_rows" = true) (k15 : PySem.W.keepIn K (.ref f15) = true)
    (a16 : PySem.W.nsIn K mainGlobals "check_rows" = some (some (.ref f16))) (l16 : K.lookup f16 = some ⟨oc16, od16, .func (PySem.W.fnOf "check_rows" "check_rows" (defArgs s_check_rows) (defBody s_check_rows) (defScope s_check_rows) .none kV16 dc16 pm16 an16 cd16 ct16), sl16⟩) (c16 : PySem.W.codeIn K cd16 "check_rows" = true) (k16 : PySem.W.keepIn K (.ref f16) = true)
    (a17 : PySem.W.nsIn K mainGlobals "check_at" = some (some (.ref f17))) (l17 : K.lookup f17 = some ⟨oc17, od17, .func (PySem.W.fnOf "check_at" "check_at" (defArgs s_check_at) (defBody s_check_at) (defScope s_check_at) .none kV17 dc17 pm17 an17 cd17 ct17), sl17⟩) (c17 : PySem.W.codeIn K cd17 "check_at" = true) (k17 : PySem.W.keepIn K (.ref f17) = true)
    (a18 : PySem.W.nsIn K mainGlobals "sum_of_rows" = some (some (.ref f18))) (l18 : K.lookup f18 = some ⟨oc18, od18, .func (PySem.W.fnOf "sum_of_rows" "sum_of_rows" (defArgs s_sum_of_rows) (defBody s_sum_of_rows) (defScope s_sum_of_rows) .none kV18 dc18 pm18 an18 cd18 ct18), sl18⟩) (c18 : PySem.W.codeIn K cd18 "sum_of_rows" = true) (k18 : PySem.W.keepIn K (.ref f18) = true)
    (a19 : PySem.W.findIn K (.ref C_Book) "__init__" = some (some (.ref f19))) (l19 : K.lookup f19 = some ⟨oc19, od19, .func (PySem.W.fnOf "__init__" "Book.__init__" (defArgs s_Book___init__) (defBody s_Book___init__) (defScope s_Book___init__) .none kV19 dc19 pm19 an19 cd19 ct19), sl19⟩) (c19 : PySem.W.codeIn K cd19 "Book.__init__" = true) (k19 : PySem.W.keepIn K (.ref f19) = true)
    (a20 : PySem.W.findIn K (.ref C_Book) "__eq__" = some (some (.ref f20))) (l20 : K.lookup f20 = some ⟨oc20, od20, .func (PySem.W.fnOf "__eq__" "Book.__eq__" (defArgs s_Book___eq__) (defBody s_Book___eq__) (defScope s_Book___eq__) .none kV20 dc20 pm20 an20 cd20 ct20), sl20⟩) (c20 : PySem.W.codeIn K cd20 "Book.__eq__" = true) (k20 : PySem.W.keepIn K (.ref f20) = true)
    (a21 : PySem.W.nsIn K mainGlobals "leads" = some (some (.ref f21))) (l21 : K.lookup f21 = some ⟨oc21, od21, .func (PySem.W.fnOf "leads" "leads" (defArgs s_leads) (defBody s_leads) (defScope s_leads) .none kV21 dc21 pm21 an21 cd21 ct21), sl21⟩) (c21 : PySem.W.codeIn K cd21 "leads" = true) (k21 : PySem.W.keepIn K (.ref f21) = true)
    (a22 : PySem.W.nsIn K mainGlobals "made" = some (some (.ref f22))) (l22 : K.lookup f22 = some ⟨oc22, od22, .func (PySem.W.fnOf "made" "made" (defArgs s_made) (defBody s_made) (defScope s_made) .none kV22 dc22 pm22 an22 cd22 ct22), sl22⟩) (c22 : PySem.W.codeIn K cd22 "made" = true) (k22 : PySem.W.keepIn K (.ref f22) = true)
    (a23 : PySem.W.nsIn K mainGlobals "amounts_at_leads" = some (some (.ref f23))) (l23 : K.lookup f23 = some ⟨oc23, od23, .func (PySem.W.fnOf "amounts_at_leads" "amounts_at_leads" (defArgs s_amounts_at_leads) (defBody s_amounts_at_leads) (defScope s_amounts_at_leads) .none kV23 dc23 pm23 an23 cd23 ct23), sl23⟩) (c23 : PySem.W.codeIn K cd23 "amounts_at_leads" = true) (k23 : PySem.W.keepIn K (.ref f23) = true)
    (a24 : PySem.W.nsIn K mainGlobals "is_word" = some (some (.ref f24))) (l24 : K.lookup f24 = some ⟨oc24, od24, .func (PySem.W.fnOf "is_word" "is_word" (defArgs s_is_word) (defBody s_is_word) (defScope s_is_word) .none kV24 dc24 pm24 an24 cd24 ct24), sl24⟩) (c24 : PySem.W.codeIn K cd24 "is_word" = true) (k24 : PySem.W.keepIn K (.ref f24) = true)
    (a25 : PySem.W.nsIn K mainGlobals "mirror" = some (some (.ref f25))) (l25 : K.lookup f25 = some ⟨oc25, od25, .func (PySem.W.fnOf "mirror" "mirror" (defArgs s_mirror) (defBody s_mirror) (defScope s_mirror) .none kV25 dc25 pm25 an25 cd25 ct25), sl25⟩) (c25 : PySem.W.codeIn K cd25 "mirror" = true) (k25 : PySem.W.keepIn K (.ref f25) = true)
    (a26 : PySem.W.nsIn K mainGlobals "check_fields" = some (some (.ref f26))) (l26 : K.lookup f26 = some ⟨oc26, od26, .func (PySem.W.fnOf "check_fields" "check_fields" (defArgs s_check_fields) (defBody s_check_fields) (defScope s_check_fields) .none kV26 dc26 pm26 an26 cd26 ct26), sl26⟩) (c26 : PySem.W.codeIn K cd26 "check_fields" = true) (k26 : PySem.W.keepIn K (.ref f26) = true)
    (a27 : PySem.W.nsIn K mainGlobals "check_fields_and_places" = some (some (.ref f27))) (l27 : K.lookup f27 = some ⟨oc27, od27, .func (PySem.W.fnOf "check_fields_and_places" "check_fields_and_places" (defArgs s_check_fields_and_places) (defBody s_check_fields_and_places) (defScope s_check_fields_and_places) .none kV27 dc27 pm27 an27 cd27 ct27), sl27⟩) (c27 : PySem.W.codeIn K cd27 "check_fields_and_places" = true) (k27 : PySem.W.keepIn K (.ref f27) = true)
    (a28 : PySem.W.nsIn K mainGlobals "sum_of" = some (some (.ref f28))) (l28 : K.lookup f28 = some ⟨oc28, od28, .func (PySem.W.fnOf "sum_of" "sum_of" (defArgs s_sum_of) (defBody s_sum_of) (defScope s_sum_of) .none kV28 dc28 pm28 an28 cd28 ct28), sl28⟩) (c28 : PySem.W.codeIn K cd28 "sum_of" = true) (k28 : PySem.W.keepIn K (.ref f28) = true)
    (a29 : PySem.W.nsIn K mainGlobals "common" = some (some (.ref f29))) (l29 : K.lookup f29 = some ⟨oc29, od29, .func (PySem.W.fnOf "common" "common" (defArgs s_common) (defBody s_common) (defScope s_common) .none kV29 dc29 pm29 an29 cd29 ct29), sl29⟩) (c29 : PySem.W.codeIn K cd29 "common" = true) (k29 : PySem.W.keepIn K (.ref f29) = true)
    (a30 : PySem.W.nsIn K mainGlobals "is_within" = some (some (.ref f30))) (l30 : K.lookup f30 = some ⟨oc30, od30, .func (PySem.W.fnOf "is_within" "is_within" (defArgs s_is_within) (defBody s_is_within) (defScope s_is_within) .none kV30 dc30 pm30 an30 cd30 ct30), sl30⟩) (c30 : PySem.W.codeIn K cd30 "is_within" = true) (k30 : PySem.W.keepIn K (.ref f30) = true)
    (a31 : PySem.W.nsIn K mainGlobals "_law_deck" = some (some (.ref f31))) (l31 : K.lookup f31 = some ⟨oc31, od31, .func (PySem.W.fnOf "_law_deck" "_law_deck" (defArgs s__law_deck) (defBody s__law_deck) (defScope s__law_deck) .none kV31 dc31 pm31 an31 cd31 ct31), sl31⟩) (c31 : PySem.W.codeIn K cd31 "_law_deck" = true) (k31 : PySem.W.keepIn K (.ref f31) = true)
    (a32 : PySem.W.nsIn K mainGlobals "_law_draw" = some (some (.ref f32))) (l32 : K.lookup f32 = some ⟨oc32, od32, .func (PySem.W.fnOf "_law_draw" "_law_draw" (defArgs s__law_draw) (defBody s__law_draw) (defScope s__law_draw) .none kV32 dc32 pm32 an32 cd32 ct32), sl32⟩) (c32 : PySem.W.codeIn K cd32 "_law_draw" = true) (k32 : PySem.W.keepIn K (.ref f32) = true)
    (a33 : PySem.W.nsIn K mainGlobals "_law_by" = some (some (.ref f33))) (l33 : K.lookup f33 = some ⟨oc33, od33, .func (PySem.W.fnOf "_law_by" "_law_by" (defArgs s__law_by) (defBody s__law_by) (defScope s__law_by) .none kV33 dc33 pm33 an33 cd33 ct33), sl33⟩) (c33 : PySem.W.codeIn K cd33 "_law_by" = true) (k33 : PySem.W.keepIn K (.ref f33) = true)
    (a34 : PySem.W.nsIn K mainGlobals "_law_plus" = some (some (.ref f34))) (l34 : K.lookup f34 = some ⟨oc34, od34, .func (PySem.W.fnOf "_law_plus" "_law_plus" (defArgs s__law_plus) (defBody s__law_plus) (defScope s__law_plus) .none kV34 dc34 pm34 an34 cd34 ct34), sl34⟩) (c34 : PySem.W.codeIn K cd34 "_law_plus" = true) (k34 : PySem.W.keepIn K (.ref f34) = true)
    (a35 : PySem.W.nsIn K mainGlobals "_law_times" = some (some (.ref f35))) (l35 : K.lookup f35 = some ⟨oc35, od35, .func (PySem.W.fnOf "_law_times" "_law_times" (defArgs s__law_times) (defBody s__law_times) (defScope s__law_times) .none kV35 dc35 pm35 an35 cd35 ct35), sl35⟩) (c35 : PySem.W.codeIn K cd35 "_law_times" = true) (k35 : PySem.W.keepIn K (.ref f35) = true)
    (a36 : PySem.W.nsIn K mainGlobals "_law_minus" = some (some (.ref f36))) (l36 : K.lookup f36 = some ⟨oc36, od36, .func (PySem.W.fnOf "_law_minus" "_law_minus" (defArgs s__law_minus) (defBody s__law_minus) (defScope s__law_minus) .none kV36 dc36 pm36 an36 cd36 ct36), sl36⟩) (c36 : PySem.W.codeIn K cd36 "_law_minus" = true) (k36 : PySem.W.keepIn K (.ref f36) = true)
    (a37 : PySem.W.nsIn K mainGlobals "_law_rank" = some (some (.ref f37))) (l37 : K.lookup f37 = some ⟨oc37, od37, .func (PySem.W.fnOf "_law_rank" "_law_rank" (defArgs s__law_rank) (defBody s__law_rank) (defScope s__law_rank) .none kV37 dc37 pm37 an37 cd37 ct37), sl37⟩) (c37 : PySem.W.codeIn K cd37 "_law_rank" = true) (k37 : PySem.W.keepIn K (.ref f37) = true)
    (a38 : PySem.W.nsIn K mainGlobals "_law_is_letter" = some (some (.ref f38))) (l38 : K.lookup f38 = some ⟨oc38, od38, .func (PySem.W.fnOf "_law_is_letter" "_law_is_letter" (defArgs s__law_is_letter) (defBody s__law_is_letter) (defScope s__law_is_letter) .none kV38 dc38 pm38 an38 cd38 ct38), sl38⟩) (c38 : PySem.W.codeIn K cd38 "_law_is_letter" = true) (k38 : PySem.W.keepIn K (.ref f38) = true)
    (a39 : PySem.W.nsIn K mainGlobals "_law_are_reduced" = some (some (.ref f39))) (l39 : K.lookup f39 = some ⟨oc39, od39, .func (PySem.W.fnOf "_law_are_reduced" "_law_are_reduced" (defArgs s__law_are_reduced) (defBody s__law_are_reduced) (defScope s__law_are_reduced) .none kV39 dc39 pm39 an39 cd39 ct39), sl39⟩) (c39 : PySem.W.codeIn K cd39 "_law_are_reduced" = true) (k39 : PySem.W.keepIn K (.ref f39) = true)
    (a40 : PySem.W.nsIn K mainGlobals "_law_is_book" = some (some (.ref f40))) (l40 : K.lookup f40 = some ⟨oc40, od40, .func (PySem.W.fnOf "_law_is_book" "_law_is_book" (defArgs s__law_is_book) (defBody s__law_is_book) (defScope s__law_is_book) .none kV40 dc40 pm40 an40 cd40 ct40), sl40⟩) (c40 : PySem.W.codeIn K cd40 "_law_is_book" = true) (k40 : PySem.W.keepIn K (.ref f40) = true)
    (a41 : PySem.W.nsIn K mainGlobals "_law_rows" = some (some (.ref f41))) (l41 : K.lookup f41 = some ⟨oc41, od41, .func (PySem.W.fnOf "_law_rows" "_law_rows" (defArgs s__law_rows) (defBody s__law_rows) (defScope s__law_rows) .none kV41 dc41 pm41 an41 cd41 ct41), sl41⟩) (c41 : PySem.W.codeIn K cd41 "_law_rows" = true) (k41 : PySem.W.keepIn K (.ref f41) = true)
    (a42 : PySem.W.nsIn K mainGlobals "_law_product" = some (some (.ref f42))) (l42 : K.lookup f42 = some ⟨oc42, od42, .func (PySem.W.fnOf "_law_product" "_law_product" (defArgs s__law_product) (defBody s__law_product) (defScope s__law_product) .none kV42 dc42 pm42 an42 cd42 ct42), sl42⟩) (c42 : PySem.W.codeIn K cd42 "_law_product" = true) (k42 : PySem.W.keepIn K (.ref f42) = true)
    (a43 : PySem.W.nsIn K mainGlobals "_law_are_checks" = some (some (.ref f43))) (l43 : K.lookup f43 = some ⟨oc43, od43, .func (PySem.W.fnOf "_law_are_checks" "_law_are_checks" (defArgs s__law_are_checks) (defBody s__law_are_checks) (defScope s__law_are_checks) .none kV43 dc43 pm43 an43 cd43 ct43), sl43⟩) (c43 : PySem.W.codeIn K cd43 "_law_are_checks" = true) (k43 : PySem.W.keepIn K (.ref f43) = true)
    (a44 : PySem.W.nsIn K mainGlobals "_law_is_mirror" = some (some (.ref f44))) (l44 : K.lookup f44 = some ⟨oc44, od44, .func (PySem.W.fnOf "_law_is_mirror" "_law_is_mirror" (defArgs s__law_is_mirror) (defBody s__law_is_mirror) (defScope s__law_is_mirror) .none kV44 dc44 pm44 an44 cd44 ct44), sl44⟩) (c44 : PySem.W.codeIn K cd44 "_law_is_mirror" = true) (k44 : PySem.W.keepIn K (.ref f44) = true)
    (a45 : PySem.W.nsIn K mainGlobals "_law_is_common" = some (some (.ref f45))) (l45 : K.lookup f45 = some ⟨oc45, od45, .func (PySem.W.fnOf "_law_is_common" "_law_is_common" (defArgs s__law_is_common) (defBody s__law_is_common) (defScope s__law_is_common) .none kV45 dc45 pm45 an45 cd45 ct45), sl45⟩) (c45 : PySem.W.codeIn K cd45 "_law_is_common" = true) (k45 : PySem.W.keepIn K (.ref f45) = true)
    (a46 : PySem.W.nsIn K mainGlobals "_law_told" = some (some (.ref f46))) (l46 : K.lookup f46 = some ⟨oc46, od46, .func (PySem.W.fnOf "_law_told" "_law_told" (defArgs s__law_told) (defBody s__law_told) (defScope s__law_told) .none kV46 dc46 pm46 an46 cd46 ct46), sl46⟩) (c46 : PySem.W.codeIn K cd46 "_law_told" = true) (k46 : PySem.W.keepIn K (.ref f46) = true)
    (a47 : PySem.W.nsIn K mainGlobals "_law_near" = some (some (.ref f47))) (l47 : K.lookup f47 = some ⟨oc47, od47, .func (PySem.W.fnOf "_law_near" "_law_near" (defArgs s__law_near) (defBody s__law_near) (defScope s__law_near) .none kV47 dc47 pm47 an47 cd47 ct47), sl47⟩) (c47 : PySem.W.codeIn K cd47 "_law_near" = true) (k47 : PySem.W.keepIn K (.ref f47) = true)
    (a48 : PySem.W.nsIn K mainGlobals "_law_are_joined" = some (some (.ref f48))) (l48 : K.lookup f48 = some ⟨oc48, od48, .func (PySem.W.fnOf "_law_are_joined" "_law_are_joined" (defArgs s__law_are_joined) (defBody s__law_are_joined) (defScope s__law_are_joined) .none kV48 dc48 pm48 an48 cd48 ct48), sl48⟩) (c48 : PySem.W.codeIn K cd48 "_law_are_joined" = true) (k48 : PySem.W.keepIn K (.ref f48) = true)
    (a49 : PySem.W.nsIn K mainGlobals "law" = some (some (.ref f49))) (l49 : K.lookup f49 = some ⟨oc49, od49, .func (PySem.W.fnOf "law" "law" (defArgs s_law) (defBody s_law) (defScope s_law) .none kV49 dc49 pm49 an49 (.ref c_law) ct49), sl49⟩) (c49 : PySem.W.codeIn K (.ref c_law) "law" = true) (k49 : PySem.W.keepIn K (.ref f49) = true) {occ_law : Value} {ocd_law : Option Addr} {vsc_law : Array Value} {ocs_law : Array (Option Value)} (lc_law : K.lookup c_law = some ⟨occ_law, ocd_law, .fields vsc_law, ocs_law⟩) (vp_law : (vsc_law[11]? : Option Value) = some (.ref tP_law)) (rc_law : ((recsOf q).find? (fun e => e.name == ("law" : Str))).isSome = true)
    (pg_Book : PySem.W.plainGet K C_Book Str.empty = true) (hd_Book : PySem.W.hasDictIn K C_Book = true) (po_Book : PySem.W.plainOver K C_Book = true) (sa_Book : PySem.W.findIn K (.ref C_Book) "__setattr__" = some (some (.builtin "object.__setattr__")))
    (ma_Book : PySem.W.makesIn K C_Book = true) (kp_Book : PySem.W.keepIn K (.ref C_Book) = true) (fn_Book : PySem.W.isFn K (.ref f19) = true)
    (ha_Book : PySem.W.findIn K (.ref C_Book) "__class__" = some (some (.builtin "object.__class__"))) (hn_Book : PySem.W.specialIn K (.builtin "object.__class__") "__get__" = some (some (.builtin "getset_descriptor.__get__"))) (ht_Book : PySem.W.takesIn K (.builtin "object.__class__") = some true) (hm_Book : PySem.W.mroIn K C_Book (.type "object") = some true) (nt_Book : PySem.W.subIn K (.ref C_Book) (.type "tuple") = some false) (ni_Book : PySem.W.subIn K (.ref C_Book) (.type "int") = some false)
    (no_Book_q : PySem.W.findIn K (.ref C_Book) "q" = some none)
    (no_Book_n : PySem.W.findIn K (.ref C_Book) "n" = some none)
    (no_Book_rows : PySem.W.findIn K (.ref C_Book) "rows" = some none)
    (no_Book_dimension : PySem.W.findIn K (.ref C_Book) "dimension" = some none)
    (ef_Book : PySem.W.isFn K (.ref f20) = true)
    {t_MOST_PLACES : Tok} (m_MOST_PLACES : PySem.W.nsIn K mainGlobals "MOST_PLACES" = some (some (.int 8 t_MOST_PLACES)))
    {t_MOST_ROWS : Tok} (m_MOST_ROWS : PySem.W.nsIn K mainGlobals "MOST_ROWS" = some (some (.int 16 t_MOST_ROWS)))
    {t_four : Addr} (aF : PySem.W.nsIn K mainGlobals "FOUR_TIMES" = some (some (.ref t_four))) (fF : FourTab K t_four)
    {C_OtherFields : Addr} (ug : PySem.W.nsIn K mainGlobals "OtherFields" = some (some (.ref C_OtherFields))) (ux : PySem.W.excIn K C_OtherFields [.type "Exception", .type "BaseException", .type "object"] "Exception.__new__" = true) (uk : PySem.W.keepIn K (.ref C_OtherFields) = true) (ub : PySem.W.subIn K (.ref C_OtherFields) (.type "BaseException") = some true) (ut : PySem.W.typeIn K (.ref C_OtherFields) = some (.type "type")) (ui : PySem.W.isClsIn K C_OtherFields = true) (us : PySem.W.subIn K (.ref C_OtherFields) (.ref C_OtherFields) = some true)
    {C_OtherPlaces : Addr} (vg : PySem.W.nsIn K mainGlobals "OtherPlaces" = some (some (.ref C_OtherPlaces))) (vx : PySem.W.excIn K C_OtherPlaces [.type "Exception", .type "BaseException", .type "object"] "Exception.__new__" = true) (vk : PySem.W.keepIn K (.ref C_OtherPlaces) = true) (vb : PySem.W.subIn K (.ref C_OtherPlaces) (.type "BaseException") = some true) (vt : PySem.W.typeIn K (.ref C_OtherPlaces) = some (.type "type")) (vi : PySem.W.isClsIn K C_OtherPlaces = true) (vs : PySem.W.subIn K (.ref C_OtherPlaces) (.ref C_OtherPlaces) = some true)
    (ne_Book : PySem.W.findIn K (.ref C_Book) "__ne__" = some (some (.builtin "object.__ne__"))) (ob_Book : PySem.W.subIn K (.ref C_Book) (.type "object") = some true) (xPF : PySem.W.subIn K (.ref C_OtherPlaces) (.ref C_OtherFields) = some false)
    (tnd : [tP_law].Nodup)
    (z_all : PySem.W.nsIn K mainGlobals "all" = some none)
    (z_bool : PySem.W.nsIn K mainGlobals "bool" = some none)
    (z_enumerate : PySem.W.nsIn K mainGlobals "enumerate" = some none)
    (z_int : PySem.W.nsIn K mainGlobals "int" = some none)
    (z_isinstance : PySem.W.nsIn K mainGlobals "isinstance" = some none)
    (z_len : PySem.W.nsIn K mainGlobals "len" = some none)
    (z_list : PySem.W.nsIn K mainGlobals "list" = some none)
    (z_max : PySem.W.nsIn K mainGlobals "max" = some none)
    (z_range : PySem.W.nsIn K mainGlobals "range" = some none)
    (z_repr : PySem.W.nsIn K mainGlobals "repr" = some none)
    (z_set : PySem.W.nsIn K mainGlobals "set" = some none)
    (z_sorted : PySem.W.nsIn K mainGlobals "sorted" = some none)
    (z_tuple : PySem.W.nsIn K mainGlobals "tuple" = some none)
    (z_zip : PySem.W.nsIn K mainGlobals "zip" = some none) :
    ∃ (fd : FuncData) (tabs : List Tb), (∀ t ∈ tabs, TabAt h t) ∧ PySem.W.noTabs K = true ∧ (∀ (s : Shared) (v : Value), BindsTo s fd ⟨[v], []⟩ [("_law_script", v)]) ∧ ∀ base : Heap, K.In base → base.Ns mainGlobals mg → SM base → (∀ t ∈ tabs, TabB base mg t.1 t.2.1) → FnG P w K mg base 13 fa fd ["_law_script"] (spLaw K (tbs tabs)) := by
  obtain rfl : f49 = fa := PySem.Value.ref.inj (Option.some.inj ((PySem.W.mg_of X G a49).symm.trans hfa))
  have F0 := fun_mk (st := s_letter_sum) l0 c0 k0
  have F1 := fun_mk (st := s_letter_negative) l1 c1 k1
  have F2 := fun_mk (st := s_letter_times) l2 c2 k2
  have F3 := fun_mk (st := s_letter_inverse) l3 c3 k3
  have F4 := fun_mk (st := s_row_sum) l4 c4 k4
  have F5 := fun_mk (st := s_row_times) l5 c5 k5
  have F6 := fun_mk (st := s_row_support) l6 c6 k6
  have F7 := fun_mk (st := s_is_integer) l7 c7 k7
  have F8 := fun_mk (st := s_is_integer_from) l8 c8 k8
  have F9 := fun_mk (st := s_are_integers_from) l9 c9 k9
  have F10 := fun_mk (st := s_are_letters) l10 c10 k10
  have F11 := fun_mk (st := s_is_row) l11 c11 k11
  have F12 := fun_mk (st := s_check_field) l12 c12 k12
  have F13 := fun_mk (st := s_lead_of) l13 c13 k13
  have F14 := fun_mk (st := s_with_zero_at) l14 c14 k14
  have F15 := fun_mk (st := s_reduced_rows) l15 c15 k15
  have F16 := fun_mk (st := s_check_rows) l16 c16 k16
  have F17 := fun_mk (st := s_check_at) l17 c17 k17
  have F18 := fun_mk (st := s_sum_of_rows) l18 c18 k18
  have F19 := fun_mk (st := s_Book___init__) l19 c19 k19
  have F20 := fun_mk (st := s_Book___eq__) l20 c20 k20
  have F21 := fun_mk (st := s_leads) l21 c21 k21
  have F22 := fun_mk (st := s_made) l22 c22 k22
  have F23 := fun_mk (st := s_amounts_at_leads) l23 c23 k23
  have F24 := fun_mk (st := s_is_word) l24 c24 k24
  have F25 := fun_mk (st := s_mirror) l25 c25 k25
  have F26 := fun_mk (st := s_check_fields) l26 c26 k26
  have F27 := fun_mk (st := s_check_fields_and_places) l27 c27 k27
  have F28 := fun_mk (st := s_sum_of) l28 c28 k28
  have F29 := fun_mk (st := s_common) l29 c29 k29
  have F30 := fun_mk (st := s_is_within) l30 c30 k30
  have F31 := fun_mk (st := s__law_deck) l31 c31 k31
  have F32 := fun_mk (st := s__law_draw) l32 c32 k32
  have F33 := fun_mk (st := s__law_by) l33 c33 k33
  have F34 := fun_mk (st := s__law_plus) l34 c34 k34
  have F35 := fun_mk (st := s__law_times) l35 c35 k35
  have F36 := fun_mk (st := s__law_minus) l36 c36 k36
  have F37 := fun_mk (st := s__law_rank) l37 c37 k37
  have F38 := fun_mk (st := s__law_is_letter) l38 c38 k38
  have F39 := fun_mk (st := s__law_are_reduced) l39 c39 k39
  have F40 := fun_mk (st := s__law_is_book) l40 c40 k40
  have F41 := fun_mk (st := s__law_rows) l41 c41 k41
  have F42 := fun_mk (st := s__law_product) l42 c42 k42
  have F43 := fun_mk (st := s__law_are_checks) l43 c43 k43
  have F44 := fun_mk (st := s__law_is_mirror) l44 c44 k44
  have F45 := fun_mk (st := s__law_is_common) l45 c45 k45
  have F46 := fun_mk (st := s__law_told) l46 c46 k46
  have F47 := fun_mk (st := s__law_near) l47 c47 k47
  have F48 := fun_mk (st := s__law_are_joined) l48 c48 k48
  have F49 := funL_mk (st := s_law) l49 c49 k49
  let T : Txt K mg := {
    a_letter_sum := f0, d_letter_sum := _, F_letter_sum := F0, m_letter_sum := PySem.W.mg_of X G a0,
    b_letter_sum := F0.binds (ps := P_letter_sum) fun _ _ _ _ _ _ us hl => match us, hl with | [_, _, _], _ => rfl,
    a_letter_negative := f1, d_letter_negative := _, F_letter_negative := F1, m_letter_negative := PySem.W.mg_of X G a1,
    b_letter_negative := F1.binds (ps := P_letter_negative) fun _ _ _ _ _ _ us hl => match us, hl with | [_, _], _ => rfl,
    a_letter_times := f2, d_letter_times := _, F_letter_times := F2, m_letter_times := PySem.W.mg_of X G a2,
    b_letter_times := F2.binds (ps := P_letter_times) fun _ _ _ _ _ _ us hl => match us, hl with | [_, _, _], _ => rfl,
    a_letter_inverse := f3, d_letter_inverse := _, F_letter_inverse := F3, m_letter_inverse := PySem.W.mg_of X G a3,
    b_letter_inverse := F3.binds (ps := P_letter_inverse) fun _ _ _ _ _ _ us hl => match us, hl with | [_, _], _ => rfl,
    a_row_sum := f4, d_row_sum := _, F_row_sum := F4, m_row_sum := PySem.W.mg_of X G a4,
    b_row_sum := F4.binds (ps := P_row_sum) fun _ _ _ _ _ _ us hl => match us, hl with | [_, _, _], _ => rfl,
    a_row_times := f5, d_row_times := _, F_row_times := F5, m_row_times := PySem.W.mg_of X G a5,
    b_row_times := F5.binds (ps := P_row_times) fun _ _ _ _ _ _ us hl => match us, hl with | [_, _, _], _ => rfl,
    a_row_support := f6, d_row_support := _, F_row_support := F6, m_row_support := PySem.W.mg_of X G a6,
    b_row_support := F6.binds (ps := P_row_support) fun _ _ _ _ _ _ us hl => match us, hl with | [_], _ => rfl,
    a_is_integer := f7, d_is_integer := _, F_is_integer := F7, m_is_integer := PySem.W.mg_of X G a7,
    b_is_integer := F7.binds (ps := P_is_integer) fun _ _ _ _ _ _ us hl => match us, hl with | [_], _ => rfl,
    a_is_integer_from := f8, d_is_integer_from := _, F_is_integer_from := F8, m_is_integer_from := PySem.W.mg_of X G a8,
    b_is_integer_from := F8.binds (ps := P_is_integer_from) fun _ _ _ _ _ _ us hl => match us, hl with | [_, _, _], _ => rfl,
    a_are_integers_from := f9, d_are_integers_from := _, F_are_integers_from := F9, m_are_integers_from := PySem.W.mg_of X G a9,
    b_are_integers_from := F9.binds (ps := P_are_integers_from) fun _ _ _ _ _ _ us hl => match us, hl with | [_, _, _], _ => rfl,
    a_are_letters := f10, d_are_letters := _, F_are_letters := F10, m_are_letters := PySem.W.mg_of X G a10,
    b_are_letters := F10.binds (ps := P_are_letters) fun _ _ _ _ _ _ us hl => match us, hl with | [_, _], _ => rfl,
    a_is_row := f11, d_is_row := _, F_is_row := F11, m_is_row := PySem.W.mg_of X G a11,
    b_is_row := F11.binds (ps := P_is_row) fun _ _ _ _ _ _ us hl => match us, hl with | [_, _, _], _ => rfl,
    a_check_field := f12, d_check_field := _, F_check_field := F12, m_check_field := PySem.W.mg_of X G a12,
    b_check_field := F12.binds (ps := P_check_field) fun _ _ _ _ _ _ us hl => match us, hl with | [_], _ => rfl,
    a_lead_of := f13, d_lead_of := _, F_lead_of := F13, m_lead_of := PySem.W.mg_of X G a13,
    b_lead_of := F13.binds (ps := P_lead_of) fun _ _ _ _ _ _ us hl => match us, hl with | [_], _ => rfl,
    a_with_zero_at := f14, d_with_zero_at := _, F_with_zero_at := F14, m_with_zero_at := PySem.W.mg_of X G a14,
    b_with_zero_at := F14.binds (ps := P_with_zero_at) fun _ _ _ _ _ _ us hl => match us, hl with | [_, _, _, _], _ => rfl,
    a_reduced_rows := f15, d_reduced_rows := _, F_reduced_rows := F15, m_reduced_rows := PySem.W.mg_of X G a15,
    b_reduced_rows := F15.binds (ps := P_reduced_rows) fun _ _ _ _ _ _ us hl => match us, hl with | [_, _, _], _ => rfl,
    a_check_rows := f16, d_check_rows := _, F_check_rows := F16, m_check_rows := PySem.W.mg_of X G a16,
    b_check_rows := F16.binds (ps := P_check_rows) fun _ _ _ _ _ _ us hl => match us, hl with | [_, _, _], _ => rfl,
    a_check_at := f17, d_check_at := _, F_check_at := F17, m_check_at := PySem.W.mg_of X G a17,
    b_check_at := F17.binds (ps := P_check_at) fun _ _ _ _ _ _ us hl => match us, hl with | [_, _, _, _], _ => rfl,
    a_sum_of_rows := f18, d_sum_of_rows := _, F_sum_of_rows := F18, m_sum_of_rows := PySem.W.mg_of X G a18,
    b_sum_of_rows := F18.binds (ps := P_sum_of_rows) fun _ _ _ _ _ _ us hl => match us, hl with | [_, _, _, _], _ => rfl,
    a_Book___init__ := f19, d_Book___init__ := _, F_Book___init__ := F19,
    b_Book___init__ := F19.binds (ps := P_Book___init__) fun _ _ _ _ _ _ us hl => match us, hl with | [_, _, _, _], _ => rfl,
    a_Book___eq__ := f20, d_Book___eq__ := _, F_Book___eq__ := F20,
    b_Book___eq__ := F20.binds (ps := P_Book___eq__) fun _ _ _ _ _ _ us hl => match us, hl with | [_, _], _ => rfl,
    a_leads := f21, d_leads := _, F_leads := F21, m_leads := PySem.W.mg_of X G a21,
    b_leads := F21.binds (ps := P_leads) fun _ _ _ _ _ _ us hl => match us, hl with | [_], _ => rfl,
    a_made := f22, d_made := _, F_made := F22, m_made := PySem.W.mg_of X G a22,
    b_made := F22.binds (ps := P_made) fun _ _ _ _ _ _ us hl => match us, hl with | [_, _], _ => rfl,
    a_amounts_at_leads := f23, d_amounts_at_leads := _, F_amounts_at_leads := F23, m_amounts_at_leads := PySem.W.mg_of X G a23,
    b_amounts_at_leads := F23.binds (ps := P_amounts_at_leads) fun _ _ _ _ _ _ us hl => match us, hl with | [_, _], _ => rfl,
    a_is_word := f24, d_is_word := _, F_is_word := F24, m_is_word := PySem.W.mg_of X G a24,
    b_is_word := F24.binds (ps := P_is_word) fun _ _ _ _ _ _ us hl => match us, hl with | [_, _], _ => rfl,
    a_mirror := f25, d_mirror := _, F_mirror := F25, m_mirror := PySem.W.mg_of X G a25,
    b_mirror := F25.binds (ps := P_mirror) fun _ _ _ _ _ _ us hl => match us, hl with | [_], _ => rfl,
    q_mirror_book := kb_k1 fun _ => rfl,
    a_check_fields := f26, d_check_fields := _, F_check_fields := F26, m_check_fields := PySem.W.mg_of X G a26,
    b_check_fields := F26.binds (ps := P_check_fields) fun _ _ _ _ _ _ us hl => match us, hl with | [_, _], _ => rfl,
    a_check_fields_and_places := f27, d_check_fields_and_places := _, F_check_fields_and_places := F27, m_check_fields_and_places := PySem.W.mg_of X G a27,
    b_check_fields_and_places := F27.binds (ps := P_check_fields_and_places) fun _ _ _ _ _ _ us hl => match us, hl with | [_, _], _ => rfl,
    a_sum_of := f28, d_sum_of := _, F_sum_of := F28, m_sum_of := PySem.W.mg_of X G a28,
    b_sum_of := F28.binds (ps := P_sum_of) fun _ _ _ _ _ _ us hl => match us, hl with | [_, _], _ => rfl,
    q_sum_of_other_one := kb2s fun _ _ => rfl,
    a_common := f29, d_common := _, F_common := F29, m_common := PySem.W.mg_of X G a29,
    b_common := F29.binds (ps := P_common) fun _ _ _ _ _ _ us hl => match us, hl with | [_, _], _ => rfl,
    q_common_other_one := kb2s fun _ _ => rfl,
    a_is_within := f30, d_is_within := _, F_is_within := F30, m_is_within := PySem.W.mg_of X G a30,
    b_is_within := F30.binds (ps := P_is_within) fun _ _ _ _ _ _ us hl => match us, hl with | [_, _], _ => rfl,
    q_is_within_one_other := kb2 fun _ _ => rfl,
    q_is_within_other_one := kb2s fun _ _ => rfl,
    a__law_deck := f31, d__law_deck := _, F__law_deck := F31, m__law_deck := PySem.W.mg_of X G a31,
    b__law_deck := F31.binds (ps := P__law_deck) fun _ _ _ _ _ _ us hl => match us, hl with | [_], _ => rfl,
    a__law_draw := f32, d__law_draw := _, F__law_draw := F32, m__law_draw := PySem.W.mg_of X G a32,
    b__law_draw := F32.binds (ps := P__law_draw) fun _ _ _ _ _ _ us hl => match us, hl with | [_, _], _ => rfl,
    a__law_by := f33, d__law_by := _, F__law_by := F33, m__law_by := PySem.W.mg_of X G a33,
    b__law_by := F33.binds (ps := P__law_by) fun _ _ _ _ _ _ us hl => match us, hl with | [_, _, _], _ => rfl,
    a__law_plus := f34, d__law_plus := _, F__law_plus := F34, m__law_plus := PySem.W.mg_of X G a34,
    b__law_plus := F34.binds (ps := P__law_plus) fun _ _ _ _ _ _ us hl => match us, hl with | [_, _, _], _ => rfl,
    a__law_times := f35, d__law_times := _, F__law_times := F35, m__law_times := PySem.W.mg_of X G a35,
    b__law_times := F35.binds (ps := P__law_times) fun _ _ _ _ _ _ us hl => match us, hl with | [_, _, _], _ => rfl,
    a__law_minus := f36, d__law_minus := _, F__law_minus := F36, m__law_minus := PySem.W.mg_of X G a36,
    b__law_minus := F36.binds (ps := P__law_minus) fun _ _ _ _ _ _ us hl => match us, hl with | [_, _], _ => rfl,
    a__law_rank := f37, d__law_rank := _, F__law_rank := F37, m__law_rank := PySem.W.mg_of X G a37,
    b__law_rank := F37.binds (ps := P__law_rank) fun _ _ _ _ _ _ us hl => match us, hl with | [_, _], _ => rfl,
    a__law_is_letter := f38, d__law_is_letter := _, F__law_is_letter := F38, m__law_is_letter := PySem.W.mg_of X G a38,
    b__law_is_letter := F38.binds (ps := P__law_is_letter) fun _ _ _ _ _ _ us hl => match us, hl with | [_, _], _ => rfl,
    a__law_are_reduced := f39, d__law_are_reduced := _, F__law_are_reduced := F39, m__law_are_reduced := PySem.W.mg_of X G a39,
    b__law_are_reduced := F39.binds (ps := P__law_are_reduced) fun _ _ _ _ _ _ us hl => match us, hl with | [_, _, _], _ => rfl,
    a__law_is_book := f40, d__law_is_book := _, F__law_is_book := F40, m__law_is_book := PySem.W.mg_of X G a40,
    b__law_is_book := F40.binds (ps := P__law_is_book) fun _ _ _ _ _ _ us hl => match us, hl with | [_, _, _, _], _ => rfl,
    a__law_rows := f41, d__law_rows := _, F__law_rows := F41, m__law_rows := PySem.W.mg_of X G a41,
    b__law_rows := F41.binds (ps := P__law_rows) fun _ _ _ _ _ _ us hl => match us, hl with | [_, _, _], _ => rfl,
    a__law_product := f42, d__law_product := _, F__law_product := F42, m__law_product := PySem.W.mg_of X G a42,
    b__law_product := F42.binds (ps := P__law_product) fun _ _ _ _ _ _ us hl => match us, hl with | [_, _, _], _ => rfl,
    a__law_are_checks := f43, d__law_are_checks := _, F__law_are_checks := F43, m__law_are_checks := PySem.W.mg_of X G a43,
    b__law_are_checks := F43.binds (ps := P__law_are_checks) fun _ _ _ _ _ _ us hl => match us, hl with | [_, _, _], _ => rfl,
    a__law_is_mirror := f44, d__law_is_mirror := _, F__law_is_mirror := F44, m__law_is_mirror := PySem.W.mg_of X G a44,
    b__law_is_mirror := F44.binds (ps := P__law_is_mirror) fun _ _ _ _ _ _ us hl => match us, hl with | [_, _, _, _], _ => rfl,
    a__law_is_common := f45, d__law_is_common := _, F__law_is_common := F45, m__law_is_common := PySem.W.mg_of X G a45,
    b__law_is_common := F45.binds (ps := P__law_is_common) fun _ _ _ _ _ _ us hl => match us, hl with | [_, _, _, _, _], _ => rfl,
    a__law_told := f46, d__law_told := _, F__law_told := F46, m__law_told := PySem.W.mg_of X G a46,
    b__law_told := F46.binds (ps := P__law_told) fun _ _ _ _ _ _ us hl => match us, hl with | [_], _ => rfl,
    a__law_near := f47, d__law_near := _, F__law_near := F47, m__law_near := PySem.W.mg_of X G a47,
    b__law_near := F47.binds (ps := P__law_near) fun _ _ _ _ _ _ us hl => match us, hl with | [_, _, _, _], _ => rfl,
    a__law_are_joined := f48, d__law_are_joined := _, F__law_are_joined := F48, m__law_are_joined := PySem.W.mg_of X G a48,
    b__law_are_joined := F48.binds (ps := P__law_are_joined) fun _ _ _ _ _ _ us hl => match us, hl with | [_, _, _, _], _ => rfl,
    c_law := c_law, tP_law := tP_law,
    a_law := f49, d_law := _, F_law := F49, m_law := PySem.W.mg_of X G a49,
    b_law := F49.bindsL (ps := P_law) fun _ _ _ _ _ _ us hl => match us, hl with | [_], _ => rfl,
    B0 := B0, gB := PySem.W.mg_of X G gB,
    C_BadField := C_BadField, I_BadField := I_BadField, e_BadField := e_BadField,
    C_Book := C_Book, g_Book := PySem.W.mg_of X G aC_Book, cl_Book := ⟨pg_Book, hd_Book, po_Book, sa_Book⟩, mk_Book := ⟨ma_Book, a19, fn_Book, kp_Book⟩, is_Book := ⟨ha_Book, hn_Book, ht_Book, hm_Book, kit_sub (by decide +kernel) nt_Book, kit_sub (by decide +kernel) ni_Book⟩,
    no_Book_q := no_Book_q,
    no_Book_n := no_Book_n,
    no_Book_rows := no_Book_rows,
    no_Book_dimension := no_Book_dimension,
    eq_Book := a20, eqf_Book := ef_Book,
    t_MOST_PLACES := t_MOST_PLACES, m_MOST_PLACES := PySem.W.mg_of X G m_MOST_PLACES,
    t_MOST_ROWS := t_MOST_ROWS, m_MOST_ROWS := PySem.W.mg_of X G m_MOST_ROWS,
    t_four := t_four, m_four := PySem.W.mg_of X G aF, four := fF,
    C_OtherFields := C_OtherFields, e_OtherFields := ⟨ux, PySem.W.mg_of X G ug, uk, ub, ut, ui, us⟩,
    C_OtherPlaces := C_OtherPlaces, e_OtherPlaces := ⟨vx, PySem.W.mg_of X G vg, vk, vb, vt, vi, vs⟩,
    ne_Book := ne_Book, ob_Book := ob_Book, x_pf := xPF,
    tnd := tnd,
    m_all := PySem.W.mg_none_of X G z_all,
    m_bool := PySem.W.mg_none_of X G z_bool,
    m_enumerate := PySem.W.mg_none_of X G z_enumerate,
    m_int := PySem.W.mg_none_of X G z_int,
    m_isinstance := PySem.W.mg_none_of X G z_isinstance,
    m_len := PySem.W.mg_none_of X G z_len,
    m_list := PySem.W.mg_none_of X G z_list,
    m_max := PySem.W.mg_none_of X G z_max,
    m_range := PySem.W.mg_none_of X G z_range,
    m_repr := PySem.W.mg_none_of X G z_repr,
    m_set := PySem.W.mg_none_of X G z_set,
    m_sorted := PySem.W.mg_none_of X G z_sorted,
    m_tuple := PySem.W.mg_none_of X G z_tuple,
    m_zip := PySem.W.mg_none_of X G z_zip }
  obtain ⟨r_law, hr_law⟩ := Option.isSome_iff_exists.mp rc_law
  have ta_law := tq _ _ _ _ hr_law (tabIn_of a49 l49 rfl lc_law vp_law)
  exact ⟨_, [(c_law, tP_law, qL_law)], fun t ht => ((List.mem_cons.mp ht).elim (fun e => by rw [e]; exact ⟨ta_law.1, ta_law.2⟩) fun ht => (nomatch ht)), nK, fun s v => .of_eq rfl, fun base _ _ sm hTB => ok_law T sm (hTB _ (.head _))⟩
end K09
end
section
set_option maxRecDepth 100000
open PySem PySem.W PyProof.Rows in
set_option maxRecDepth 100000 in
set_option maxHeartbeats 0 in
theorem PySem.Challenge.cw_mirrorbook_k09_mirrors_sums_and_common_b_holds : PySem.Challenge.rw_mirrorbook_k09_mirrors_sums_and_common_b.Holds := by
  w_on; o_law; k_head; (case hw => w_witness2)
  k_fill
  refine MB.walkT (l := PySem.Challenge.rw_mirrorbook_k09_mirrors_sums_and_common_b) (n := 63) (k := 13) (x := "_law_script") (sp := K09.spLaw) rfl (by decide) rfl (by decide +kernel) ⟨rfl, by decide, by decide⟩ (fun w h Y => PySem.W.km_in_of Y) ?F ?S
  case S =>
    exact fun K H a ns _ hl hT hS => ⟨a, ns, rfl, hS, hl, hT, fun _ => rfl⟩
  case F =>
    intro w mg fa h KX G tq hmg
    refine' K09.all_mk KX G hmg tq ?nK ?gB ?e_BadField ?aC_Book ?a0 ?l0 ?c0 ?k0 ?a1 ?l1 ?c1 ?k1 ?a2 ?l2 ?c2 ?k2 ?a3 ?l3 ?c3 ?k3 ?a4 ?l4 ?c4 ?k4 ?a5 ?l5 ?c5 ?k5 ?a6 ?l6 ?c6 ?k6 ?a7 ?l7 ?c7 ?k7 ?a8 ?l8 ?c8 ?k8 ?a9 ?l9 ?c9 ?k9 ?a10 ?l10 ?c10 ?k10 ?a11 ?l11 ?c11 ?k11 ?a12 ?l12 ?c12 ?k12 ?a13 ?l13 ?c13 ?k13 ?a14 ?l14 ?c14 ?k14 ?a15 ?l15 ?c15 ?k15 ?a16 ?l16 ?c16 ?k16 ?a17 ?l17 ?c17 ?k17 ?a18 ?l18 ?c18 ?k18 ?a19 ?l19 ?c19 ?k19 ?a20 ?l20 ?c20 ?k20 ?a21 ?l21 ?c21 ?k21 ?a22 ?l22 ?c22 ?k22 ?a23 ?l23 ?c23 ?k23 ?a24 ?l24 ?c24 ?k24 ?a25 ?l25 ?c25 ?k25 ?a26 ?l26 ?c26 ?k26 ?a27 ?l27 ?c27 ?k27 ?a28 ?l28 ?c28 ?k28 ?a29 ?l29 ?c29 ?k29 ?a30 ?l30 ?c30 ?k30 ?a31 ?l31 ?c31 ?k31 ?a32 ?l32 ?c32 ?k32 ?a33 ?l33 ?c33 ?k33 ?a34 ?l34 ?c34 ?k34 ?a35 ?l35 ?c35 ?k35 ?a36 ?l36 ?c36 ?k36 ?a37 ?l37 ?c37 ?k37 ?a38 ?l38 ?c38 ?k38 ?a39 ?l39 ?c39 ?k39 ?a40 ?l40 ?c40 ?k40 ?a41 ?l41 ?c41 ?k41 ?a42 ?l42 ?c42 ?k42 ?a43 ?l43 ?c43 ?k43 ?a44 ?l44 ?c44 ?k44 ?a45 ?l45 ?c45 ?k45 ?a46 ?l46 ?c46 ?k46 ?a47 ?l47 ?c47 ?k47 ?a48 ?l48 ?c48 ?k48 ?a49 ?l49 ?c49 ?k49 ?lc_law ?vp_law ?rc_law ?pg_Book ?hd_Book ?po_Book ?sa_Book ?ma_Book ?kp_Book ?fn_Book ?ha_Book ?hn_Book ?ht_Book ?hm_Book ?nt_Book ?ni_Book ?no_Book_q ?no_Book_n ?no_Book_rows ?no_Book_dimension ?ef_Book ?m_MOST_PLACES ?m_MOST_ROWS ?aF ?fF ?ug ?ux ?uk ?ub ?ut ?ui ?us ?vg ?vx ?vk ?vb ?vt ?vi ?vs ?ne_Book ?ob_Book ?xPF ?tnd ?z_all ?z_bool ?z_enumerate ?z_int ?z_isinstance ?z_len ?z_list ?z_max ?z_range ?z_repr ?z_set ?z_sorted ?z_tuple ?z_zip
    (case nK => rfl)
    (case gB => k_is)
    (case e_BadField =>
      refine' MB.Er.of KX G ?aC ?lB ?fB ?lC ?sa ?ga ?gg ?noF ?iC ?tC ?kC ?exC ?exE ?suC ?ssC ?isC ?tyC ?hdC ?op ?su ?lI ?cI ?lc ?lcc ?top ?line ?fl ?fi ?fok ?bi
      (case aC => k_is)
      (case iC => k_is)
      (case lC => k_is)
      (case lB => k_is)
      (case fB => k_is)
      (case sa => k_is)
      (case ga => k_is)
      (case gg => k_is)
      (case noF => k_is)
      (case tC => k_is)
      (case kC => k_is)
      (case exC => k_is)
      (case exE => k_is)
      (case suC => k_is)
      (case ssC => k_is)
      (case isC => k_is)
      (case tyC => k_is)
      (case hdC => k_is)
      (case op => k_is)
      (case su => k_is)
      (case lI => k_is)
      (case cI => k_is)
      (case lc => k_is)
      (case lcc => k_is)
      (case top => rfl)
      (case line => rfl)
      (case fl => rfl)
      (case fi => rfl)
      (case fok => exact ⟨by decide, by decide, by decide, by decide⟩)
      (case bi => exact fun s a b => .of_eq rfl))
    (case aC_Book => k_is)
    (case a0 => k_is)
    (case l0 => k_is)
    (case c0 => k_is)
    (case k0 => k_is)
    (case a1 => k_is)
    (case l1 => k_is)
    (case c1 => k_is)
    (case k1 => k_is)
    (case a2 => k_is)
    (case l2 => k_is)
    (case c2 => k_is)
    (case k2 => k_is)
    (case a3 => k_is)
    (case l3 => k_is)
    (case c3 => k_is)
    (case k3 => k_is)
    (case a4 => k_is)
    (case l4 => k_is)
    (case c4 => k_is)
    (case k4 => k_is)
    (case a5 => k_is)
    (case l5 => k_is)
    (case c5 => k_is)
    (case k5 => k_is)
    (case a6 => k_is)
    (case l6 => k_is)
    (case c6 => k_is)
    (case k6 => k_is)
    (case a7 => k_is)
    (case l7 => k_is)
    (case c7 => k_is)
    (case k7 => k_is)
    (case a8 => k_is)
    (case l8 => k_is)
    (case c8 => k_is)
    (case k8 => k_is)
    (case a9 => k_is)
    (case l9 => k_is)
    (case c9 => k_is)
    (case k9 => k_is)
    (case a10 => k_is)
    (case l10 => k_is)
    (case c10 => k_is)
    (case k10 => k_is)
    (case a11 => k_is)
    (case l11 => k_is)
    (case c11 => k_is)
    (case k11 => k_is)
    (case a12 => k_is)
    (case l12 => k_is)
    (case c12 => k_is)
    (case k12 => k_is)
    (case a13 => k_is)
    (case l13 => k_is)
    (case c13 => k_is)
    (case k13 => k_is)
    (case a14 => k_is)
    (case l14 => k_is)
    (case c14 => k_is)
    (case k14 => k_is)
    (case a15 => k_is)
    (case l15 => k_is)
    (case c15 => k_is)
    (case k15 => k_is)
    (case a16 => k_is)
    (case l16 => k_is)
    (case c16 => k_is)
    (case k16 => k_is)
    (case a17 => k_is)
    (case l17 => k_is)
    (case c17 => k_is)
    (case k17 => k_is)
    (case a18 => k_is)
    (case l18 => k_is)
    (case c18 => k_is)
    (case k18 => k_is)
    (case a19 => k_is)
    (case l19 => k_is)
    (case c19 => k_is)
    (case k19 => k_is)
    (case a20 => k_is)
    (case l20 => k_is)
    (case c20 => k_is)
    (case k20 => k_is)
    (case a21 => k_is)
    (case l21 => k_is)
    (case c21 => k_is)
    (case k21 => k_is)
    (case a22 => k_is)
    (case l22 => k_is)
    (case c22 => k_is)
    (case k22 => k_is)
    (case a23 => k_is)
    (case l23 => k_is)
    (case c23 => k_is)
    (case k23 => k_is)
    (case a24 => k_is)
    (case l24 => k_is)
    (case c24 => k_is)
    (case k24 => k_is)
    (case a25 => k_is)
    (case l25 => k_is)
    (case c25 => k_is)
    (case k25 => k_is)
    (case a26 => k_is)
    (case l26 => k_is)
    (case c26 => k_is)
    (case k26 => k_is)
    (case a27 => k_is)
    (case l27 => k_is)
    (case c27 => k_is)
    (case k27 => k_is)
    (case a28 => k_is)
    (case l28 => k_is)
    (case c28 => k_is)
    (case k28 => k_is)
    (case a29 => k_is)
    (case l29 => k_is)
    (case c29 => k_is)
    (case k29 => k_is)
    (case a30 => k_is)
    (case l30 => k_is)
    (case c30 => k_is)
    (case k30 => k_is)
    (case a31 => k_is)
    (case l31 => k_is)
    (case c31 => k_is)
    (case k31 => k_is)
    (case a32 => k_is)
    (case l32 => k_is)
    (case c32 => k_is)
    (case k32 => k_is)
    (case a33 => k_is)
    (case l33 => k_is)
    (case c33 => k_is)
    (case k33 => k_is)
    (case a34 => k_is)
    (case l34 => k_is)
    (case c34 => k_is)
    (case k34 => k_is)
    (case a35 => k_is)
    (case l35 => k_is)
    (case c35 => k_is)
    (case k35 => k_is)
    (case a36 => k_is)
    (case l36 => k_is)
    (case c36 => k_is)
    (case k36 => k_is)
    (case a37 => k_is)
    (case l37 => k_is)
    (case c37 => k_is)
    (case k37 => k_is)
    (case a38 => k_is)
    (case l38 => k_is)
    (case c38 => k_is)
    (case k38 => k_is)
    (case a39 => k_is)
    (case l39 => k_is)
    (case c39 => k_is)
    (case k39 => k_is)
    (case a40 => k_is)
    (case l40 => k_is)
    (case c40 => k_is)
    (case k40 => k_is)
    (case a41 => k_is)
    (case l41 => k_is)
    (case c41 => k_is)
    (case k41 => k_is)
    (case a42 => k_is)
    (case l42 => k_is)
    (case c42 => k_is)
    (case k42 => k_is)
    (case a43 => k_is)
    (case l43 => k_is)
    (case c43 => k_is)
    (case k43 => k_is)
    (case a44 => k_is)
    (case l44 => k_is)
    (case c44 => k_is)
    (case k44 => k_is)
    (case a45 => k_is)
    (case l45 => k_is)
    (case c45 => k_is)
    (case k45 => k_is)
    (case a46 => k_is)
    (case l46 => k_is)
    (case c46 => k_is)
    (case k46 => k_is)
    (case a47 => k_is)
    (case l47 => k_is)
    (case c47 => k_is)
    (case k47 => k_is)
    (case a48 => k_is)
    (case l48 => k_is)
    (case c48 => k_is)
    (case k48 => k_is)
    (case a49 => k_is)
    (case l49 => k_is)
    (case c49 => k_is)
    (case k49 => k_is)
    (case lc_law => k_is)
    (case vp_law => rfl)
    (case rc_law => rfl)
    (case pg_Book => k_is)
    (case hd_Book => k_is)
    (case po_Book => k_is)
    (case sa_Book => k_is)
    (case ma_Book => k_is)
    (case kp_Book => k_is)
    (case fn_Book => k_is)
    (case ha_Book => k_is)
    (case hn_Book => k_is)
    (case ht_Book => k_is)
    (case hm_Book => k_is)
    (case nt_Book => k_is)
    (case ni_Book => k_is)
    (case no_Book_q => k_is)
    (case no_Book_n => k_is)
    (case no_Book_rows => k_is)
    (case no_Book_dimension => k_is)
    (case ef_Book => k_is)
    (case m_MOST_PLACES => k_is)
    (case m_MOST_ROWS => k_is)
    (case aF => k_is)
    (case fF => 
      refine' K09.four_mk ?lt ?lr0 ?lr1 ?lr2 ?lr3
      (case lt => k_is)
      (case lr0 => k_is)
      (case lr1 => k_is)
      (case lr2 => k_is)
      (case lr3 => k_is))
    (case ug => k_is)
    (case ux => k_exc)
    (case uk => k_is)
    (case ub => k_is)
    (case ut => k_is)
    (case ui => k_is)
    (case us => k_is)
    (case vg => k_is)
    (case vx => k_exc)
    (case vk => k_is)
    (case vb => k_is)
    (case vt => k_is)
    (case vi => k_is)
    (case vs => k_is)
    (case ne_Book => k_is)
    (case ob_Book => k_is)
    (case xPF => k_is)
    (case tnd => decide)
    (case z_all => k_is)
    (case z_bool => k_is)
    (case z_enumerate => k_is)
    (case z_int => k_is)
    (case z_isinstance => k_is)
    (case z_len => k_is)
    (case z_list => k_is)
    (case z_max => k_is)
    (case z_range => k_is)
    (case z_repr => k_is)
    (case z_set => k_is)
    (case z_sorted => k_is)
    (case z_tuple => k_is)
    (case z_zip => k_is)
end
