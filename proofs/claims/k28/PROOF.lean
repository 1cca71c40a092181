import PyProof.Rows.All
import Wide.All
import OpenK.AllK
import Wide.FinOn
import HandS.ForMost
import HandS.Ends
import HandS.Style
import HandS.TupAny
import HandS.TupMul
import HandS.Zip
import HandS.Rev
import HandS.Walk
import KE.GoesMore
import KE.KSuper
import KE.KExcInit
import HandS.ExcSuper
import HandS.ExcOwn
import HandS.ExcField
import HandS.TryMany
import HandS.WordsExc
import HandS.IsInst
import PyProof.ReprBulk
import HandS.Lambda
import KE.KNest
import PyProof.ReprLen
import HandS.ExcIs
import KE.KExcIs
import HandS.Gcd
import HandS.Wide
import HandS.OwnEq
import KE.GoesEnum
import PySem.Challenge.RW_mirrorbook_k28_subcounts_of_any_polynomi
set_option Elab.async false
set_option linter.all false
section
set_option maxRecDepth 100000
set_option maxHeartbeats 4000000
namespace MB
open PySem PySem.Spec PyProof.Rows L2
mutual
theorem Dp.flat {K : PySem.W.Frag} {H : Hp} : ∀ (d : PyData) (v : V), Dp K H v d → d.hasDict = false
  | .none, _, _ => by simp only [PyData.hasDict]
  | .bool _, _, _ => by simp only [PyData.hasDict]
  | .int _, _, _ => by simp only [PyData.hasDict]
  | .str _, _, _ => by simp only [PyData.hasDict]
  | .list ds, _, h => by
    cases h with
    | lst _ ha =>
      simp only [PyData.hasDict]
      exact Dp.flats ds _ ha
  | .tuple ds, _, h => by
    cases h with
    | tup _ ha =>
      simp only [PyData.hasDict]
      exact Dp.flats ds _ ha
  | .dict _, _, h => by cases h
theorem Dp.flats {K : PySem.W.Frag} {H : Hp} : ∀ (ds : List PyData) (vs : List V), DpAll K H vs ds → PyData.hasDictAll ds = false
  | [], _, _ => by simp only [PyData.hasDictAll]
  | d :: ds, _, h => by
    cases h with
    | cons h1 h2 =>
      simp only [PyData.hasDictAll]
      rw [Dp.flat d _ h1, Dp.flats ds _ h2]
      rfl
end
def rRepr (K : PySem.W.Frag) : List V → Hp → VK → Prop := fun xs H Q => ∃ x d, xs = [x] ∧ Dp K H x d ∧
  d.showable = true ∧ d.depth ≤ 60 ∧ d.shown.length ≤ sizeLine ∧ Q (.str d.shown) H
theorem call_repr {X : Cx} (hgu : X.A.guards = some []) (hu : X.A.units + 64 < cLine) : CallR X (.builtin "repr") (rRepr X.K) := by
  intro pins s σ H xs us Q I r h
  obtain ⟨x, d, rfl, hd, hs, hz, hl, q⟩ := h
  obtain ⟨u, rfl, ru⟩ := vals1 r
  have hu1 : X.A.units + 1 < cLine := by omega
  cases hd with
  | non =>
    cases ru
    simp only [PyData.shown] at q
    exact PySem.P.repr_of_none ⟨.str _, H, I.tok _, ⟨_, rfl⟩, q⟩
  | bl b =>
    cases ru
    simp only [PyData.shown] at q
    exact PySem.P.repr_of_bool ⟨.str _, H, I.tok _, ⟨_, rfl⟩, q⟩
  | int i =>
    obtain ⟨t, rfl⟩ := ru
    simp only [PyData.shown] at q
    simp only [PyData.showable, decide_eq_true_eq] at hs
    exact PySem.P.repr_of_int hs ⟨.str _, H, I.tok _, ⟨_, rfl⟩, q⟩
  | str z =>
    obtain ⟨t, rfl⟩ := ru
    simp only [PyData.shown] at q hl
    exact PySem.P.repr_of_str ⟨.str _, H, I.tok _, ⟨_, rfl⟩, q⟩ hl
  | @lst a ys ds h1 h2 =>
    obtain ⟨as, rd⟩ := Dp.reads I _ _ _ (Dp.lst h1 h2) ru
    cases ru
    refine repr_of_reads' rd hs (PyData.noDict_hsm (Dp.flat _ _ (Dp.lst h1 h2))) hgu (by omega) (fun _ _ e => e) (fun h' u tk k => ?_) hl
    exact ⟨.str _, H, I.kept (t' := tk) k, ⟨_, rfl⟩, q⟩
  | @tup a ys ds h1 h2 =>
    obtain ⟨as, rd⟩ := Dp.reads I _ _ _ (Dp.tup h1 h2) ru
    cases ru
    refine repr_of_reads' rd hs (PyData.noDict_hsm (Dp.flat _ _ (Dp.tup h1 h2))) hgu (by omega) (fun _ _ e => e) (fun h' u tk k => ?_) hl
    exact ⟨.str _, H, I.kept (t' := tk) k, ⟨_, rfl⟩, q⟩
theorem adj_back (n : Nat) : Builtin.Slice.sliceAdjust none none (-1) (n : Int) = ((n : Int) - 1, -1) := rfl
theorem places_back (n : Nat) : Builtin.Slice.slicePlaces ((n : Int) - 1) (-1) (-1) = n := by
  unfold Builtin.Slice.slicePlaces
  rw [if_neg (by decide)]
  split
  · have e : (-(-1) : Int) = 1 := rfl
    rw [e, Int.ediv_one]
    omega
  · omega
theorem picked_back (xs : Array Value) :
    ((List.range xs.size).filterMap fun (k : Nat) => xs[(((xs.size : Nat) : Int) - 1 + (k : Int) * (-1)).toNat]?) = xs.toList.reverse := by
  have e : ∀ k ∈ List.range xs.size, xs[(((xs.size : Nat) : Int) - 1 + (k : Int) * (-1)).toNat]? = xs[xs.size - 1 - k]? := by
    intro k hk
    have := List.mem_range.mp hk
    have z : (((xs.size : Nat) : Int) - 1 + (k : Int) * (-1)).toNat = xs.size - 1 - k := by omega
    rw [z]
  have fc : ∀ (l : List Nat) (f g : Nat → Option Value), (∀ k ∈ l, f k = g k) → l.filterMap f = l.filterMap g := by
    intro l f g
    induction l with
    | nil => intro _; rfl
    | cons z r ih =>
      intro hh
      rw [List.filterMap_cons, List.filterMap_cons, hh z List.mem_cons_self, ih fun k hk => hh k (List.mem_cons_of_mem _ hk)]
  rw [fc _ _ _ e]
  have e2 : (List.range xs.size).filterMap (fun k => xs[xs.size - 1 - k]?) = ((List.range xs.size).map fun k => xs.size - 1 - k).filterMap (fun k => xs[k]?) := by
    rw [List.filterMap_map]
    rfl
  rw [e2, PySem.W.krv_range, List.filterMap_reverse]
  have := PySem.W.krv_all xs
  rw [this]
section
variable {prog : Program} {w : World} {A : Around} {E : Value → Shared → Prop} {s : Shared}
theorem getItem_tup_back {t sl : Addr} {items : Array Value} {vl vu vk : Value} {Q : Value → Shared → Prop} (ht : IsTup s.heap t items)
    (hs : s.heap.IsSliceOf sl vl vu vk) (pl : IsPart vl none) (pu : IsPart vu none) (pk : IsPart vk (some (-1))) (hz : items.size ≤ sizeLine)
    (h : Q (.ref s.heap.objs.size) { s with heap := s.heap.push { cls := .type "tuple", data := .seq items.toList.reverse.toArray } }) :
    wpAny (model prog w) A (getItem (.ref t) (.ref sl)) Q E s := by
  have okz : sizeOk (.seq items.toList.reverse.toArray) := by
    show items.toList.reverse.toArray.size ≤ sizeLine
    rw [List.size_toArray, List.length_reverse, Array.length_toList]
    exact hz
  obtain ⟨os, hos, hcs, hds⟩ := id hs
  have hT : s.TypeIs (.ref sl) "slice" := ⟨os, hos, hcs⟩
  unfold getItem
  try with_reducible refine wpAny_holding ?_
  first
    | refine wpAny_bind (wpAny_pure ?_)
    | skip
  refine wpAny_bind (wpAny_sequenceKey ht.typeIs (by decide) ?_)
  refine wpAny_bind (wpAny_callSpecial?_slot (name := Str.ofString "__getitem__") ht.typeIs slot_tuple_getitem
    (wpAny_call_entry slot_tuple_getitem ht.typeIs PyProof.Rows.entry_tuple_getitem ?_ (PyProof.Rows.args_tuple_getitem _ _)))
  show wpAny _ _ (Builtin.Tuple.tupleItemsOf (.ref t) >>= _) _ _ s
  refine wpAny_bind (PyProof.Rows.tupleItemsOf_ ht ?_)
  refine wpAny_bind (wpAny_typeOf hT ?_)
  rw [if_pos (by decide)]
  have sa : ∀ {Q' : Int × Int × Nat → Shared → Prop} {E' : Value → Shared → Prop} {A' : Around}, Q' (((items.size : Nat) : Int) - 1, -1, items.size) s →
      wpAny (model prog w) A' (Builtin.Slice.sliceApplied (.ref sl) (pure ((items.size : Nat) : Int))) Q' E' s := by
    intro Q' E' A' q
    unfold Builtin.Slice.sliceApplied Builtin.Slice.sliceFields
    refine wpAny_bind (wpAny_bind (wpAny_field hos hds (x := vl) rfl (wpAny_bind
      (wpAny_field hos hds (x := vu) rfl (wpAny_bind (wpAny_field hos hds (x := vk) rfl (wpAny_pure ?_)))))))
    refine wpAny_bind (HT.slicePart_ pk ?_)
    show wpAny _ _ (if ((-1 : Int) == 0) = true then _ else _) _ _ s
    rw [if_neg (by decide)]
    refine wpAny_bind (HT.slicePart_ pl (wpAny_bind (HT.slicePart_ pu (wpAny_bind (wpAny_pure ?_)))))
    show wpAny _ _ (match Builtin.Slice.sliceAdjust none none (-1) ((items.size : Nat) : Int) with
      | (lo, hi) => pure (lo, (-1 : Int), Builtin.Slice.slicePlaces lo hi (-1))) _ _ s
    rw [adj_back]
    show wpAny _ _ (pure (((items.size : Nat) : Int) - 1, (-1 : Int), Builtin.Slice.slicePlaces (((items.size : Nat) : Int) - 1) (-1) (-1))) _ _ s
    rw [places_back]
    exact wpAny_pure q
  refine wpAny_bind (sa ?_)
  have hno : ¬ (((((items.size : Nat) : Int) - 1 == 0) && ((-1 : Int) == 1) && (items.size == items.size)) = true) := by
    intro q
    rw [Bool.and_eq_true, Bool.and_eq_true] at q
    exact absurd (eq_of_beq q.1.2) (by decide)
  show wpAny _ _ (if ((((items.size : Nat) : Int) - 1 == 0) && ((-1 : Int) == 1) && (items.size == items.size)) = true then _ else _) _ _ s
  rw [if_neg hno, picked_back]
  first
    | exact wpAny_bind (m := Builtin.Tuple.tupleExact _) (wpAny_newObj_type (wpAny_pure ⟨_, rfl, wpAny_pure h⟩) okz)
    | exact wpAny_bind (m := Builtin.Tuple.tupleExact _) (wpAny_newObj_type (wpAny_bind (wpAny_pure (wpAny_pure ⟨_, rfl, wpAny_pure h⟩))) okz)
    | exact wpAny_bind (wpAny_bind (m := Builtin.Tuple.tupleExact _) (wpAny_newObj_type (wpAny_pure (wpAny_pure ⟨_, rfl, wpAny_pure h⟩)) okz))
    | exact wpAny_bind (wpAny_bind (m := Builtin.Tuple.tupleExact _) (wpAny_newObj_type (wpAny_pure ⟨_, rfl, wpAny_pure h⟩) okz))
end
def tRevT (K : PySem.W.Frag) (te : TE) : TE := fun σ H Q => te σ H fun x H1 => ∃ a xs, x = .ref a ∧ SqT K H1 a xs ∧
  ∀ p, H1 p = none → Q (.ref p) (upd H1 p (.tup xs.reverse))
theorem pe_revT {X : Cx} {e : Expr} {te : TE} {k : Nat} {p1 p2 p3 pos : Pos} (he : PE X e te) :
    PE X (.Subscript e (.Slice none none (some (.UnaryOp .USub (.Constant (.int 1) k p1) p2)) p3) pos) (tRevT X.K te) := by
  refine ⟨fun pins s σ H Q I h => ?_⟩
  refine Subscript_ (thn (he.run pins s σ H _ I h) fun v s1 ⟨x, H1, I1, r1, q1⟩ => ?_)
  obtain ⟨a, xs, rfl, hx, q⟩ := q1
  cases r1
  have back : PO X (some (.UnaryOp .USub (.Constant (.int 1) k p1) p2)) (tPart (tUn (rU fun i => .int (-i)) (tC (.int 1)))) :=
    po_some (pe_un un_neg pe_int)
  refine wpAny_Slice (thn (po_none.run pins s1 σ H1 (fun o H2 => o = none ∧ H2 = H1) I1 ⟨rfl, rfl⟩) fun vl s2 ⟨l, H2, I2, pl, el, e2⟩ => ?_)
  subst el e2
  refine thn (po_none.run pins s2 σ H2 (fun o H3 => o = none ∧ H3 = H2) I2 ⟨rfl, rfl⟩) fun vu s3 ⟨u, H3, I3, pu, eu, e3⟩ => ?_
  subst eu e3
  refine thn (back.run pins s3 σ H3 (fun o H4 => o = some (-1) ∧ H4 = H3) I3 ⟨1, rfl, -1, rfl, rfl, rfl⟩) fun vk s4 ⟨o, H4, I4, pk, eo, e4⟩ => ?_
  subst eo e4
  have I5 : Inv X pins σ H4 { s4 with heap := s4.heap.push { cls := .type "slice", data := .fields #[vl, vu, vk] } } :=
    I4.kept (t' := s4.toks) fun b ob z => Heap.get?_push_of_some _ z
  obtain ⟨its, r, ht, hz⟩ := I5.tuple hx
  have hlen := r.length
  show wpAny (model X.prog X.w) X.A (subscriptTail e (.Slice none none (some (.UnaryOp .USub (.Constant (.int 1) k p1) p2)) p3)
    (.ref a) (.ref s4.heap.objs.size)) (EP X pins σ Q) X.xe { s4 with heap := s4.heap.push { cls := .type "slice", data := .fields #[vl, vu, vk] } }
  refine tail_any (ops := [.ref a, .ref s4.heap.objs.size]) ht.typeIs slot_tuple_getitem.lookup ?_ (by with_unfolding_all rfl)
  refine getItem_tup_back ht (Heap.IsSliceOf.new _ vl vu vk) pl pu pk (by rw [List.size_toArray]; omega) ?_
  refine ⟨.ref _, _, I5.laid (t' := s4.toks) (o := .tup xs.reverse) (fun b ob z => Heap.get?_push_of_some _ z) (Nat.le_refl _) ?_, rfl,
    q _ (I5.hok.fresh (Nat.le_refl _))⟩
  exact ⟨by rw [List.length_reverse]; omega, _, r.reverse, IsTup.new _ _⟩
section
variable {K : PySem.W.Frag} {a b : Addr} {xs ys : List V}
theorem walk_zipT {n : Nat} (hn : n = min xs.length ys.length) :
    Walk (RZ.ItzT K a b) n (fun H => SqT K H a xs ∧ SqT K H b ys) (YPair (fun i => xs[i]?) (fun i => ys[i]?)) := by
  subst hn
  refine ⟨fun i _ hi q => ?_, fun _ q => ⟨xs, ys, q.1, q.2, by omega⟩, fun i H v H' _ q y => ?_⟩
  · have h1 : i < xs.length := by omega
    have h2 : i < ys.length := by omega
    exact ⟨xs, ys, xs[i], ys[i], q.1, q.2, by simp [h1], by simp [h2]⟩
  · obtain ⟨T, x, z, h1, h2, h3, h4, h5⟩ := y
    exact ⟨T, x, z, h1, h2, h3, h4 xs q.1, h5 ys q.2⟩
theorem walk_revT : Walk (RT.ItvT K a xs.length) xs.length (fun H => SqT K H a xs) (fun i H x H' => H' = H ∧ xs[xs.length - 1 - i]? = some x) := by
  refine ⟨fun i _ hi q => ⟨hi, xs, xs[xs.length - 1 - i]'(by omega), q, by simp [show xs.length - 1 - i < xs.length by omega]⟩, fun _ _ => Nat.le_refl _, ?_⟩
  intro i H x H' _ q y
  exact ⟨y.1, y.2 xs q⟩
end
end MB
end
section
set_option maxRecDepth 100000
set_option maxHeartbeats 4000000
namespace MB
open PySem PySem.Spec PyProof.Rows L2
theorem mul_once (l : Addr) (items : Array Value) (n : Nat) (dd : Option Addr) (sl : Array (Option Value)) (u : Tok) :
    Meets (Builtin.«tuple.__mul__» ⟨[.ref l, .int 1 u], []⟩) (fun _ R s =>
      s.heap.get? l = some { cls := .type "tuple", dict := dd, data := .seq items n, slots := sl } ∧ R (.ok (.ret (.ref l))) s) :=
  .of_wp fun prog w A R s h => by
    obtain ⟨hp, g, d, tk, os⟩ := s
    obtain ⟨hl, h⟩ := h
    have f1 := AutoSeq1.idx_int
    wp_walk using wpAny_loadPart' hl
    repeat (first
      | (refine wpAny_ite_false (by decide) ?_; wp_walk using wpAny_loadPart' hl)
      | (refine wpAny_ite_true (by simp) ?_; wp_walk using wpAny_loadPart' hl))
    all_goals exact ⟨_, rfl, h⟩
theorem mul_none (l : Addr) (items : Array Value) (n : Nat) (dd : Option Addr) (sl : Array (Option Value)) (x : Int) (u : Tok)
    (c0 : (decide (x < -(2 ^ 63)) || decide (x ≥ 2 ^ 63)) = false) (c1 : (items.isEmpty || x == 1) = false) (c2 : (decide (x ≤ 0) || items.isEmpty) = true) :
    Meets (Builtin.«tuple.__mul__» ⟨[.ref l, .int x u], []⟩) (fun _ R s =>
      s.heap.get? l = some { cls := .type "tuple", dict := dd, data := .seq items n, slots := sl } ∧
      R (.ok (.ret (Value.ref s.heap.objs.size))) { s with heap := s.heap.push { cls := Value.type "tuple", data := Data.seq #[] }, toks := s.toks }) :=
  .of_wp fun prog w A R s h => by
    obtain ⟨hp, g, d, tk, os⟩ := s
    obtain ⟨hl, h⟩ := h
    have f1 := AutoSeq1.idx_int
    wp_walk using wpAny_loadPart' hl
    repeat (first
      | (refine wpAny_ite_false (decide_eq_false (by rw [c0]; exact Bool.false_ne_true)) ?_; wp_walk using wpAny_loadPart' hl)
      | (refine wpAny_ite_false (decide_eq_false (by rw [c1]; exact Bool.false_ne_true)) ?_; wp_walk using wpAny_loadPart' hl)
      | (refine wpAny_ite_true (decide_eq_true c2) ?_; wp_walk using wpAny_loadPart' hl))
    exact ⟨_, rfl, h⟩
def rRepA (K : PySem.W.Frag) : R2 := fun x y H Q => ∃ l k xs, x = .ref l ∧ y = .int k ∧ SqT K H l xs ∧ xs ≠ [] ∧ -(2 ^ 63) ≤ k ∧ k ≤ 1000 ∧ xs.length ≤ 1000 ∧
  (k = 1 → Q (.ref l) H) ∧ (k ≠ 1 → ∀ p, H p = none → Q (.ref p) (upd H p (.tup (List.replicate k.toNat xs).flatten)))
theorem op_repA {X : Cx} : OpR X (binaryOp .Mult) (rRepA X.K) := by
  intro pins s σ H x y v u Q I rx ry h
  obtain ⟨l, k, xs, rfl, rfl, hT, hne, h0, h2, hz, q1, qn⟩ := h
  by_cases hbig : 2 ≤ k
  · exact op_repT pins s σ H _ _ v u Q I rx ry ⟨l, k, xs, rfl, rfl, hT, hne, hbig, h2, hz, qn (by omega)⟩
  · cases rx
    obtain ⟨t, rfl⟩ := ry
    obtain ⟨its, r, ⟨⟨cls, dd, data, sl⟩, ho, hc, n, hd⟩, hs⟩ := I.tuple hT
    simp only at hc hd
    subst hc hd
    have hle : its.length = xs.length := r.length.symm
    have hi : its.toArray.isEmpty = false := by
      cases its with
      | nil => exact absurd (List.eq_nil_of_length_eq_zero hle.symm) hne
      | cons _ _ => rfl
    refine wpAny_binaryOp_repeat_ref (T := "tuple") (U := "int") (by decide) ⟨_, ho, rfl⟩ (fun s' => typeIs_int s' k t) noFill_tuple_mul
      F.fills_int_mul F.slot_int_rmul repeat_tuple F.slot_int_index.lookup (call_meets F.slot_int_rmul (typeIs_int s k t) F.entry_int_rmul
        (F.args_int_rmul_2 _ _) (int_rmul_tuple k t l its.toArray n dd sl) ⟨ho, rfl, ⟨_, ho, rfl⟩, ?_⟩)
    by_cases h1 : k = 1
    · subst h1
      exact call_meets F.slot_tuple_mul ⟨_, ho, rfl⟩ F.entry_tuple_mul (F.args_tuple_mul_2 _ _) (mul_once l its.toArray n dd sl t)
        ⟨ho, .ref l, H, I, rfl, q1 rfl⟩
    · have c0 : (decide (k < -(2 ^ 63)) || decide (k ≥ 2 ^ 63)) = false := by
        rw [decide_eq_false (by omega), decide_eq_false (by omega)]
        rfl
      have c1 : (its.toArray.isEmpty || k == 1) = false := by
        rw [hi, Bool.false_or]
        exact beq_eq_false_iff_ne.mpr h1
      have c2 : (decide (k ≤ 0) || its.toArray.isEmpty) = true := by
        rw [decide_eq_true (by omega)]
        rfl
      refine call_meets F.slot_tuple_mul ⟨_, ho, rfl⟩ F.entry_tuple_mul (F.args_tuple_mul_2 _ _) (mul_none l its.toArray n dd sl k t c0 c1 c2) ⟨ho, ?_⟩
      have e0 : (List.replicate k.toNat xs).flatten = [] := by
        rw [show k.toNat = 0 by omega]
        rfl
      have q := qn h1
      rw [e0] at q
      refine ⟨.ref s.heap.objs.size, _, I.laid (t' := s.toks) (o := .tup []) (fun b ob z => Heap.get?_push_of_some _ z) (Nat.le_refl _) ?_, rfl,
        q _ (I.hok.fresh (Nat.le_refl _))⟩
      exact ⟨Nat.zero_le _, [], .nil, IsTup.new _ _⟩
end MB
end
section
set_option maxRecDepth 100000
set_option maxHeartbeats 4000000
namespace MB
open PySem PySem.Spec PyProof.Rows L2
open AutoSeq1 (wpAny_loadPart')
abbrev tupIt (t : Addr) : Obj := { cls := .type "tuple_iterator", data := .fields #[.ref t, .int 0 0] }
abbrev enumObj (it : Addr) : Obj := { cls := .type "enumerate", data := .fields #[.none, .bool false, .ref it, rawInt 0, .none, .none] }
theorem new_enum_tup (l : Addr) (items : Array Value) (n : Nat) (dct : Option Addr) (sl : Array (Option Value)) :
    Meets (Builtin.«enumerate.__new__» ⟨[.type "enumerate", .ref l], []⟩) (fun _ R s =>
      s.heap.get? l = some { cls := .type "tuple", dict := dct, data := .seq items n, slots := sl } ∧
      R (.ok (.ret (.ref (s.heap.push (tupIt l)).objs.size))) { s with heap := (s.heap.push (tupIt l)).push (enumObj s.heap.objs.size) }) :=
  .of_wp fun prog w A R s h => by
    obtain ⟨hp, g, d, tk, os⟩ := s
    obtain ⟨hl, h⟩ := h
    have hsub := sub_enumerate
    have hL : Heap.IsTuple (Shared.heap ⟨hp, g, d, tk, os⟩) l items := ⟨_, hl, rfl, n, rfl⟩
    wp_walk using wpAny_loadPart' hl
    refine wpAny_stack_any fun st => wpAny_pure ?_
    split
    · rename_i c _ _ _ _ _
      cases (c == Value.type "enumerate") <;>
      · wp_walk using wpAny_loadPart' hl, wpAny_pyIter_tuple hL
        exact ⟨_, rfl, h⟩
    · wp_walk using wpAny_loadPart' hl, wpAny_pyIter_tuple hL
      exact ⟨_, rfl, h⟩
section
variable {prog : Program} {w : World} {A : Around} {E : Value → Shared → Prop} {s : Shared}
theorem call_enum_tup {l : Addr} {items : Array Value} {Q : Value → Shared → Prop} (hL : s.heap.IsTuple l items)
    (h : ∀ h', IsEnum h' (s.heap.objs.size + 1) s.heap.objs.size 0 .none → h'.IsTupleIter s.heap.objs.size l 0 →
      (∀ b o, s.heap.get? b = some o → h'.get? b = some o) → Q (.ref (s.heap.objs.size + 1)) { s with heap := h' }) :
    wpAny (model prog w) A (call (.type "enumerate") [.ref l]) Q E s := by
  obtain ⟨⟨c, dct, dt, sl⟩, hl, hc, n, hd⟩ := hL
  replace hc : c = .type "tuple" := hc
  replace hd : dt = .seq items n := hd
  subst hc hd
  refine callType_new F.called_enumerate (by decide) (F.typeCall_enumerate_1 _) (F.newCall_enumerate_1 _)
    (fun obj => F.args_object_init_2 obj _) F.entry_enumerate_new (new_enum_tup l items n dct sl) ⟨hl, ?_⟩
  have hz : (s.heap.push (tupIt l)).objs.size = s.heap.objs.size + 1 := Heap.size_push ..
  show _ ∧ _
  rw [hz]
  have he : IsEnum ((s.heap.push (tupIt l)).push (enumObj s.heap.objs.size)) (s.heap.objs.size + 1) s.heap.objs.size 0 .none := by
    have q := Heap.get?_push_size (s.heap.push (tupIt l)) (o := enumObj s.heap.objs.size) rfl
    rw [hz] at q
    exact q
  exact ⟨⟨_, he, rfl⟩, h _ he ⟨_, Heap.get?_push_of_some _ (Heap.get?_push_size _ rfl), rfl, rfl⟩
    fun b o x => Heap.get?_push_of_some _ (Heap.get?_push_of_some _ x)⟩
end
def IteT (K : PySem.W.Frag) (a : Addr) : It :=
  ⟨fun i H => ∃ (xs : List V) (x : V), SqT K H a xs ∧ xs[i]? = some x,
   fun i H v H' => ∃ T x, v = .ref T ∧ H T = none ∧ H' = upd H T (.tup [.int (i : Nat), x]) ∧ ∀ xs, SqT K H a xs → xs[i]? = some x,
   fun i H => ∃ xs : List V, SqT K H a xs ∧ xs.length = i⟩
theorem turn_enumT {P : Program} {w : World} {K : PySem.W.Frag} {elts : List Expr} {kk : Nat} {tpos : Pos} (a e it : Addr) (hai : a ≠ it) (hae : a ≠ e) :
    Turn P w K (.Tuple elts kk tpos) (IteT K a) [e, it] e
      (fun i h => (∃ old, IsEnum h e it ((i : Nat) : Int) old) ∧ h.IsTupleIter it a i ∧ e ≠ it) where
  mem := by simp
  obj := fun i h st b hb => by
    obtain ⟨⟨old, he⟩, ⟨o, ho, hc, hd⟩, _⟩ := st
    have hb' : b = e ∨ b = it := by simpa using hb
    rcases hb' with z | z
    · subst z
      exact ⟨_, he, fun v q => nomatch q⟩
    · subst z
      exact ⟨o, ho, fun v q => by rw [hd] at q; cases q⟩
  keep := fun i h h' st k => by
    obtain ⟨⟨old, he⟩, hi, hne⟩ := st
    exact ⟨⟨old, k e (by simp) _ he⟩, hi.at fun o q => k it (by simp) o q, hne⟩
  item := by
    intro X hP hw hK hc i pins s σ H E I hf st hg
    subst hP hw hK
    obtain ⟨⟨old, he⟩, hit, hne⟩ := st
    obtain ⟨xs, x, hq, hx⟩ := hg
    obtain ⟨its, rv, p, hz⟩ := I.tuple hq
    obtain ⟨u, hu, ru⟩ := rv.get hx
    have hel : e < s.heap.objs.size := Heap.lt_size he
    have hil : it < s.heap.objs.size := by
      obtain ⟨_, q, _⟩ := hit
      exact Heap.lt_size q
    have hlt : i < its.toArray.size := by
      rw [List.size_toArray]
      exact (List.getElem?_eq_some_iff.mp hu).1
    have hh : X.A.in1.handled = none := I.ok.hd hc
    refine wpAny_pyNext_enum_itemD (Draws.tuple hh it a hai its.toArray) he ⟨hit, p⟩ hlt hne (by simp [hne, Ne.symm hae]) fun y h' tk hy ho hst hT hsz hk => ?_
    have eyu : y = u := by
      have z : its.toArray[i]? = some u := by simpa using hu
      rw [z] at hy
      exact (Option.some.inj hy).symm
    subst eyu
    refine ⟨_, rfl, wpAny_letOwnedTupleGo_enum (s := { s with heap := h', toks := tk + 1 }) ho fun h'' he' sb => ?_⟩
    have hT2 : h''.get? s.heap.objs.size = some { cls := .type "tuple", data := .seq #[.int i tk, y] } :=
      (sb.2 _ (Nat.ne_of_gt hel)).trans hT
    have new : ObjOk X.prog X.w (upd H s.heap.objs.size (.tup [.int (i : Nat), x])) h'' s.heap.objs.size (.tup [.int (i : Nat), x]) :=
      ⟨(by decide : 2 ≤ sizeLine), [.int i tk, y], .cons ⟨_, rfl⟩ (.cons ru .nil), ⟨_, hT2, rfl, _, rfl⟩⟩
    have I1 : Inv X pins σ (upd H s.heap.objs.size (.tup [.int (i : Nat), x])) { s with heap := h'', toks := tk + 1 } :=
      I.turnedNew (ch := [e, it]) (fun b ob hb q => (sb.2 b (fun z => hb (by simp [z]))).trans
        (hk b ob (fun z => hb (by simp [z])) (fun z => hb (by simp [z])) q)) hf (Nat.le_refl _) new
    refine ⟨.ref s.heap.objs.size, _, I1, rfl, ⟨_, x, rfl, I.hok.fresh (Nat.le_refl _), rfl, fun ys hy => by rw [I.tuple_inj hy hq]; exact hx⟩,
      ⟨⟨y, ?_⟩, hst.1.at fun o q => (sb.2 it (Ne.symm hne)).trans q, hne⟩, fun b hb => ?_⟩
    · have e1 : ((i + 1 : Nat) : Int) = (i : Int) + 1 := by omega
      rw [e1]
      exact he'
    · have hb' : b < s.heap.objs.size := by
        have z : b = e ∨ b = it := by simpa using hb
        rcases z with z | z <;> subst z <;> assumption
      rw [upd_ne (Nat.ne_of_lt hb')]
      exact (hf b hb).1
  done := by
    intro X hP hw hK hc i pins s σ H E I hf st hg
    subst hP hw hK
    obtain ⟨⟨old, he⟩, hit, hne⟩ := st
    obtain ⟨xs, hq, hx⟩ := hg
    obtain ⟨its, rv, p, hz⟩ := I.tuple hq
    obtain ⟨f0, f1, f2, f3, f4, f5⟩ := hf it (by simp)
    have hn : its.toArray.size = i := by
      rw [List.size_toArray, ← rv.length]
      exact hx
    rw [← hn] at hit
    have hh : X.A.in1.handled = none := I.ok.hd hc
    exact wpAny_pyNext_enum_endD (Draws.tuple hh it a hai its.toArray) he ⟨hit, p⟩
      fun h' eb => ⟨rfl, I.turned (t' := s.toks) (fun b o hb q => eb b o hb q) f0 f1 f3 f4 f5⟩
  self := fun A i s Q E st h => by
    obtain ⟨⟨_, he⟩, _⟩ := st
    exact wpAny_pyIter_enum he h
def iEnumT (K : PySem.W.Frag) (ta : TA) : TI := fun σ H R => ta σ H fun vs H1 => ∃ a xs, vs = [.ref a] ∧ SqT K H1 a xs ∧ R (IteT K a) H1
theorem pi_enumT {X : Cx} {e : Expr} {ta : TA} {p pos tpos : Pos} {elts : List Expr} {kk : Nat} (hg : Gl X "enumerate") (hm : X.mg "enumerate" = none)
    (ha : PA X [e] ta) (hs : starEach [e] X.env = [(false, eval e X.env)] := by rfl) :
    PI X (.Tuple elts kk tpos) (.Call (.Name "enumerate" p) [e] [] pos) (iEnumT X.K ta) := by
  refine ⟨fun pins s σ H R I h => ?_⟩
  refine Call_ (ld_blt I hg hm boot_enumerate (callWith_type1 (thn (ha.run pos pins s σ H _ I h) fun us s1 ⟨vs, H1, I1, r1, q1⟩ => ?_) hs rfl))
  obtain ⟨a, xs, ex, hq, q⟩ := q1
  subst ex
  obtain ⟨u, rfl, r⟩ := vals1 r1
  cases r
  obtain ⟨its, rv, p', hz⟩ := I1.tuple hq
  have hal : a < s1.heap.objs.size := p'.lt
  refine call_enum_tup p' fun h' he hit hk => wpAny_pyIter_enum he ?_
  have I2 : Inv X pins σ H1 { s1 with heap := h' } := I1.kept (t' := s1.toks) hk
  refine ⟨s1.heap.objs.size + 1, [s1.heap.objs.size + 1, s1.heap.objs.size], _, _, H1, rfl, I2,
    turn_enumT a (s1.heap.objs.size + 1) s1.heap.objs.size (Nat.ne_of_lt hal) (Nat.ne_of_lt (Nat.lt_succ_of_lt hal)),
    ⟨⟨.none, he⟩, hit, Nat.succ_ne_self _⟩, fun b hb => ?_, q⟩
  have hle : s1.heap.objs.size ≤ b := by
    have z : b = s1.heap.objs.size + 1 ∨ b = s1.heap.objs.size := by simpa using hb
    rcases z with z | z
    · rw [z]
      exact Nat.le_succ _
    · rw [z]
      exact Nat.le_refl _
  exact I1.fpOk hle (I1.hok.fresh hle)
theorem walk_enumT {K : PySem.W.Frag} {a : Addr} {xs : List V} :
    Walk (IteT K a) xs.length (fun H => SqT K H a xs) (YPair (fun i => some (.int (i : Nat))) (fun i => xs[i]?)) := by
  refine ⟨fun i _ hi q => ⟨xs, xs[i], q, by simp [hi]⟩, fun _ q => ⟨xs, q, rfl⟩, fun i H v H' _ q y => ?_⟩
  obtain ⟨T, x, h1, h2, h3, h4⟩ := y
  exact ⟨T, .int (i : Nat), x, h1, h2, h3, rfl, h4 xs q⟩
end MB
end
section
set_option maxRecDepth 100000
set_option maxHeartbeats 4000000
namespace MB
open PySem PySem.Spec PyProof.Rows L2
structure FnG (P : Program) (w : World) (K : PySem.W.Frag) (mg : Str → Option Value)
    (base : Heap) (k : Nat) (f : Addr) (fd : FuncData) (ps : List Str) (sp : Sp) : Prop where
  many : ∀ xs H Q E, sp xs H Q E → xs.length = ps.length
  goes : ∀ (A : Around) (outer : List Env) (s : Shared) (H : Hp) (args : Args)
    (us : List Value) (xs : List V) (Q : VK) (E : XK), Room k A → A.guards = some [] →
    Env0 P w K mg base A outer s H → BindsTo s fd args (ps.zip us) → Vals xs us →
    sp xs H Q E → codeAny (model P w) A (.call (.ref f) args) (CR CX0 outer P w H s Q E) s
section
variable {P : Program} {w : World} {K : PySem.W.Frag} {mg : Str → Option Value} {base : Heap}
variable {k : Nat} {f : Addr} {fd : FuncData} {ps : List Str} {sp : Sp}
theorem FnG.ofOk (F : FnOk P w K mg base CX0 k f fd ps sp) : FnG P w K mg base k f fd ps sp :=
  ⟨F.len, fun A outer s H args us xs Q E hr _ => F.run A outer s H args us xs Q E hr⟩
theorem fnG {x qual : Str} {st : Stmt} {N : List Str} (F : Fun K x qual st f fd)
    (S : FnScope N ps (defScope st)) (many : ∀ xs H Q E, sp xs H Q E → xs.length = ps.length)
    (body : ∀ (cdv : Value) (A : Around) (outer : List Env) (s : Shared) (H : Hp) (xs : List V)
      (Q : VK) (E : XK),
      Room k (A.deeper (envOfC qual (defScope st) s.heap.objs.size f cdv)) → A.guards = some [] →
      sp xs H Q E → ∃ t, PSs (cxOf CX0 P w K mg base N qual (defScope st) f cdv A outer s H E).nox (defBody st) t ∧
        t { nx := fun _ H' => Q .non H', rt := Q } (start N xs) H) :
    FnG P w K mg base (k + 1) f fd ps sp := by
  obtain ⟨oc, od, kV, doc, pm, an, cdv, ct, osl, efd, lk, hcd⟩ := F.ex
  refine ⟨many, fun A outer s H args us xs Q E hr hgu e0 hb r hsp => ?_⟩
  subst efd
  have hlen := many _ _ _ _ hsp
  have KX : K.In s.heap := e0.mod.kin.keeps fun b o e => (e0.bs b o e).1
  have lim : s.heap.NoLimit := e0.mod.nolimit.keeps fun b o e => (e0.bs b o e).1
  have kinds : ∀ y ∈ ps.zip us, (defScope st).names.lookup y.1 = some .local ∨
      ((defScope st).names.lookup y.1 = some .cell ∧
        ((cellsFrom (s.heap.objs.size + 1) (defScope st).names []).lookup y.1).isSome = true) := by
    rintro ⟨n, v⟩ hy
    rcases S.par n (List.of_mem_zip hy).1 with q | q
    · exact Or.inl q
    · exact Or.inr ⟨q, PySem.W.cellsFrom_some _ _ _ (Or.inl q)⟩
  refine codeAny_call_function hr.depth (KX _ _ lk) rfl S.co S.gen rfl
    (PySem.W.codeRec_of KX hcd) (hb _ _ _ _ ?_)
  refine wpAny_newFunctionEnv_cells S.kind kinds fun env he s1 x => ?_
  subst he
  refine ⟨lim.keeps x.toInCall.keep, codeAny_func ?_⟩
  obtain ⟨t, ht, hq⟩ := body cdv A outer s H xs Q E (hr.deeper _) hgu hsp
  have I : Inv (cxOf CX0 P w K mg base N qual (defScope st) f cdv A outer s H E) [] (start N xs) H s1 :=
    inv_start S hr.hd e0 hlen r x
  refine wpAny_mono (ht.nox.run [] s1 (start N xs) H _ I hq) (fun fl s' hs => ?_) fun e s' hs => hs
  cases fl with
  | ret u =>
    obtain ⟨v, σ', H', J, rv, q⟩ := hs
    exact ⟨v, H', J.os, J.bare, J.base, J.hok, rv, q⟩
  | next =>
    obtain ⟨σ', H', J, q⟩ := hs
    exact ⟨V.non, H', J.os, J.bare, J.base, J.hok, rfl, q⟩
  | brk =>
    obtain ⟨_, _, _, q⟩ := hs
    exact False.elim q
  | cont =>
    obtain ⟨_, _, _, q⟩ := hs
    exact False.elim q
end
section
variable {X : Cx} {k : Nat} {f : Addr} {fd : FuncData} {ps ks : List Str} {sp : Sp}
variable {x : Str} {p pos : Pos} {e : Expr} {es : List Expr} {t : TA}
theorem runG {pins : List (Addr × Obj)} {σ : L2.St} {H : Hp} {s : Shared} {Q : VK} {us as : List Value}
    {xs : List V} {kw : List (Str × Value)} (F : FnG X.prog X.w X.K X.mg X.base k f fd ps sp) (hr : Room k X.A) (hgu : X.A.guards = some [])
    (hb : BindsTo s fd ⟨us, kw⟩ (ps.zip as)) (I : Inv X pins σ H s) (r : Vals xs as) (h : sp xs H Q E0) :
    wpAny (model X.prog X.w) X.A (call (.ref f) us kw) (EP X pins σ Q) X.xe s := by
  refine wpAny_call (codeAny_mono (F.goes X.A X.stack s H ⟨us, kw⟩ as xs Q E0 hr hgu I.env0 hb r h)
    fun q s' hq => ?_)
  cases q with
  | error e => exact hq.elim
  | ok fl =>
    cases fl with
    | ret u => exact I.after hq
    | next => exact False.elim hq
    | brk => exact False.elim hq
    | cont => exact False.elim hq
theorem pe_callG (F : FnG X.prog X.w X.K X.mg X.base k f fd ps sp) (hr : Room k X.A) (hgu : X.A.guards = some [])
    (hg : Gl X x) (hm : X.mg x = some (.ref f)) (hk : PySem.W.keepIn X.K (.ref f) = true) (hb : Binds X.K fd ps [])
    (ha : PA X (e :: es) t) (hdb : (x == ("__debug__" : Str)) = false := by decide)
    (he : starEach (e :: es) X.env = (false, eval e X.env) :: starEach es X.env := by rfl)
    (hpl : (backTo pos (starEach es X.env)).any (·.1) = false := by rfl) :
    PE X (.Call (.Name x p) (e :: es) [] pos) (tCall sp [] E0 t) := by
  refine ⟨fun pins s σ H Q I h => ?_⟩
  refine wpAny_Call_Name_kw (ld_glob I hg hm ?_ hdb)
  refine PySem.W.callWith_K (h₀ := X.base) I.ok.mod.kin hk
    (thn (ha.run pos pins s σ H _ I h) fun us s1 ⟨xs, H1, I1, r, q⟩ => ⟨I1.kIn, ?_⟩) he hpl
  have q' : sp (xs ++ []) H1 Q E0 := q
  rw [List.append_nil] at q'
  have hl : (us ++ ([] : List Value)).length = ps.length := by
    rw [List.append_nil, ← r.length]
    exact F.many _ _ _ _ q'
  have bb := hb s1 us I1.kIn hl
  rw [List.append_nil] at bb
  exact runG F hr hgu bb I1 r q'
end
theorem lawG_at {P : Program} {w : World} {K : PySem.W.Frag} {mg mb : Str → Option Value} {k : Nat} {fa a : Addr}
    {fd : FuncData} {x : Str} {sp : Sp} {s₁ : Shared} {us : List Value} {ns : List Int} {H : Hp}
    (KX : K.In s₁.heap) (hns : s₁.heap.Ns mainGlobals mg) (hb : s₁.heap.Ns builtinsNs mb)
    (hbb : ∀ x : Str, x ≠ "__name__" → mb x = bootBuiltins x) (hlim : s₁.heap.NoLimit) (hg : s₁.gens = #[])
    (ha : s₁.heap.get? a = some { cls := .type "list", data := .seq us.toArray }) (hr : Room k callerA)
    (F : ∀ base : Heap, K.In base → base.Ns mainGlobals mg → FnG P w K mg base k fa fd [x] sp)
    (hbind : ∀ (s : Shared) (u : Value), BindsTo s fd ⟨[u], []⟩ [(x, u)])
    (hsp : sp [.ref a] H (fun v _ => v = .bl true) E0) (hO : Only H) (hok : HOk P w H s₁.heap)
    (hA : ∀ b, H b ≠ none → b = a) (hK : H a ≠ none → K.lookup a = none) :
    codeAny (model P w) callerA (.call (.ref fa) ⟨[.ref a], []⟩)
      (fun r s' => r = .ok (.ret (.bool true)) ∧ OldK s₁.heap s'.heap ∧ s'.os = s₁.os ∧ AllBare s'.gens) s₁ := by
  have noA : ∀ {b : Addr} {o : Obj} {es : Array DictEntry} {ep : Nat},
      s₁.heap.get? b = some o → o.data = .dict es ep → H b = none := by
    intro b o es ep e d
    cases q : H b with
    | none => rfl
    | some u =>
      obtain rfl : b = a := hA b (by simp [q])
      rw [ha] at e
      cases e
      exact absurd d (by intro z; cases z)
  have nsK : ∀ {b : Addr} {m : Str → Option Value}, s₁.heap.Ns b m → (hidT s₁.heap H).Ns b m :=
    fun {b m} ⟨o, es, ep, e, d, r⟩ => ⟨o, es, ep, hidT_get e (noA e d), d, r⟩
  have hKb : K.In (hidT s₁.heap H) := by
    intro b o e
    refine hidT_get (KX b o e) ?_
    cases q : H b with
    | none => rfl
    | some u =>
      obtain rfl : b = a := hA b (by simp [q])
      rw [hK (by simp [q])] at e
      cases e
  have hM : Mod K mg (hidT s₁.heap H) :=
    ⟨hKb, nsK hns, ⟨mb, nsK hb, hbb⟩, let ⟨mc, h1, h2⟩ := hlim; ⟨mc, nsK h1, h2⟩⟩
  have e0 : Env0 P w K mg (hidT s₁.heap H) callerA [] s₁ H :=
    ⟨rfl, hM, fun b o e => of_hidT e, Nat.le_of_eq (hidT_size _ _), trivial,
      fun b hb => absurd (show b ∈ ([] : List Addr) from hb) (by simp), hok, .of_eq hg⟩
  refine codeAny_mono ((F _ hKb (nsK hns)).goes callerA [] s₁ H ⟨[.ref a], []⟩ [.ref a] [.ref a] _ _ hr rfl e0
    (hbind s₁ (.ref a)) (.cons rfl .nil) hsp) fun r s' h => ?_
  cases r with
  | error e => exact h.elim
  | ok fl =>
    cases fl with
    | next => exact False.elim h
    | brk => exact False.elim h
    | cont => exact False.elim h
    | ret u =>
      obtain ⟨v, H', os, bare, un, hok', r', q⟩ := h
      have q' : v = .bl true := q
      subst q'
      obtain rfl : u = Value.bool true := r'
      refine ⟨rfl, OldK.of_keep fun b o e => ?_, os, bare⟩
      cases q : H b with
      | none => exact un.keep b o e q (fun z => absurd (show b ∈ ([] : List Addr) from z) (by simp)) (by simp)
      | some u =>
        rcases hO b with z | ⟨ob, xs, z⟩
        · rw [q] at z
          cases z
        · obtain ⟨e1, _⟩ := hok b _ z
          obtain ⟨e2, _⟩ := hok' b _ (un.frzs b ob _ z)
          rw [e] at e1
          cases e1
          exact e2
theorem lawG_call {P : Program} {w : World} {K : PySem.W.Frag} {mg mb : Str → Option Value} {k : Nat} {fa a : Addr}
    {fd : FuncData} {x : Str} {sp : Sp} {s₁ : Shared} {us : List Value} {ns : List Int}
    (KX : K.In s₁.heap) (hns : s₁.heap.Ns mainGlobals mg) (hb : s₁.heap.Ns builtinsNs mb)
    (hbb : ∀ x : Str, x ≠ "__name__" → mb x = bootBuiltins x) (hlim : s₁.heap.NoLimit) (hg : s₁.gens = #[])
    (ha : s₁.heap.get? a = some { cls := .type "list", data := .seq us.toArray }) (hi : IntsAre us ns)
    (hl : ns.length ≤ sizeLine) (hr : Room k callerA)
    (F : ∀ base : Heap, K.In base → base.Ns mainGlobals mg → FnG P w K mg base k fa fd [x] sp)
    (hbind : ∀ (s : Shared) (u : Value), BindsTo s fd ⟨[u], []⟩ [(x, u)])
    (hsp : ∀ H : Hp, Only H → SqL K H a (ns.map V.int) → sp [.ref a] H (fun v _ => v = .bl true) E0) :
    codeAny (model P w) callerA (.call (.ref fa) ⟨[.ref a], []⟩)
      (fun r s' => r = .ok (.ret (.bool true)) ∧ OldK s₁.heap s'.heap ∧ s'.os = s₁.os ∧ AllBare s'.gens) s₁ := by
  have rv := vals_ints hi
  have len1 := hi.length
  cases hk : K.lookup a with
  | some o =>
    have e := KX a o hk
    rw [ha] at e
    cases e
    have hS : SqL K (fun _ => none) a (ns.map V.int) :=
      Or.inr ⟨_, us.toArray, _, hk, rfl, rfl, rfl, by rw [List.size_toArray, len1]; exact hl, by simpa using rv⟩
    exact lawG_at (H := fun _ => none) (ns := ns) KX hns hb hbb hlim hg ha hr F hbind
      (hsp _ (fun _ => Or.inl rfl) hS) (fun _ => Or.inl rfl)
      (fun b u z => by cases (show (none : Option HO) = some u from z)) (fun b z => absurd rfl z) fun z => absurd rfl z
  | none =>
    let ob : Obj := { cls := .type "list", data := .seq us.toArray }
    let H0 : Hp := fun b => if b = a then some (.frz ob (.lst (ns.map V.int))) else none
    have at0 : H0 a = some (.frz ob (.lst (ns.map V.int))) := if_pos rfl
    have off : ∀ b, b ≠ a → H0 b = none := fun b hb => if_neg hb
    have hO : Only H0 := fun b => by
      by_cases hb : b = a
      · subst hb
        exact Or.inr ⟨_, _, at0⟩
      · exact Or.inl (off b hb)
    have hok : HOk P w H0 s₁.heap := fun b u z => by
      by_cases hb : b = a
      · subst hb
        rw [at0] at z
        cases z
        exact ⟨ha, by rw [List.length_map]; exact hl, us, _, rv, ha⟩
      · rw [off b hb] at z
        cases z
    refine lawG_at (H := H0) (ns := ns) KX hns hb hbb hlim hg ha hr F hbind
      (hsp H0 hO (Or.inl (Or.inr ⟨_, at0⟩))) hO hok (fun b z => ?_) fun _ => hk
    by_cases hb : b = a
    · exact hb
    · exact absurd (off b hb) z
theorem walkG {l : PySem.W.OpenLaw} {n k : Nat} {q : Program} {loose : List Str}
    {XP : (Str → Option Value) → Heap → Prop} {YP : World → Heap → Prop} {d : DefRec}
    {K : Params → PySem.W.Frag} {sp : PySem.W.Frag → Sp} {x : Str} (hn : l.most = some n) (hn2 : n ≤ sizeLine)
    (hdf : d.params.defaults = []) (hr : Room k callerA) (hY : ∀ (w : World) (h : Heap), YP w h → (K w.params).In h)
    (F : ∀ (w : World) (mg : Str → Option Value) (fa : Addr) (h : Heap), (K w.params).In h → h.Ns mainGlobals mg →
      mg d.name = some (.ref fa) → ∃ fd : FuncData, (∀ (s : Shared) (u : Value), BindsTo s fd ⟨[u], []⟩ [(x, u)]) ∧
        ∀ base : Heap, (K w.params).In base → base.Ns mainGlobals mg →
          FnG l.prog w (K w.params) mg base k fa fd [x] (sp (K w.params)))
    (hsp : ∀ (K : PySem.W.Frag) (H : Hp) (a : Addr) (ns : List Int), ns.length ≤ n → Only H →
      SqL K H a (ns.map V.int) → sp K [.ref a] H (fun v _ => v = .bl true) E0) :
    PySem.W.WalkO q loose XP YP l.row.toRowW d [] (fun f vs => PySem.call f vs) := by
  refine Att.attach_call hn hdf fun w s₀ s₁ mg mb fa o pm cd doc a vs ns G Y ho hd hcd hmg hobj hints hlen hg => ?_
  have KX := hY w _ Y
  obtain ⟨fd, hb, hF⟩ := F w mg fa _ KX G.T.g hmg
  exact lawG_call KX G.T.g G.T.b G.T.builtins G.T.nolimit hg hobj hints (Nat.le_trans hlen hn2) hr hF hb
    fun H hO hS => hsp _ H a ns hlen hO hS
end MB
end
section
set_option maxRecDepth 100000
set_option maxHeartbeats 4000000
namespace MB
open PySem PySem.Spec PyProof.Rows L2
section
variable {α : Type}
def one1 : List α → List α → List α
  | [], [a] => [a]
  | _, _ => []
def two2 : List α → List α → List α
  | [], [a, b] => [a, b]
  | _, _ => []
def two2s : List α → List α → List α
  | [], [a, b] => [b, a]
  | _, _ => []
end
theorem kb1 {K : PySem.W.Frag} {fd : FuncData} {p : Str} (h : ∀ a : Value, bindArgs fd ⟨[], [(p, a)]⟩ = pure [(p, a)]) :
    KBinds K fd [p] [p] one1 one1 where
  to := fun s us ws _ hl => by
    match us, ws, hl with
    | [], [a], _ => exact .of_eq (h a)
  rel := fun {vs us zs ws} r rz => by
    cases r with
    | nil =>
      cases rz with
      | nil => exact .nil
      | cons r1 r2 =>
        cases r2 with
        | nil => exact .cons r1 .nil
        | cons _ _ => exact .nil
    | cons _ _ => exact .nil
theorem kb2 {K : PySem.W.Frag} {fd : FuncData} {p q : Str} (h : ∀ a b : Value, bindArgs fd ⟨[], [(p, a), (q, b)]⟩ = pure [(p, a), (q, b)]) :
    KBinds K fd [p, q] [p, q] two2 two2 where
  to := fun s us ws _ hl => by
    match us, ws, hl with
    | [], [a, b], _ => exact .of_eq (h a b)
  rel := fun {vs us zs ws} r rz => by
    cases r with
    | nil =>
      cases rz with
      | nil => exact .nil
      | cons r1 r2 =>
        cases r2 with
        | nil => exact .nil
        | cons r2 r3 =>
          cases r3 with
          | nil => exact .cons r1 (.cons r2 .nil)
          | cons _ _ => exact .nil
    | cons _ _ => exact .nil
theorem kb2s {K : PySem.W.Frag} {fd : FuncData} {p q : Str} (h : ∀ a b : Value, bindArgs fd ⟨[], [(q, b), (p, a)]⟩ = pure [(p, a), (q, b)]) :
    KBinds K fd [p, q] [q, p] two2s two2s where
  to := fun s us ws _ hl => by
    match us, ws, hl with
    | [], [a, b], _ => exact .of_eq (h b a)
  rel := fun {vs us zs ws} r rz => by
    cases r with
    | nil =>
      cases rz with
      | nil => exact .nil
      | cons r1 r2 =>
        cases r2 with
        | nil => exact .nil
        | cons r2 r3 =>
          cases r3 with
          | nil => exact .cons r2 (.cons r1 .nil)
          | cons _ _ => exact .nil
    | cons _ _ => exact .nil
section
variable {X : Cx} {k : Nat} {f : Addr} {fd : FuncData} {ps ks : List Str} {sp : Sp} {x : Str} {p pos : Pos} {kws : List Keyword} {tk : TA}
variable {g : List Value → List Value → List Value} {gV : List V → List V → List V}
theorem pe_callK0 (F : FnOk X.prog X.w X.K X.mg X.base CX0 k f fd ps sp) (hr : Room k X.A) (hg : Gl X x) (hm : X.mg x = some (.ref f))
    (hk : PySem.W.keepIn X.K (.ref f) = true) (hb : KBinds X.K fd ps ks g gV) (hkw : PK X kws tk)
    (hall : (backToKw pos (keywordEach kws X.env)).all (·.1.isSome) = true := by rfl)
    (hks : (backToKw pos (keywordEach kws X.env)).filterMap (·.1) = ks := by rfl)
    (hdb : (x == ("__debug__" : Str)) = false := by decide)
    (hpl : ((backTo pos (starEach [] X.env)).any (·.1) || (backToKw pos (keywordEach kws X.env)).any (·.1.isNone)) = false := by rfl) :
    PE X (.Call (.Name x p) [] kws pos) (fun σ H Q => tk σ H fun zs H1 => sp (gV [] zs) H1 Q E0) := by
  refine ⟨fun pins s σ H Q I h => ?_⟩
  refine wpAny_Call_Name_kw (ld_glob I hg hm ?_ hdb)
  refine PySem.W.callWith_KW0 (h₀ := X.base) I.ok.mod.kin hk hall (thn (hkw.run pos pins s σ H _ I h) fun ws s1 ⟨zs, H1, I1, rz, q1⟩ => ⟨I1.kIn, ?_⟩) hpl
  rw [hks]
  exact run_fnk F hr hb pass0 I1 .nil rz q1
end
end MB
end
section
set_option maxRecDepth 100000
set_option maxHeartbeats 4000000
namespace MB
namespace Er
open PySem PySem.W PySem.Calls PyProof.Rows PySem.HandSPX
abbrev above (B0 : Addr) : List Value := .ref B0 :: PySem.ESX.exTail
def eA (f : Str) (p1 p2 : Pos) : Arguments :=
  { posonlyargs := [], args := [{ arg := "self", annotation := none, pos := p1 }, { arg := f, annotation := none, pos := p2 }], vararg := none,
    kwonlyargs := [], kw_defaults := [], kwarg := none, defaults := [] }
def eB (f msg : Str) (q1 q2 q3 q4 q5 q6 q7 q8 q9 q10 : Pos) : List Stmt :=
  [.Expr (.Call (.Attribute (.Call (.Name "super" q1) [] [] q2) "__init__" q3) [.Constant (.str msg) 0 q4] [] q5) q6,
   .Assign [.Attribute (.Name "self" q7) f q8] (.Name f q9) q10]
def eS (f : Str) : Scope :=
  { kind := .function, names := [(PySem.Str.ofString "self", .local), (f, .local), (PySem.Str.ofString "__class__", .free), (PySem.Str.ofString "super", .globalImplicit)],
    isGenerator := false, isCoroutine := false, more := [] }
structure NameOk (f : Str) : Prop where
  self : (f == ("self" : Str)) = false
  cls : (("__class__" : Str) == f) = false
  sup : (("super" : Str) == f) = false
  dbg : (f == ("__debug__" : Str)) = false
structure Txt (P : Program) (K : Frag) (mg : Str → Option Value) (B0 C fI : Addr) (x f : Str) : Prop where
  gC : mg x = some (.ref C)
  cls : ∃ nm q N bs sn sub ab col dd k0 k1 k2 k3 k5, K.lookup C = some (excClassObj nm q C N bs (above B0) true sn sub ab col dd k0 k1 k2 k3 k5 "Exception.__new__")
  sa : findIn K (.ref C) "__setattr__" = some (some (.builtin "object.__setattr__"))
  al : alongIn K "__init__" (above B0) = some (some (.builtin "Exception.__init__"))
  ga : findIn K (.ref C) "__getattribute__" = some (some (.builtin "BaseException.__getattribute__"))
  gg : findIn K (.ref C) "__getattr__" = some none
  noF : findIn K (.ref C) f = some none
  ov : excOver K C PySem.ESX.exTail = true
  iC : findIn K (.ref C) "__init__" = some (some (.ref fI))
  tC : typeIn K (.ref fI) = some (.type "function")
  kC : keepIn K (.ref C) = true
  exC : subIn K (.ref C) (.type "BaseException") = some true
  exE : subIn K (.ref C) (.type "Exception") = some true
  suC : mroIn K C (.ref C) = some true
  tyC : typeIn K (.ref C) = some (.type "type")
  hdC : hasDictIn K C = true
  te : exmOne K (.ref C) (.ref C) = some true
  op : nsIn K cStatics "thirdparty.any" = some none
  su : mg "super" = none
  top : (P.main.scope.names.lookup ("super" : Str)).isSome = false
  fok : NameOk f
  fn : ∃ (qual msg : Str) (oc : Value) (od : Option Addr) (doc pm : Value) (an : Option Addr) (cda : Addr) (ct : Value) (cc : Addr) (osl : Array (Option Value))
      (p1 p2 q1 q2 q3 q4 q5 q6 q7 q8 q9 q10 : Pos),
    K.lookup fI = some ⟨oc, od, .func (ksFn "__init__" qual (eA f p1 p2) (eB f msg q1 q2 q3 q4 q5 q6 q7 q8 q9 q10) (eS f) .none .none doc pm an (.ref cda) ct cc), osl⟩ ∧
    codeIn K (.ref cda) qual = true ∧ (q3.endLine == q5.line) = true ∧
    (∀ (s : Shared) (a b : Value), BindsTo s (ksFn "__init__" qual (eA f p1 p2) (eB f msg q1 q2 q3 q4 q5 q6 q7 q8 q9 q10) (eS f) .none .none doc pm an (.ref cda) ct cc) ⟨[a, b], []⟩ [("self", a), (f, b)]) ∧
    (∃ (ccl : Value) (cdd : Option Addr) (vs : Array Value) (ccs : Array (Option Value)) (file : Str) (tf : Tok),
      K.lookup cda = some ⟨ccl, cdd, .fields vs, ccs⟩ ∧ vs[2]? = some (.str file tf) ∧ ((P.main.file : Str) == file) = true) ∧
    (∃ (cl : Value) (cld : Option Addr) (csl : Array (Option Value)), K.lookup cc = some ⟨cl, cld, .cell (some (.ref C)), csl⟩)
structure InitEnd (h h' : Heap) (x C dx t1 : Addr) (f : Str) (v : Value) : Prop where
  keep : ∀ b o, b ≠ x → h.get? b = some o → h'.get? b = some o
  obj : h'.get? x = some { cls := .ref C, dict := some dx, data := .fields #[.ref t1, .none, .none, .none, .bool false, .none] }
  dbig : h.objs.size ≤ dx
  dne : dx ≠ x
  ns : h'.Ns1 dx (fun y => if y = f then some v else none)
structure OwnMade (h h' : Heap) (e C d : Addr) (f : Str) (v : Value) : Prop where
  keep : ∀ b o, h.get? b = some o → h'.get? b = some o
  new : h.objs.size ≤ e
  obj : ∃ oe vs, h'.get? e = some oe ∧ oe.cls = .ref C ∧ oe.dict = some d ∧ oe.data = .fields vs ∧ vs[1]? = some .none
  dbig : h.objs.size ≤ d
  dne : d ≠ e
  ns : h'.Ns1 d (fun y => if y = f then some v else none)
theorem one_size (v : Value) : [v].length ≤ sizeLine := by
  rw [sizeLine_eq]
  exact (by decide : 1 ≤ 16777216)
theorem above_contains (B0 : Addr) (X : String) : (above B0).contains (.type X) = PySem.ESX.exTail.contains (.type X) := by
  show ((Value.type X == Value.ref B0) || PySem.ESX.exTail.contains (.type X)) = _
  rw [show (Value.type X == Value.ref B0) = false from rfl, Bool.false_or]
section
open Builtin Builtin.ObjectAttr
variable {prog : Program} {w : World} {A : Around} {R : Result → Shared → Prop} {hp : Heap} {gs : Array GenState} {dr : Drawn} {tk : Nat} {os : OsState}
variable {K : Frag} {name : Str} {tn : Tok} {v : Value} {a C u : Addr}
theorem keeps_first (X : K.In hp) (ha : hp.get? a = some (excO C u)) (ov : excOver K C PySem.ESX.exTail = true) (hd : hasDictIn K C = true)
    (no : findIn K (.ref C) name = some none)
    (goal : ∀ (heap : Heap) (toks : Nat) (t : Addr), (∀ b o, b ≠ a → hp.get? b = some o → heap.get? b = some o) → hp.objs.size ≤ t → t ≠ a →
      heap.get? a = some { cls := .ref C, dict := some t, data := .fields #[.ref u, .none, .none, .none, .bool false, .none] } → heap.Ns1 t (fun y => if y = name then some v else none) →
      R (.ok (.ret .none)) ⟨heap, gs, dr, toks, os⟩) :
    codeAny (model prog w) A (.call (.builtin "object.__setattr__") ⟨[.ref a, .str name tn, v], []⟩) R ⟨hp, gs, dr, tk, os⟩ := by
  have tno : takerIn K C name = some none := by
    unfold takerIn
    rw [no]
    rfl
  have far : a ≠ hp.objs.size := Nat.ne_of_lt (Heap.lt_size ha)
  refine osa_openX (od := none) F.store_Exception X ⟨ha, rfl, rfl, trivial⟩ ov tno fun b => ?_
  obtain ⟨cd, hc, hd'⟩ := any_some hd
  refine wpAny_bind (wpAny_pure (wpAny_bind (instanceDict_exc (c2 := .none) (t := u) ha (looks_clsIn X hc) hd' ?_)))
  show wpAny _ _ (storeInDict hp.objs.size (.str name tn) name v) _ _ _
  have hin : ∀ b o, hp.get? b = some o → (hp.push (dictOf [] 0)).get? b = some o := fun b o e => Heap.get?_push_of_some _ e
  refine store_in_new ⟨_, #[], _, (Heap.get?_update_ne _ _ _ _ far.symm).trans (Heap.get?_push_at rfl rfl), rfl, fun e he => absurd he (by simp), fun _ => rfl⟩ fun h' tk' hn' same => ?_
  refine goal h' tk' hp.objs.size (fun b o hb ho => ?_) (Nat.le_refl _) far.symm ?_ hn'
  · rw [same.2 b (Nat.ne_of_lt (Heap.lt_size ho)), Heap.get?_update_ne _ _ _ _ hb]
    exact hin b o ho
  · rw [same.2 a far]
    exact Heap.get?_update_self _ (hin _ _ ha) rfl
end
section
variable {prog : Program} {w : World} {A : Around} {E : Value → Shared → Prop} {R : Result → Shared → Prop} {K : Frag} {mg : Str → Option Value} {B0 C fI : Addr} {x f : Str}
theorem cls_in (T : Txt prog K mg B0 C fI x f) : ∃ cd, clsIn K C = some cd ∧ cd.mro = .ref C :: above B0 ∧ cd.hasDict = true := by
  obtain ⟨nm, q, N, bs, sn, sub, ab, col, dd, k0, k1, k2, k3, k5, hC⟩ := T.cls
  refine ⟨{ name := nm, bases := bs, mro := .ref C :: above B0, ns := N, qualname := q, hasDict := true, slotNames := sn, subclasses := sub, abstract := ab, collection := col, hasDel := false }, ?_, rfl, rfl⟩
  unfold clsIn
  rw [hC] <;> rfl
theorem init (T : Txt prog K mg B0 C fI x f) {s : Shared} {a t0 : Addr} {v : Value} (X : K.In s.heap) (G : s.heap.Ns mainGlobals mg)
    (Bt : ∃ mb, s.heap.Ns builtinsNs mb ∧ ∀ x : Str, x ≠ "__name__" → mb x = bootBuiltins x) (hlim : s.heap.NoLimit)
    (hx : s.heap.get? a = some (excO C t0)) (hnk : K.lookup a = none) (hroom : A.depth < recursionLimit)
    (hq : ∀ h' tk dx t1, InitEnd s.heap h' a C dx t1 f v → R (.ok (.ret .none)) { s with heap := h', toks := tk }) :
    codeAny (model prog w) A (.call (.ref fI) ⟨[.ref a, v], []⟩) R s := by
  obtain ⟨qual, msg, oc, od, doc, pm, an, cda, ct, cc, osl, p1, p2, q1, q2, q3, q4, q5, q6, q7, q8, q9, q10, ho, hcd, hline, hbind, ⟨ccl, cdd, vs, ccs, file, tf, hcode, hvs, hfile⟩, ⟨cl, cld, csl, hcell⟩⟩ := T.fn
  obtain ⟨nm, q, N, bs, sn, sub, ab, col, dd, k0, k1, k2, k3, k5, hC⟩ := T.cls
  obtain ⟨cd, hcl, hmro, hhd⟩ := cls_in T
  have nself : (eS f).names.lookup ("self" : Str) = some .local := rfl
  have nf : (eS f).names.lookup f = some .local := by
    show List.lookup f [(PySem.Str.ofString "self", NameKind.local), (f, .local), (PySem.Str.ofString "__class__", .free), (PySem.Str.ofString "super", .globalImplicit)] = _
    rw [List.lookup_cons, T.fok.self, List.lookup_cons, beq_self_eq_true]
  have nc : (eS f).names.lookup ("__class__" : Str) = some .free := by
    show List.lookup ("__class__" : Str) [(PySem.Str.ofString "self", NameKind.local), (f, .local), (PySem.Str.ofString "__class__", .free), (PySem.Str.ofString "super", .globalImplicit)] = _
    rw [List.lookup_cons, show (("__class__" : Str) == PySem.Str.ofString "self") = false from by decide, List.lookup_cons, T.fok.cls]
    rfl
  have ns : (eS f).names.lookup ("super" : Str) = some .globalImplicit := by
    show List.lookup ("super" : Str) [(PySem.Str.ofString "self", NameKind.local), (f, .local), (PySem.Str.ofString "__class__", .free), (PySem.Str.ofString "super", .globalImplicit)] = _
    rw [List.lookup_cons, show (("super" : Str) == PySem.Str.ofString "self") = false from by decide, List.lookup_cons, T.fok.sup]
    rfl
  obtain ⟨hp, gs, dr, tk, os⟩ := s
  refine ks_codeAny_call_defAt (fd := ksFn "__init__" qual (eA f p1 p2) (eB f msg q1 q2 q3 q4 q5 q6 q7 q8 q9 q10) (eS f) .none .none doc pm an (.ref cda) ct cc)
    (body := eB f msg q1 q2 q3 q4 q5 q6 q7 q8 q9 q10) (binds := [("self", .ref a), (f, v)]) hroom (X _ _ ho) rfl hlim (codeRec_of X hcd) rfl (hbind _ _ _) ?_ ?_ (fun h₁ hns hk₁ => ?_) rfl rfl rfl
  · intro y hy
    have hy' : y ∈ [(PySem.Str.ofString "self", NameKind.local), (f, .local), (PySem.Str.ofString "__class__", .free), (PySem.Str.ofString "super", .globalImplicit)] := hy
    simp only [List.mem_cons, List.not_mem_nil, or_false] at hy'
    rcases hy' with rfl | rfl | rfl | rfl <;> simp
  · intro y hy
    simp only [List.mem_cons, List.not_mem_nil, or_false] at hy
    rcases hy with rfl | rfl
    · exact nself
    · exact nf
  · have hx₁ := hk₁ _ _ hx
    have X₁ : K.In h₁ := X.keeps hk₁
    obtain ⟨mb, hB, hbb⟩ := Bt
    have hD1 : h₁.get? C = _ := hk₁ _ _ (X _ _ hC)
    have hxC : a ≠ C := fun z => by
      rw [z, hC] at hnk
      cases hnk
    have hin : ∀ h' : Heap, (∀ b o, h₁.get? b = some o → h'.get? b = some o) → Looks (model prog w) h' (isInstance (.ref a) (.type "Exception")) true := fun h' k =>
      (show InstAt h' a (excO C t0) C none from ⟨k _ _ hx₁, rfl, rfl, trivial⟩).type.andThen (looks_subIn (X₁.keeps k) T.exE)
    refine ks_wpAt_execs_cons (ks_wpAt_Expr_any ?_ rfl rfl)
    generalize hE : callEnv (ksFn "__init__" qual (eA f p1 p2) (eB f msg q1 q2 q3 q4 q5 q6 q7 q8 q9 q10) (eS f) .none .none doc pm an (.ref cda) ct cc) (⟨hp, gs, dr, tk, os⟩ : Shared).heap.objs.size fI = env
    have ek : env.scope.kind = .function := by rw [← hE]; rfl
    have es : env.kindOf "super" = some .globalImplicit := by rw [← hE]; exact ns
    have ec : env.kindOf "__class__" = some .free := by rw [← hE]; exact nc
    have e0 : env.kindOf "self" = some .local := by rw [← hE]; exact nself
    have ef : env.kindOf f = some .local := by rw [← hE]; exact nf
    have efu : env.func = some fI := by rw [← hE]; rfl
    have eco : env.code = .ref cda := by rw [← hE]; rfl
    have eg : env.globals = mainGlobals := by rw [← hE]; rfl
    have eb : env.builtins = builtinsNs := by rw [← hE]; rfl
    have el : env.locals = hp.objs.size := by rw [← hE]; rfl
    have ecl : env.cells.lookup ("__class__" : Str) = some cc := by rw [← hE]; rfl
    refine ks_wpAt_MethodCall (pl := (do return (← importBound (.Call (.Name "super" q1) [] [] q2) env).getD true)) ?_ ?he
    case he =>
      rw [arm_eval_Call]
      have hform : methodCallForm ([Expr.Constant (Const.str msg) 0 q4].length + ([] : List Keyword).length) (backTo q5 (starEach [Expr.Constant (Const.str msg) 0 q4] env)) (backToKw q5 (keywordEach [] env)) = true := rfl
      have hpos : methodCallPos true (.Call (.Name "super" q1) [] [] q2) env q3 q5 = pure q5 := by unfold methodCallPos; simp [hline]
      unfold methodCall
      rw [hform]
      simp only [hpos, pure_bind, calleeOf, if_true]
      rfl
    refine ks_wpAt_super_base (f := fI) (cc := cda) es ec (by decide) efu (hk₁ _ _ (X _ _ ho)) rfl rfl eco (hk₁ _ _ (X _ _ hcode)) rfl hvs hfile T.top ?_
    refine ks_loadName_global ek es (loadGlobal_builtin (by rw [eg]; exact G.keeps hk₁) T.su (by rw [eb]; exact hB.keeps hk₁) ((hbb _ (by decide)).trans Boot.«super») ⟨rfl, ?_⟩)
    refine wpAny_loadName_free ek ec ecl ⟨_, hk₁ _ _ (X _ _ hcell), rfl⟩ ?_
    have b0 : List.lookup ("self" : Str) [(("self" : Str), Value.ref a), (f, v)].reverse = some (.ref a) := by
      show List.lookup ("self" : Str) [(f, v), (("self" : Str), Value.ref a)] = _
      rw [List.lookup_cons, show (("self" : Str) == f) = false from by rw [BEq.comm]; exact T.fok.self]
      rfl
    have b1 : List.lookup f [(("self" : Str), Value.ref a), (f, v)].reverse = some v := by
      show List.lookup f [(f, v), (("self" : Str), Value.ref a)] = _
      rw [List.lookup_cons, beq_self_eq_true]
    refine wpAny_loadName_local ek e0 (by rw [el]; exact hns) b0 ?_
    refine ks_wpAny_isType_cls hD1 rfl ⟨rfl, ?_⟩
    refine ks_wpAny_call_super hD1 rfl hx₁ rfl (fun c e => by cases e) (looks_mroIn X₁ T.suC) (fun h₂ e₂ k₂ => ?_)
    have X₂ : K.In h₂ := X₁.keeps k₂
    refine PySem.ESX.getMethod_super e₂ (looks_opaque X₂ T.op) (l₀ := cd.mro) ((looks_clsIn X₂ hcl).andThen .now) (by rw [hmro, PySem.ESX.drop_own]) X₂ T.al hxC (by decide) (hin _ k₂) ?_
    have k₃ : ∀ b o, h₁.get? b = some o → (h₂.push (PySem.ESX.bw a)).get? b = some o := fun b o e => Heap.get?_push_of_some _ (k₂ _ _ e)
    show wpAny _ _ (callWith q5 (.ref h₂.objs.size) [] (backTo q5 (starEach [Expr.Constant (Const.str msg) 0 q4] env)) []) _ _ _
    refine PySem.ESX.callWith_bound (x := a) (spliced_cons (Constant_str (k := 0) (pos := q4) (spliced_nil ⟨Heap.get?_push_at rfl rfl, ?_⟩)))
    refine PySem.ESX.call_bw (k₃ _ _ hD1) (k₃ _ _ hx₁) (Heap.get?_push_at rfl rfl) (one_size _) (fun h₄ t1 k₄ e₄ => ?_)
    have k₅ : ∀ b o, b ≠ a → h₁.get? b = some o → h₄.get? b = some o := fun b o hb e => k₄ b o hb (k₃ b o e)
    have X₄ : K.In h₄ := fun b o e => k₅ b o (fun z => by rw [z, hnk] at e; cases e) (X₁ b o e)
    have hxL : hp.objs.size ≠ a := Nat.ne_of_gt (Heap.lt_size hx)
    have hns₄ : h₄.Ns hp.objs.size (fun y => List.lookup y [(("self" : Str), Value.ref a), (f, v)].reverse) := by
      obtain ⟨oL, es', ep, z1, z2, z3⟩ := hns
      exact ⟨oL, es', ep, k₅ _ _ hxL z1, z2, z3⟩
    refine wpAt_of_wpAny ?_
    show wpAny _ _ (execs [.Assign [.Attribute (.Name "self" q7) f q8] (.Name f q9) q10] env) _ _ _
    refine wpAny_execs_cons (plainObj_wpAny_Assign_Attribute ?_)
    refine wpAny_Name (wpAny_loadName_local ek ef (by rw [el]; exact hns₄) b1 ?_) T.fok.dbg
    refine wpAny_Name (wpAny_loadName_local ek e0 (by rw [el]; exact hns₄) b0 ?_) (by decide)
    refine set_plain X₄ (ox := excO C t1) (od := none) ⟨e₄, rfl, rfl, trivial⟩ T.sa ?_
    refine keeps_first X₄ e₄ T.ov T.hdC T.noF (fun h₆ tk₆ dx k₆ dn dne hx₆ hn₆ => ?_)
    show wpAny _ _ (execs [] env) _ _ _
    have z : hp.objs.size ≤ h₄.objs.size := by
      obtain ⟨oL, es', ep, z1, z2, z3⟩ := hns₄
      exact Nat.le_of_lt (Heap.lt_size z1)
    exact wpAny_execs_nil (hq h₆ _ dx t1 ⟨fun b o hb e => k₆ b o hb (k₅ b o hb (hk₁ b o e)), hx₆, Nat.le_trans z dn, dne, hn₆⟩)
theorem made (T : Txt prog K mg B0 C fI x f) {s : Shared} {v : Value} (X : K.In s.heap) (G : s.heap.Ns mainGlobals mg)
    (Bt : ∃ mb, s.heap.Ns builtinsNs mb ∧ ∀ x : Str, x ≠ "__name__" → mb x = bootBuiltins x) (hlim : s.heap.NoLimit) (hroom : A.depth + 1 < recursionLimit)
    (hq : ∀ h' tk e d, OwnMade s.heap h' e C d f v → R (.ok (.ret (.ref e))) { s with heap := h', toks := tk }) :
    codeAny (model prog w) A (.call (.ref C) ⟨[v], []⟩) R s := by
  obtain ⟨nm, q, N, bs, sn, sub, ab, col, dd, k0, k1, k2, k3, k5, hC⟩ := T.cls
  obtain ⟨mb, hB, hbb⟩ := Bt
  obtain ⟨hp, g, dr, tk, os⟩ := s
  have k : ∀ b o, hp.get? b = some o → ((hp.push (kdv_tup [v])).push (excO C hp.objs.size)).get? b = some o := fun b o e => Heap.get?_push_of_some _ (Heap.get?_push_of_some _ e)
  have hget : ((hp.push (kdv_tup [v])).push (excO C hp.objs.size)).get? (hp.objs.size + 1) = some (excO C hp.objs.size) := by heap_get
  have hnx : K.lookup (hp.objs.size + 1) = none := by
    cases e : K.lookup (hp.objs.size + 1) with
    | none => rfl
    | some o =>
      have z : hp.get? (hp.objs.size + 1) = some o := X _ _ e
      exact absurd (Nat.lt_of_succ_lt (Heap.lt_size z)) (Nat.lt_irrefl _)
  refine call_own F.excBase_Exception (fun Y => above_contains B0 Y) (X _ _ hC) (looks_findIn X T.iC) (fun self => bind_fn X self T.tC) (one_size v) ?_
  refine init (s := ⟨(hp.push (kdv_tup [v])).push (excO C hp.objs.size), g, dr, tk, os⟩) T (X.keeps k) (G.keeps k) ⟨mb, hB.keeps k, hbb⟩ (hlim.keeps k) hget hnx ?_ fun h' tk' dx t1 ⟨k', hx, dn, dne, hns⟩ => ?_
  · show A.depth + 1 < recursionLimit
    exact hroom
  · have old : ∀ b o, hp.get? b = some o → h'.get? b = some o := fun b o e => k' b o (Nat.ne_of_lt (Nat.lt_succ_of_lt (Heap.lt_size e))) (k b o e)
    have z : hp.objs.size + 1 + 1 ≤ dx := by
      first
        | (simpa only [Heap.size_push] using dn)
        | exact dn
        | (have q := dn; rw [Heap.size_push, Heap.size_push] at q; exact q)
    exact ⟨rfl, hq h' tk' (hp.objs.size + 1) dx ⟨old, Nat.le_succ _, ⟨_, _, hx, rfl, rfl, rfl, rfl⟩, Nat.le_trans (Nat.le_trans (Nat.le_succ _) (Nat.le_succ _)) z, dne, hns⟩⟩
end
theorem meets_self {K : PySem.W.Frag} {S : Addr} (h1 : PySem.W.subIn K (.ref S) (.type "BaseException") = some true) (h2 : PySem.W.isClsIn K S = true)
    (h3 : PySem.W.typeIn K (.ref S) = some (.type "type")) (h4 : PySem.W.subIn K (.ref S) (.ref S) = some true) : PySem.W.exmOne K (.ref S) (.ref S) = some true := by
  have e1 : (PySem.W.subIn K (.ref S) (.type "BaseException") == some true) = true := by rw [h1] <;> rfl
  have e2 : ((PySem.W.clsIn K S).isSome && PySem.W.typeIn K (.ref S) == some (.type "type")) = true := by
    have h2' : (PySem.W.clsIn K S).isSome = true := h2
    rw [h2', h3] <;> rfl
  show (if (PySem.W.subIn K (.ref S) (.type "BaseException") == some true) = true then (if ((PySem.W.clsIn K S).isSome && PySem.W.typeIn K (.ref S) == some (.type "type")) = true then PySem.W.subIn K (.ref S) (.ref S) else none) else none) = some true
  rw [if_pos e1, if_pos e2]
  exact h4
theorem of {P : Program} {K : Frag} {h : Heap} {mg : Str → Option Value} {B0 C fI : Addr} {x f : Str} (X : K.In h) (G : h.Ns mainGlobals mg)
    {nm q : Str} {N : Addr} {bs : List Value} {sn : List Str} {sub : List Value} {ab : Bool} {col : Option Bool} {dd : Option Addr} {m0 m1 m2 m3 m5 : Option Value}
    {nm' q' : Str} {N' : Addr} {bs' : List Value} {sn' : List Str} {sub' : List Value} {ab' : Bool} {col' : Option Bool} {dd' : Option Addr} {n0 n1 n2 n3 n5 : Option Value}
    {qual msg : Str} {oc : Value} {od : Option Addr} {doc pm : Value} {an : Option Addr} {cda : Addr} {ct : Value} {cc : Addr} {osl : Array (Option Value)}
    {p1 p2 q1 q2 q3 q4 q5 q6 q7 q8 q9 q10 : Pos} {ccl : Value} {cdd : Option Addr} {vs : Array Value} {ccs : Array (Option Value)} {file : Str} {tf : Tok} {cl : Value} {cld : Option Addr} {csl : Array (Option Value)}
    (aC : nsIn K mainGlobals x = some (some (.ref C)))
    (lB : K.lookup B0 = some (excClassObj nm' q' B0 N' bs' PySem.ESX.exTail true sn' sub' ab' col' dd' n0 n1 n2 n3 n5 "Exception.__new__"))
    (fB : findIn K (.ref B0) "__init__" = some (some (.builtin "Exception.__init__")))
    (lC : K.lookup C = some (excClassObj nm q C N bs (above B0) true sn sub ab col dd m0 m1 m2 m3 m5 "Exception.__new__"))
    (sa : findIn K (.ref C) "__setattr__" = some (some (.builtin "object.__setattr__")))
    (ga : findIn K (.ref C) "__getattribute__" = some (some (.builtin "BaseException.__getattribute__")))
    (gg : findIn K (.ref C) "__getattr__" = some none) (noF : findIn K (.ref C) f = some none)
    (iC : findIn K (.ref C) "__init__" = some (some (.ref fI))) (tC : typeIn K (.ref fI) = some (.type "function"))
    (kC : keepIn K (.ref C) = true) (exC : subIn K (.ref C) (.type "BaseException") = some true) (exE : subIn K (.ref C) (.type "Exception") = some true)
    (suC : mroIn K C (.ref C) = some true) (ssC : subIn K (.ref C) (.ref C) = some true) (isC : isClsIn K C = true)
    (tyC : typeIn K (.ref C) = some (.type "type")) (hdC : hasDictIn K C = true)
    (op : nsIn K cStatics "thirdparty.any" = some none) (su : nsIn K mainGlobals "super" = some none)
    (lI : K.lookup fI = some ⟨oc, od, .func (ksFn "__init__" qual (eA f p1 p2) (eB f msg q1 q2 q3 q4 q5 q6 q7 q8 q9 q10) (eS f) .none .none doc pm an (.ref cda) ct cc), osl⟩)
    (cI : codeIn K (.ref cda) qual = true) (lc : K.lookup cda = some ⟨ccl, cdd, .fields vs, ccs⟩) (lcc : K.lookup cc = some ⟨cl, cld, .cell (some (.ref C)), csl⟩)
    (top : (P.main.scope.names.lookup ("super" : Str)).isSome = false) (line : (q3.endLine == q5.line) = true) (fl : vs[2]? = some (.str file tf)) (fi : ((P.main.file : Str) == file) = true)
    (fok : NameOk f)
    (bi : ∀ (s : Shared) (a b : Value), BindsTo s (ksFn "__init__" qual (eA f p1 p2) (eB f msg q1 q2 q3 q4 q5 q6 q7 q8 q9 q10) (eS f) .none .none doc pm an (.ref cda) ct cc) ⟨[a, b], []⟩ [("self", a), (f, b)]) :
    Txt P K mg B0 C fI x f where
  gC := mg_of X G aC
  cls := ⟨_, _, _, _, _, _, _, _, _, _, _, _, _, _, lC⟩
  sa := sa
  al := by
    have e := fB
    unfold findIn at e
    dsimp only at e
    rw [lB] at e
    exact e
  ga := ga
  gg := gg
  noF := noF
  ov := by
    unfold excOver clsIn
    rw [lC]
    show ((C == C) && (PySem.ESX.exTail == PySem.ESX.exTail)) = true
    rw [beq_self_eq_true, beq_self_eq_true]
    rfl
  iC := iC
  tC := tC
  kC := kC
  exC := exC
  exE := exE
  suC := suC
  tyC := tyC
  hdC := hdC
  te := meets_self exC isC tyC ssC
  op := op
  su := mg_none_of X G su
  top := top
  fok := fok
  fn := ⟨_, _, _, _, _, _, _, _, _, _, _, _, _, _, _, _, _, _, _, _, _, _, _, lI, cI, line, bi, ⟨_, _, _, _, _, _, lc, fl, fi⟩, ⟨_, _, _, lcc⟩⟩
end Er
open PySem PySem.Spec PyProof.Rows L2
theorem relO_one {f : Str} {v : V} {v' : Value} (r : RelV v v') (y : Str) : RelO (List.lookup y [(f, v)]) (if y = f then some v' else none) := by
  by_cases hw : y = f
  · subst hw
    rw [if_pos rfl]
    have q : List.lookup y [(y, v)] = some v := by simp [List.lookup]
    rw [q]
    exact r
  · rw [if_neg hw]
    have qw : (y == f) = false := by simpa using hw
    have q2 : List.lookup y [(f, v)] = none := by simp [List.lookup, qw]
    rw [q2]
    trivial
section
variable {X : Cx} {B0 C fI : Addr} {x f : Str}
def tMkErr (C : Addr) (f : Str) (ta : TA) : L2.St → Hp → XK → Prop := fun σ H Q => ta σ H fun vs H1 => ∃ v, vs = [v] ∧ ∀ d, H1 d = none → Q (.ref C) (some d) (upd H1 d (.xd [(f, v)]))
theorem pmk_err {a : Expr} {ta : TA} {p pos : Pos} {k : Nat} (T : Er.Txt X.prog X.K X.mg B0 C fI x f) (hr : Room k X.A) (ha : PA X [a] ta) (hg : Gl X x) (hdb : (x == ("__debug__" : Str)) = false := by decide)
    (he : starEach (a :: []) X.env = (false, eval a X.env) :: starEach [] X.env := by rfl) (hpl : (backTo pos (starEach [] X.env)).any (·.1) = false := by rfl) :
    PMk X (.Call (.Name x p) [a] [] pos) (tMkErr C f ta) := by
  intro pins s σ H Q I h
  refine wpAny_Call_Name_kw (ld_glob I hg T.gC ?_ hdb)
  refine PySem.W.callWith_K (h₀ := X.base) I.ok.mod.kin T.kC (thn (ha.run pos pins s σ H _ I h) fun us s1 hh => ?_) he hpl
  obtain ⟨vs, H1, I1, r1, v, ev, q1⟩ := hh
  subst ev
  refine ⟨I1.kIn, ?_⟩
  cases r1 with
  | cons rv rn =>
    rename_i v' us'
    cases rn
    show wpAny _ _ (call (.ref C) [v']) _ _ _
    have hlim := I1.nolimit
    have hG := I1.mod.glob.keeps I1.bk
    have hBt : ∃ mb, s1.heap.Ns builtinsNs mb ∧ ∀ x : Str, x ≠ "__name__" → mb x = bootBuiltins x := by
      obtain ⟨mb, z1, z2⟩ := I1.mod.blt
      exact ⟨mb, z1.keeps I1.bk, z2⟩
    obtain ⟨hp, g, dr, tk, os⟩ := s1
    refine wpAny_call (Er.made T I1.kIn hG hBt hlim (by have := hr.dp; omega) fun h' tk' e d M => ?_)
    show MkP X pins σ Q (.ref e) ⟨h', g, dr, tk', os⟩
    obtain ⟨oe, fv, hoe, hc, hd, hdat, h1⟩ := M.obj
    have hns := M.ns
    obtain ⟨G', g1, g2⟩ := restrict h' fun b => decide (b ≠ e)
    have gk : ∀ b, b ≠ e → G'.get? b = h'.get? b := fun b hb => g1 b (decide_eq_true hb)
    have ge : G'.get? e = none := g2 e (by simp)
    have old : ∀ b o, hp.get? b = some o → G'.get? b = some o := fun b o q => (gk b (Nat.ne_of_lt (Nat.lt_of_lt_of_le (Heap.lt_size q) M.new))).trans (M.keep b o q)
    have ob : ObjOk X.prog X.w (upd H1 d (.xd [(f, v)])) G' d (.xd [(f, v)]) :=
      ⟨_, hns.at (fun o q => (gk d M.dne).trans q), fun y => relO_one rv y⟩
    have J : Inv X pins σ (upd H1 d (.xd [(f, v)])) ⟨G', g, dr, tk', os⟩ := I1.laid (t' := tk') old M.dbig ob
    refine ⟨e, oe, fv, ⟨G', g, dr, tk', os⟩, _, .ref C, some d, rfl, J, fun b o q => ?_, ge, hoe, ⟨hc, hd⟩, hdat, h1, ?_, rfl, I1.bare, raises_own T.exC T.tyC, q1 d (I1.hok.fresh M.dbig)⟩
    · by_cases hb : b = e
      · have q' : G'.get? b = some o := q
        rw [hb, ge] at q'; cases q'
      · exact (gk b hb).symm.trans q
    · rw [upd_ne (Ne.symm M.dne)]
      exact I1.hok.fresh M.new
def tRaiseErr (C : Addr) (f : Str) (W : WX) (ta : TA) : TS := fun _ σ H => tMkErr C f ta σ H fun cls d H' => W cls d σ H'
theorem ps_raiseErr {a : Expr} {ta : TA} {W : WX} {p pos pos2 : Pos} {k : Nat} (hc : X.calm = true) (T : Er.Txt X.prog X.K X.mg B0 C fI x f) (hr : Room k X.A) (tk : Takes X W) (ha : PA X [a] ta) (hg : Gl X x) (hdb : (x == ("__debug__" : Str)) = false := by decide)
    (he : starEach (a :: []) X.env = (false, eval a X.env) :: starEach [] X.env := by rfl) (hpl : (backTo pos (starEach [] X.env)).any (·.1) = false := by rfl) :
    PS X (.Raise (some (.Call (.Name x p) [a] [] pos)) none pos2) (tRaiseErr C f W ta) := ps_raise hc tk (pmk_err T hr ha hg hdb he hpl)
section
variable {CX : CXT} {k : Nat} {g : Addr} {fd : FuncData} {ps ks : List Str} {sp : Sp} {E : L2.St → XK} {nm : Str} {p pos : Pos} {kws : List Keyword} {tk : TA}
variable {gu : List Value → List Value → List Value} {gV : List V → List V → List V}
def tCallK0S (sp : Sp) (gV : List V → List V → List V) (E : L2.St → XK) (tk : TA) : TE := fun σ H Q => tk σ H fun zs H1 => sp (gV [] zs) H1 Q (E σ)
theorem pe_callK0S (F : FnOk X.prog X.w X.K X.mg X.base CX k g fd ps sp) (hr : Room k X.A) (hg : Gl X nm) (hm : X.mg nm = some (.ref g))
    (hk : PySem.W.keepIn X.K (.ref g) = true) (hb : KBinds X.K fd ps ks gu gV) (hx : ∀ σ, PassesAt CX X σ (E σ)) (hkw : PK X kws tk)
    (hall : (backToKw pos (keywordEach kws X.env)).all (·.1.isSome) = true := by rfl)
    (hks : (backToKw pos (keywordEach kws X.env)).filterMap (·.1) = ks := by rfl)
    (hdb : (nm == ("__debug__" : Str)) = false := by decide)
    (hpl : ((backTo pos (starEach [] X.env)).any (·.1) || (backToKw pos (keywordEach kws X.env)).any (·.1.isNone)) = false := by rfl) :
    PE X (.Call (.Name nm p) [] kws pos) (tCallK0S sp gV E tk) := by
  refine ⟨fun pins s σ H Q I h => ?_⟩
  refine wpAny_Call_Name_kw (ld_glob I hg hm ?_ hdb)
  refine PySem.W.callWith_KW0 (h₀ := X.base) I.ok.mod.kin hk hall (thn (hkw.run pos pins s σ H _ I h) fun ws s1 ⟨zs, H1, I1, rz, q1⟩ => ⟨I1.kIn, ?_⟩) hpl
  rw [hks]
  have r2 := hb.rel (vs := []) (us := []) .nil rz
  have hl : (gu [] ws).length = ps.length := by rw [← r2.length]; exact F.len _ _ _ _ q1
  refine wpAny_call (codeAny_mono (F.run X.A X.stack s1 H1 ⟨[], ks.zip ws⟩ (gu [] ws) (gV [] zs) Q (E σ) hr I1.env0 (hb.to s1 [] ws I1.kIn hl) r2 q1) fun r s' hq => ?_)
  cases r with
  | error e => exact hx σ pins H1 s1 e s' I1 hq
  | ok fl =>
    cases fl with
    | ret u => exact I1.after hq
    | next | brk | cont => exact False.elim hq
end
theorem Er.Txt.xf {P : Program} {K : PySem.W.Frag} {mg : Str → Option Value} (T : Er.Txt P K mg B0 C fI x f) : XfC K C := ⟨T.ga, T.gg, T.exC, T.hdC⟩
end
end MB
end
section
set_option maxRecDepth 100000
namespace MB
open PySem PySem.Spec PyProof.Rows L2
structure Clause where
  cls : Value
  slot : Option Nat
  ts : Addr → Value → Option Addr → TS
def offAt (i : Nat) (D : Ends) : Ends :=
  { nx := fun σ H => D.nx (σ.set i none) H, rt := D.rt, bk := fun σ H => D.bk (σ.set i none) H, ct := fun σ H => D.ct (σ.set i none) H }
def Clause.goes (c : Clause) (D : Ends) (a : Addr) (cls : Value) (d : Option Addr) (σ : L2.St) (H : Hp) : Prop :=
  match c.slot with
  | none => c.ts a cls d D σ H
  | some i => c.ts a cls d (offAt i D) (σ.set i (some (.ref a))) H
def wMix (K : PySem.W.Frag) (Wout : WX) (D : Ends) : List Clause → WX
  | [] => Wout
  | c :: r => fun cls d σ H => ∃ hit, PySem.W.exmOne K cls c.cls = some hit ∧
      (hit = true → ∀ a, H a = none → c.goes D a cls d σ H) ∧ (hit = false → wMix K Wout D r cls d σ H)
inductive Clauses (X : Cx) : List ExceptHandler → List Clause → Prop
  | nil : Clauses X [] []
  | bare {x : Str} {c : Value} {ts : Addr → Value → Option Addr → TS} {b₀ : Stmt} {suite : List Stmt} {np hp : Pos} {hds : List ExceptHandler} {l : List Clause}
      (nm : Names X x c) (su : ∀ (a : Addr) (oe : Obj) (cls : Value) (d : Option Addr) (pn : List (Addr × Obj)), Zc cls d oe → (∃ vs, oe.data = .fields vs) →
        PSs (X.suite a ((a, oe) :: pn)) (b₀ :: suite) (ts a cls d)) (more : Clauses X hds l) :
      Clauses X (.ExceptHandler (some (.Name x np)) none (b₀ :: suite) hp :: hds) (⟨c, none, ts⟩ :: l)
  | named {x n : Str} {c : Value} {i : Nat} {ts : Addr → Value → Option Addr → TS} {b₀ : Stmt} {suite : List Stmt} {np hp : Pos} {hds : List ExceptHandler} {l : List Clause}
      (nm : Names X x c) (at_ : X.N[i]? = some n) (loc : X.env.kindOf n = some .local)
      (su : ∀ (a : Addr) (oe : Obj) (cls : Value) (d : Option Addr) (pn : List (Addr × Obj)), Zc cls d oe → (∃ vs, oe.data = .fields vs) →
        PSs (X.suite a ((a, oe) :: pn)) (b₀ :: suite) (ts a cls d)) (more : Clauses X hds l) :
      Clauses X (.ExceptHandler (some (.Name x np)) (some n) (b₀ :: suite) hp :: hds) (⟨c, some i, ts⟩ :: l)
structure Met (X : Cx) (pins : List (Addr × Obj)) (σ : L2.St) (H : Hp) (B : Heap) (a : Addr) (cls : Value) (d : Option Addr) (sI : Shared) (s : Shared) : Prop where
  inv : Inv X pins σ H sI
  gr : ∀ b o, sI.heap.get? b = some o → b ∉ frs X.stack → B.get? b = some o
  fly : HandSPX.FlyingZ B (X.env :: X.outer) a (Zc cls d) s.heap
  up : sI.heap.UpToSlots s.heap
  un : H a = none
  os : s.os = sI.os
  ba : AllBare s.gens
section
variable {X : Cx} {pins : List (Addr × Obj)} {σ : L2.St} {H : Hp} {B : Heap} {a : Addr} {cls : Value} {d : Option Addr} {sI s : Shared}
theorem Met.here (m : Met X pins σ H B a cls d sI s) : Inv X pins σ H s := m.inv.landed m.gr m.fly.1 m.up m.os m.ba
theorem Met.inSuite (m : Met X pins σ H B a cls d sI s) (hf : X.env.frame = some X.env.locals) :
    ∃ oe vs, s.heap.get? a = some oe ∧ Zc cls d oe ∧ oe.data = .fields vs ∧ Inv (X.suite a ((a, oe) :: (X.pn ++ pins))) [] σ H s := by
  obtain ⟨oe, vs, e, z, dt⟩ := m.fly.there
  have out : a ∉ frs (X.env :: X.outer) := fun hm => by
    obtain ⟨_, o', e', no⟩ := m.fly.2.2.1.mem hm
    rw [e] at e'
    cases e'
    exact no _ dt
  refine ⟨oe, vs, e, z, dt, m.here.suite e dt m.un (fun q => out ?_) fun hm => out ?_⟩
  · exact List.mem_filterMap.mpr ⟨X.env, List.mem_cons_self, by rw [hf, q]⟩
  · obtain ⟨v, hv, q⟩ := List.mem_filterMap.mp hm
    exact List.mem_filterMap.mpr ⟨v, List.mem_cons_of_mem _ hv, q⟩
theorem Met.on {Wout : WX} {D : Ends} (m : Met X pins σ H B a cls d sI s) (hs : X.stack = X.env :: X.outer) (hf : X.env.frame = some X.env.locals) (tk : Takes X Wout) (w : Wout cls d σ H) :
    wpAny (model X.prog X.w) X.A (handleBy (.ref a) X.env []) (SP X pins D) X.xe s := by
  have fl := m.fly
  obtain ⟨_, _, _, oe, vs, T, _, _, e, _, dt, one, _⟩ := id fl
  refine wpAny_handleBy_nil ?_
  unfold PySem.passOn
  refine wpAny_bind (wpAny_field e dt one ?_)
  rw [if_neg (show ¬ ((Value.ref T == Value.none) = true) from by simp)]
  have away : wpAny (model X.prog X.w) X.A (setFlight (.ref a) X.env.frame) (fun _ s4 => wpAny (model X.prog X.w) X.A (throw (.ref a) : Sem Flow) (SP X pins D) X.xe s4) X.xe s := by
    rw [hf]
    refine HandSPX.setFlight_upZ fl fun h4 held up4 => wpAny_throw (tk _ _ ?_)
    exact ⟨a, B, sI, pins, σ, H, cls, d, rfl, m.inv, m.gr, m.up.trans up4, .inr (.inr (by rw [hs]; exact held)), m.un, m.os, m.ba, w⟩
  first
    | exact wpAny_bind (wpAny_pure (wpAny_bind away))
    | exact wpAny_bind away
theorem Met.clauses {Wout : WX} {D : Ends} (hs : X.stack = X.env :: X.outer) (hf : X.env.frame = some X.env.locals) (nd : X.N.Nodup) (tk : Takes X Wout)
    {hds : List ExceptHandler} {l : List Clause} (hc : Clauses X hds l) (m : Met X pins σ H B a cls d sI s) (w : wMix X.K Wout D l cls d σ H) :
    wpAny (model X.prog X.w) X.A (handleBy (.ref a) X.env hds) (SP X pins D) X.xe s := by
  have ok := m.inv.ok
  obtain ⟨oe, vs, e, z, dt, S⟩ := m.inSuite hf
  have typ : PySem.W.Looks (model X.prog X.w) s.heap (typeOf (.ref a)) cls := fun A Q E s' k q => wpAny_typeOf_ref (k _ _ e) (by rw [z.1]; exact q)
  have reads : ∀ {x : Str} {c : Value} {np : Pos} {Q : Value → Shared → Prop} {E : Value → Shared → Prop}, Names X x c → Q c s →
      wpAny (model X.prog X.w) (X.A.mark (some (.ref a))) (eval (.Name x np) X.env) Q E s := fun {x c np Q E} nm q => by
    obtain ⟨g, db, h | ⟨h, bv, nn⟩⟩ := nm
    · exact ld_glob (X := X.suite a ((a, oe) :: (X.pn ++ pins))) S g h q db
    · exact ld_blt (X := X.suite a ((a, oe) :: (X.pn ++ pins))) S g h bv q nn db
  induction hc with
  | nil => exact m.on hs hf tk w
  | @bare x c ts b₀ suite np hp hds2 l2 nm su more ih =>
    obtain ⟨hit, he, yes, no⟩ := w
    refine wpAny_handleBy_cons (codeAny_handlers_test ?_) (by intro q; cases q)
    refine reads nm ((PySem.W.exm_one (M := model X.prog X.w) m.here.kIn typ he).here ?_)
    cases hit with
    | false => exact ih (no rfl)
    | true =>
      refine codeAny_handlers_suite ?_
      refine HandSPX.lands_againZ m.fly fun h4 fl4 up4 => ?_
      have m4 : Met X pins σ H B a cls d sI { s with heap := h4 } := ⟨m.inv, m.gr, fl4, m.up.trans up4, m.un, m.os, m.ba⟩
      obtain ⟨oe4, vs4, e4, z4, dt4, S4⟩ := m4.inSuite hf
      refine wpAny_mono ((su a oe4 cls d (X.pn ++ pins) z4 ⟨_, dt4⟩).run [] _ _ H _ S4 (yes rfl a m.un)) (fun f s6 r => ?_) (fun _ _ z => False.elim z)
      cases f with
      | ret u =>
        obtain ⟨v6, σ6, H6, S6, r6, q6⟩ := r
        exact ⟨v6, σ6, H6, S6.unsuite ok, r6, q6⟩
      | next | brk | cont =>
        obtain ⟨σ6, H6, S6, q6⟩ := r
        exact ⟨σ6, H6, S6.unsuite ok, q6⟩
  | @named x n c i ts b₀ suite np hp hds2 l2 nm at_ loc su more ih =>
    obtain ⟨hit, he, yes, no⟩ := w
    refine wpAny_handleBy_cons (codeAny_handlers_test ?_) (by intro q; cases q)
    refine reads nm ((PySem.W.exm_one (M := model X.prog X.w) m.here.kIn typ he).here ?_)
    cases hit with
    | false => exact ih (no rfl)
    | true =>
      refine codeAny_handlers_suite_as ?_
      refine HandSPX.lands_againZ m.fly fun h4 fl4 up4 => ?_
      have m4 : Met X pins σ H B a cls d sI { s with heap := h4 } := ⟨m.inv, m.gr, fl4, m.up.trans up4, m.un, m.os, m.ba⟩
      obtain ⟨oe4, vs4, e4, z4, dt4, S4⟩ := m4.inSuite hf
      refine store_ok (X := X.suite a ((a, oe4) :: (X.pn ++ pins))) (v := .ref a) S4 nd at_ (.inl loc) rfl (fun s5 S5 => ?_) (.inr loc)
      refine wpAny_mono ((su a oe4 cls d (X.pn ++ pins) z4 ⟨_, dt4⟩).run [] s5 _ H _ S5 (yes rfl a m.un)) (fun f s6 r => ?_) (fun _ _ z => False.elim z)
      cases f with
      | ret u =>
        obtain ⟨v6, σ6, H6, S6, r6, q6⟩ := r
        exact gone_ok (S6.unsuite ok) nd at_ loc fun s7 J7 => ⟨v6, _, H6, J7, r6, q6⟩
      | next | brk | cont =>
        obtain ⟨σ6, H6, S6, q6⟩ := r
        exact gone_ok (S6.unsuite ok) nd at_ loc fun s7 J7 => ⟨_, H6, J7, q6⟩
end
section
variable {X : Cx} {body : List Stmt} {h₀ : ExceptHandler} {hds : List ExceptHandler} {l : List Clause} {pos : Pos} {tb : WX → TS} {Wout : WX}
theorem ps_tryMix (hs : X.stack = X.env :: X.outer) (hf : X.env.frame = some X.env.locals) (nd : X.N.Nodup) (tk : Takes X Wout)
    (hb : ∀ (W : WX) (pn : List (Addr × Obj)) (xe : Value → Shared → Prop), Takes (X.tr pn xe) W → PassesOwn (model X.prog X.w) X.A X.env xe → PSs (X.tr pn xe) body (tb W))
    (hc : Clauses X (h₀ :: hds) l) : PS X (.Try body (h₀ :: hds) [] [] pos) (fun D σ H => tb (wMix X.K Wout D l) D σ H) := by
  refine ⟨fun pins s σ H D I q => ?_⟩
  have ok := I.ok
  have hfr : X.A.frames = some (X.env :: X.outer) := by rw [ok.frames, hs]
  let out : Value → Shared → Prop := fun e s₁ => wpAny (model X.prog X.w) X.A (noteFrame e X.env) (fun _ s₂ => wpAny (model X.prog X.w) X.A (setFlight e none)
    (fun _ s₃ => wpAny (model X.prog X.w) X.A (handleBy e X.env (h₀ :: hds)) (SP X pins D) X.xe s₃) X.xe s₂) X.xe s₁
  have run := (hb (wMix X.K Wout D l) (X.pn ++ pins) out (fun u s' xx => by
    obtain ⟨a, B, sI, pins', σ', H', cls, d, rfl, J', gr, up, sky, un, os, ba, w⟩ := xx
    refine Sky.land Zc.steady hfr hf (by rw [← hs]; exact sky) fun h3 fl3 up3 => ?_
    exact Met.clauses hs hf nd tk hc (B := B) (sI := sI) ⟨J'.ofTry ok, gr, fl3, up.trans up3, un, os, ba⟩ w) PassesOwn.looking).run [] s σ H D (I.toTry _) q
  refine wpAny_Try_except (wpAny_mono run (fun f s1 r => ?_) (fun e s1 he => he))
  cases f with
  | next =>
    obtain ⟨σ', H', J', q'⟩ := r
    exact wpAny_execs_nil ⟨σ', H', J'.ofTry ok, q'⟩
  | brk | cont =>
    obtain ⟨σ', H', J', q'⟩ := r
    exact ⟨σ', H', J'.ofTry ok, q'⟩
  | ret u =>
    obtain ⟨v, σ', H', J', rv, q'⟩ := r
    exact ⟨v, σ', H', J'.ofTry ok, rv, q'⟩
end
end MB
end
section
set_option maxRecDepth 100000
namespace MB
open PySem PySem.Spec PyProof.Rows L2
section
variable {K : PySem.W.Frag} {H H' : Hp}
theorem TyX.same {v : V} {t : Value} (h : TyX K H v t) (e : Same H H') : TyX K H' v t := by
  cases h with
  | base b =>
    cases b with
    | non => exact .base .non
    | bl x => exact .base (.bl x)
    | int i => exact .base (.int i)
    | str x => exact .base (.str x)
    | flt x => exact .base (.flt x)
    | lst q => exact .base (.lst (e _ _ q))
    | frz q => exact .base (.frz (e _ _ q))
    | tup q => exact .base (.tup (e _ _ q))
    | dK q => exact .base (.dK (e _ _ q))
    | dT q => exact .base (.dT (e _ _ q))
    | ins q c1 c2 c3 c4 c5 => exact .base (.ins (e _ _ q) c1 c2 c3 c4 c5)
  | byt b => exact .byt b
  | set q => exact .set (e _ _ q)
  | kList q c => exact .kList q c
  | kTuple q c => exact .kTuple q c
  | kDict q c => exact .kDict q c
  | fTuple q => exact .fTuple (e _ _ q)
  | fDict q => exact .fDict (e _ _ q)
def TupQ (K : PySem.W.Frag) (H : Hp) (v : V) : Option (List V) → Prop
  | some xs => ∃ a, v = .ref a ∧ SqT K H a xs
  | none => ∃ t, TyX K H v t ∧ PySem.W.kitOne K t (.type "tuple") = some false
def IntQ (K : PySem.W.Frag) (H : Hp) (v : V) : Option Int → Prop
  | some i => v = .int i
  | none => (∃ b, v = .bl b) ∨ ∃ t, TyX K H v t ∧ PySem.W.kitOne K t (.type "int") = some false
theorem sqT_same {a : Addr} {xs : List V} (e : Same H H') (h : SqT K H a xs) : SqT K H' a xs := by
  rcases h with (q | ⟨o, q⟩) | q
  · exact .inl (.inl (e _ _ q))
  · exact .inl (.inr ⟨o, e _ _ q⟩)
  · exact .inr q
theorem TupQ.same {v : V} {o : Option (List V)} (h : TupQ K H v o) (e : Same H H') : TupQ K H' v o := by
  cases o with
  | some xs =>
    obtain ⟨a, h1, h2⟩ := h
    exact ⟨a, h1, sqT_same e h2⟩
  | none =>
    obtain ⟨t, h1, h2⟩ := h
    exact ⟨t, TyX.same h1 e, h2⟩
theorem IntQ.same {v : V} {o : Option Int} (h : IntQ K H v o) (e : Same H H') : IntQ K H' v o := by
  cases o with
  | some i => exact h
  | none =>
    rcases h with h | ⟨t, h1, h2⟩
    · exact .inl h
    · exact .inr ⟨t, TyX.same h1 e, h2⟩
theorem IntQ.seen {v : V} {o : Option Int} (h : IntQ K H v o) : (∃ i, o = some i ∧ v = .int i) ∨ o = none := by
  cases o with
  | some i => exact .inl ⟨i, rfl, h⟩
  | none => exact .inr rfl
end
end MB
end
section
set_option maxRecDepth 100000
namespace MB
open PySem PySem.Spec PyProof.Rows L2
def keyD : Key → PyData
  | .inl i => .int i
  | .inr x => .str x
mutual
inductive Dq (K : PySem.W.Frag) (H : Hp) : V → PyData → Prop
  | non : Dq K H .non .none
  | bl (b : Bool) : Dq K H (.bl b) (.bool b)
  | int (i : Int) : Dq K H (.int i) (.int i)
  | str (x : Str) : Dq K H (.str x) (.str x)
  | lst {a : Addr} {xs : List V} {ds : List PyData} : SqL K H a xs → DqAll K H xs ds → Dq K H (.ref a) (.list ds)
  | tup {a : Addr} {xs : List V} {ds : List PyData} : SqT K H a xs → DqAll K H xs ds → Dq K H (.ref a) (.tuple ds)
  | dic {a : Addr} {kvs : List (Key × V)} {ds : List (PyData × PyData)} : H a = some (.dK kvs) → DqKv K H kvs ds → Dq K H (.ref a) (.dict ds)
inductive DqAll (K : PySem.W.Frag) (H : Hp) : List V → List PyData → Prop
  | nil : DqAll K H [] []
  | cons {v : V} {vs : List V} {d : PyData} {ds : List PyData} : Dq K H v d → DqAll K H vs ds → DqAll K H (v :: vs) (d :: ds)
inductive DqKv (K : PySem.W.Frag) (H : Hp) : List (Key × V) → List (PyData × PyData) → Prop
  | nil : DqKv K H [] []
  | cons {k : Key} {v : V} {d : PyData} {kvs : List (Key × V)} {ds : List (PyData × PyData)} : Dq K H v d → DqKv K H kvs ds → DqKv K H ((k, v) :: kvs) ((keyD k, d) :: ds)
end
def SM (base : Heap) : Prop := ∃ mm, base.Ns sysModules mm
section
variable {K : PySem.W.Frag} {H H' : Hp}
theorem sqL_same {a : Addr} {xs : List V} (e : Same H H') (h : SqL K H a xs) : SqL K H' a xs := e.seq h
mutual
theorem Dq.same (e : Same H H') : ∀ (d : PyData) (v : V), Dq K H v d → Dq K H' v d
  | .none, _, h => by cases h; exact .non
  | .bool b, _, h => by cases h; exact .bl b
  | .int i, _, h => by cases h; exact .int i
  | .str x, _, h => by cases h; exact .str x
  | .list ds, _, h => by
    cases h with
    | lst h1 h2 => exact .lst (sqL_same e h1) (DqAll.same e ds _ h2)
  | .tuple ds, _, h => by
    cases h with
    | tup h1 h2 => exact .tup (sqT_same e h1) (DqAll.same e ds _ h2)
  | .dict ds, _, h => by
    cases h with
    | dic h1 h2 => exact .dic (e _ _ h1) (DqKv.same e ds _ h2)
theorem DqAll.same (e : Same H H') : ∀ (ds : List PyData) (vs : List V), DqAll K H vs ds → DqAll K H' vs ds
  | [], _, h => by cases h; exact .nil
  | d :: ds, _, h => by
    cases h with
    | cons h1 h2 => exact .cons (Dq.same e d _ h1) (DqAll.same e ds _ h2)
theorem DqKv.same (e : Same H H') : ∀ (ds : List (PyData × PyData)) (kvs : List (Key × V)), DqKv K H kvs ds → DqKv K H' kvs ds
  | [], _, h => by cases h; exact .nil
  | (_, d) :: ds, _, h => by
    cases h with
    | cons h1 h2 => exact .cons (Dq.same e d _ h1) (DqKv.same e ds _ h2)
end
end
section
variable {X : Cx} {pins : List (Addr × Obj)} {σ : L2.St} {H : Hp} {s : Shared}
theorem not_mods (I : L2.Inv X pins σ H s) (sm : SM X.base) {a : Addr} {o : Obj} {vs : Array Value} {n : Nat} (e : s.heap.get? a = some o) (c : o.data = .seq vs n) : sysModules ≠ a := fun z => by
  obtain ⟨mm, o', es, ep, h1, h2, _⟩ := sm
  have h3 := I.bk _ _ h1
  rw [z, e] at h3
  have h4 := Option.some.inj h3
  subst h4
  rw [c] at h2
  cases h2
mutual
theorem Dq.reads (I : L2.Inv X pins σ H s) (sm : SM X.base) : ∀ (d : PyData) (v : V) (u : Value), Dq X.K H v d → RelV v u → ∃ as, Reads s.heap u d as ∧ sysModules ∉ as
  | .none, _, _, h, r => by
    cases h
    cases r
    exact ⟨_, .none, by simp⟩
  | .bool b, _, _, h, r => by
    cases h
    cases r
    exact ⟨_, .bool b, by simp⟩
  | .int i, _, _, h, r => by
    cases h
    obtain ⟨t, rfl⟩ := r
    exact ⟨_, .int i t, by simp⟩
  | .str x, _, _, h, r => by
    cases h
    obtain ⟨t, rfl⟩ := r
    exact ⟨_, .str x t, by simp⟩
  | .list ds, _, _, h, r => by
    cases h with
    | lst hs ha =>
      cases r
      obtain ⟨its, rv, ⟨o, n, ho, hc, _, hd⟩, _⟩ := I.list hs
      obtain ⟨as, hr, no⟩ := DqAll.reads I sm ds _ its ha rv
      refine ⟨_, .list ho hc hd hr, fun z => ?_⟩
      rcases List.mem_cons.mp z with z | z
      · exact not_mods I sm ho hd z
      · exact no z
  | .tuple ds, _, _, h, r => by
    cases h with
    | tup hs ha =>
      cases r
      obtain ⟨its, rv, ⟨o, ho, hc, n, hd⟩, _⟩ := I.tuple hs
      obtain ⟨as, hr, no⟩ := DqAll.reads I sm ds _ its ha rv
      exact ⟨_, .tuple ho hc hd hr, no⟩
  | .dict ds, _, _, h, r => by
    cases h with
    | @dic a kvs _ he hk =>
      cases r
      obtain ⟨_, na, vs, rel, o, es, ep, ho, ex, hd, _, pr, _⟩ := dk_of I.hok he
      obtain ⟨as, bs, h1, h2, no1, no2⟩ := DqKv.reads I sm ds kvs vs es.toList hk rel pr
      refine ⟨_, .dict ho ex.1 hd h1 h2, fun z => ?_⟩
      rcases List.mem_append.mp z with z | z
      · rcases List.mem_cons.mp z with z | z
        · rw [z, beq_self_eq_true] at na
          cases na
        · exact no1 z
      · exact no2 z
theorem DqAll.reads (I : L2.Inv X pins σ H s) (sm : SM X.base) : ∀ (ds : List PyData) (vs : List V) (us : List Value), DqAll X.K H vs ds → Vals vs us → ∃ as, ReadsAll s.heap us ds as ∧ sysModules ∉ as
  | [], _, _, h, r => by
    cases h
    cases r
    exact ⟨_, .nil, by simp⟩
  | d :: ds, _, _, h, r => by
    cases h with
    | cons h1 h2 =>
      cases r with
      | cons r1 r2 =>
        obtain ⟨as, q1, n1⟩ := Dq.reads I sm d _ _ h1 r1
        obtain ⟨bs, q2, n2⟩ := DqAll.reads I sm ds _ _ h2 r2
        refine ⟨_, .cons q1 q2, fun z => ?_⟩
        rcases List.mem_append.mp z with z | z
        · exact n1 z
        · exact n2 z
theorem DqKv.reads (I : L2.Inv X pins σ H s) (sm : SM X.base) : ∀ (ds : List (PyData × PyData)) (kvs : List (Key × V)) (vs : List (Key × Value)) (es : List DictEntry), DqKv X.K H kvs ds → KV kvs vs →
    Pairs (mixKind X.prog X.w) es vs → ∃ as bs, ReadsAll s.heap (es.map (·.key)) (ds.map (·.1)) as ∧ ReadsAll s.heap (es.map (·.val)) (ds.map (·.2)) bs ∧ sysModules ∉ as ∧ sysModules ∉ bs
  | [], _, _, _, h, r, p => by
    cases h
    cases r
    cases p
    exact ⟨_, _, .nil, .nil, by simp, by simp⟩
  | (_, d) :: ds, _, _, _, h, r, p => by
    cases h with
    | @cons k v _ kvs _ h1 h2 =>
      cases r with
      | @cons _ kv _ vs r1 r2 =>
        cases p with
        | @cons e _ es _ p1 p2 p3 =>
          obtain ⟨as, bs, q1, q2, n1, n2⟩ := DqKv.reads I sm ds _ _ _ h2 r2 p3
          obtain ⟨cs, q3, n3⟩ := Dq.reads I sm d _ _ h1 r1.2
          have key : Reads s.heap e.key (keyD k) [] := by
            have p1' : keyIs kv.1 e.key = true := p1
            rw [← r1.1] at p1'
            obtain ⟨i, t, e1, e2⟩ | ⟨x, t, e1, e2⟩ := keyIs_shape p1'
            · rw [show k = .inl i from e1, e2]
              exact .int i t
            · rw [show k = .inr x from e1, e2]
              exact .str x t
          have val : Reads s.heap e.val d cs := by
            rw [p2]
            exact q3
          refine ⟨_, _, .cons key q1, .cons val q2, ?_, ?_⟩
          · simpa using n1
          · intro z
            rcases List.mem_append.mp z with z | z
            · exact n3 z
            · exact n2 z
end
end
structure Told (d : PyData) : Prop where
  sh : d.showable = true
  lv : d.leavesShort 60 = true
  bu : d.bulk ≤ 200000
  de : d.depth ≤ 40
theorem Told.fits {d : PyData} (t : Told d) : d.shown.length ≤ sizeLine := by
  have h := PyData.shown_le_bulk 60 (by decide) d t.lv
  have hb := t.bu
  rw [sizeLine_eq]
  omega
def rTell (K : PySem.W.Frag) : List V → Hp → VK → Prop := fun xs H Q => ∃ x d, xs = [x] ∧ Dq K H x d ∧ Told d ∧ Q (.str d.shown) H
theorem call_tell {X : Cx} (sm : SM X.base) (hgu : X.A.guards = some []) (hu : X.A.units + 64 < cLine) : CallR X (.builtin "repr") (rTell X.K) := by
  intro pins s σ H xs us Q I r h
  obtain ⟨x, d, rfl, hd, t, q⟩ := h
  obtain ⟨u, rfl, ru⟩ := vals1 r
  have hu1 : X.A.units + 1 < cLine := by omega
  have fin : ∀ {a : Addr} {d : PyData}, Dq X.K H (.ref a) d → Told d → (∀ s' : Shared, L2.Inv X pins σ H s' → Q (.str d.shown) H) →
      wpAny (model X.prog X.w) X.A (call (.builtin "repr") [.ref a]) (EP X pins σ Q) X.xe s := fun {a d} hd t q => by
    obtain ⟨as, rd, no⟩ := Dq.reads I sm d _ _ hd (show RelV (.ref a) (.ref a) from rfl)
    have hz := t.de
    refine repr_of_reads' rd t.sh (fun _ => no) hgu (by omega) (fun _ _ e => e) (fun h' u tk k => ?_) t.fits
    have J := I.kept (t' := tk) k
    exact ⟨.str _, H, J, ⟨_, rfl⟩, q _ J⟩
  cases hd with
  | non =>
    cases ru
    simp only [PyData.shown] at q
    exact PySem.P.repr_of_none ⟨.str _, H, I.tok _, ⟨_, rfl⟩, q⟩
  | bl b =>
    cases ru
    simp only [PyData.shown] at q
    exact PySem.P.repr_of_bool ⟨.str _, H, I.tok _, ⟨_, rfl⟩, q⟩
  | int i =>
    obtain ⟨tk, rfl⟩ := ru
    have hs := t.sh
    simp only [PyData.shown] at q
    simp only [PyData.showable, decide_eq_true_eq] at hs
    exact PySem.P.repr_of_int hs ⟨.str _, H, I.tok _, ⟨_, rfl⟩, q⟩
  | str z =>
    obtain ⟨tk, rfl⟩ := ru
    have hl := t.fits
    simp only [PyData.shown] at q hl
    exact PySem.P.repr_of_str ⟨.str _, H, I.tok _, ⟨_, rfl⟩, q⟩ hl
  | lst h1 h2 =>
    cases ru
    exact fin (.lst h1 h2) t fun _ _ => q
  | tup h1 h2 =>
    cases ru
    exact fin (.tup h1 h2) t fun _ _ => q
  | dic h1 h2 =>
    cases ru
    exact fin (.dic h1 h2) t fun _ _ => q
section
variable {K : PySem.W.Frag} {H : Hp}
def asInt : PyData → Option Int
  | .int i => some i
  | _ => none
def asInts : PyData → Option (List (Option Int))
  | .tuple ds => some (ds.map asInt)
  | _ => none
theorem tyx_lst {a : Addr} {xs : List V} (h : SqL K H a xs) : TyX K H (.ref a) (.type "list") := by
  rcases h with (q | ⟨o, q⟩) | ⟨o, its, n, h1, h2, _⟩
  · exact .base (.lst q)
  · exact .base (.frz q)
  · exact .kList h1 h2
theorem tyx_tpl {a : Addr} {xs : List V} (h : SqT K H a xs) : TyX K H (.ref a) (.type "tuple") := by
  rcases h with (q | ⟨o, q⟩) | ⟨o, its, n, h1, h2, _⟩
  · exact .base (.tup q)
  · exact .fTuple q
  · exact .kTuple h1 h2
theorem Dq.int? {v : V} {d : PyData} (h : Dq K H v d) : IntQ K H v (asInt d) := by
  cases h with
  | non => exact .inr ⟨_, .base .non, kit_ty (r := false) (by decide +kernel)⟩
  | bl b => exact .inl ⟨b, rfl⟩
  | int i => rfl
  | str x => exact .inr ⟨_, .base (.str x), kit_ty (r := false) (by decide +kernel)⟩
  | lst h1 h2 => exact .inr ⟨_, tyx_lst h1, kit_ty (r := false) (by decide +kernel)⟩
  | tup h1 h2 => exact .inr ⟨_, tyx_tpl h1, kit_ty (r := false) (by decide +kernel)⟩
  | dic h1 h2 => exact .inr ⟨_, .base (.dK h1), kit_ty (r := false) (by decide +kernel)⟩
theorem DqAll.ints : ∀ {xs : List V} {ds : List PyData}, DqAll K H xs ds → Paired (IntQ K H) xs (ds.map asInt)
  | _, _, .nil => .nil
  | _, _, .cons h1 h2 => .cons h1.int? h2.ints
def asTuple : PyData → Option (List PyData)
  | .tuple ds => some ds
  | _ => none
theorem Dq.noTuple {v : V} {d : PyData} (h : Dq K H v d) (e : asTuple d = none) : TupQ K H v none := by
  cases h with
  | non => exact ⟨_, .base .non, kit_ty (r := false) (by decide +kernel)⟩
  | bl b => exact ⟨_, .base (.bl b), kit_ty (r := false) (by decide +kernel)⟩
  | int i => exact ⟨_, .base (.int i), kit_ty (r := false) (by decide +kernel)⟩
  | str x => exact ⟨_, .base (.str x), kit_ty (r := false) (by decide +kernel)⟩
  | lst h1 h2 => exact ⟨_, tyx_lst h1, kit_ty (r := false) (by decide +kernel)⟩
  | tup h1 h2 => cases e
  | dic h1 h2 => exact ⟨_, .base (.dK h1), kit_ty (r := false) (by decide +kernel)⟩
theorem DqAll.length : ∀ {xs : List V} {ds : List PyData}, DqAll K H xs ds → xs.length = ds.length
  | _, _, .nil => rfl
  | _, _, .cons _ h2 => by rw [List.length_cons, List.length_cons, h2.length]
end
end MB
end
section
set_option maxRecDepth 100000
set_option maxHeartbeats 4000000
namespace MB
open PySem PySem.Spec PyProof.Rows L2
theorem lawM_at {P : Program} {w : World} {K : PySem.W.Frag} {mg mb : Str → Option Value} {k : Nat} {fa a : Addr}
    {fd : FuncData} {x : Str} {sp : Sp} {s₁ : Shared} {us : List Value} {ns : List Int} {H : Hp}
    (KX : K.In s₁.heap) (hns : s₁.heap.Ns mainGlobals mg) (hb : s₁.heap.Ns builtinsNs mb)
    (hbb : ∀ x : Str, x ≠ "__name__" → mb x = bootBuiltins x) (hlim : s₁.heap.NoLimit) (hg : s₁.gens = #[])
    (ha : s₁.heap.get? a = some { cls := .type "list", data := .seq us.toArray }) (hr : Room k callerA)
    (F : ∀ base : Heap, K.In base → base.Ns mainGlobals mg → SM base → FnG P w K mg base k fa fd [x] sp) (hsm : SM s₁.heap)
    (hbind : ∀ (s : Shared) (u : Value), BindsTo s fd ⟨[u], []⟩ [(x, u)])
    (hsp : sp [.ref a] H (fun v _ => v = .bl true) E0) (hO : Only H) (hok : HOk P w H s₁.heap)
    (hA : ∀ b, H b ≠ none → b = a) (hK : H a ≠ none → K.lookup a = none) :
    codeAny (model P w) callerA (.call (.ref fa) ⟨[.ref a], []⟩)
      (fun r s' => r = .ok (.ret (.bool true)) ∧ OldK s₁.heap s'.heap ∧ s'.os = s₁.os ∧ AllBare s'.gens) s₁ := by
  have noA : ∀ {b : Addr} {o : Obj} {es : Array DictEntry} {ep : Nat},
      s₁.heap.get? b = some o → o.data = .dict es ep → H b = none := by
    intro b o es ep e d
    cases q : H b with
    | none => rfl
    | some u =>
      obtain rfl : b = a := hA b (by simp [q])
      rw [ha] at e
      cases e
      exact absurd d (by intro z; cases z)
  have nsK : ∀ {b : Addr} {m : Str → Option Value}, s₁.heap.Ns b m → (hidT s₁.heap H).Ns b m :=
    fun {b m} ⟨o, es, ep, e, d, r⟩ => ⟨o, es, ep, hidT_get e (noA e d), d, r⟩
  have hKb : K.In (hidT s₁.heap H) := by
    intro b o e
    refine hidT_get (KX b o e) ?_
    cases q : H b with
    | none => rfl
    | some u =>
      obtain rfl : b = a := hA b (by simp [q])
      rw [hK (by simp [q])] at e
      cases e
  have hM : Mod K mg (hidT s₁.heap H) :=
    ⟨hKb, nsK hns, ⟨mb, nsK hb, hbb⟩, let ⟨mc, h1, h2⟩ := hlim; ⟨mc, nsK h1, h2⟩⟩
  have e0 : Env0 P w K mg (hidT s₁.heap H) callerA [] s₁ H :=
    ⟨rfl, hM, fun b o e => of_hidT e, Nat.le_of_eq (hidT_size _ _), trivial,
      fun b hb => absurd (show b ∈ ([] : List Addr) from hb) (by simp), hok, .of_eq hg⟩
  refine codeAny_mono ((F _ hKb (nsK hns) (let ⟨mm, z⟩ := hsm; ⟨mm, nsK z⟩)).goes callerA [] s₁ H ⟨[.ref a], []⟩ [.ref a] [.ref a] _ _ hr rfl e0
    (hbind s₁ (.ref a)) (.cons rfl .nil) hsp) fun r s' h => ?_
  cases r with
  | error e => exact h.elim
  | ok fl =>
    cases fl with
    | next => exact False.elim h
    | brk => exact False.elim h
    | cont => exact False.elim h
    | ret u =>
      obtain ⟨v, H', os, bare, un, hok', r', q⟩ := h
      have q' : v = .bl true := q
      subst q'
      obtain rfl : u = Value.bool true := r'
      refine ⟨rfl, OldK.of_keep fun b o e => ?_, os, bare⟩
      cases q : H b with
      | none => exact un.keep b o e q (fun z => absurd (show b ∈ ([] : List Addr) from z) (by simp)) (by simp)
      | some u =>
        rcases hO b with z | ⟨ob, xs, z⟩
        · rw [q] at z
          cases z
        · obtain ⟨e1, _⟩ := hok b _ z
          obtain ⟨e2, _⟩ := hok' b _ (un.frzs b ob _ z)
          rw [e] at e1
          cases e1
          exact e2
theorem lawM_call {P : Program} {w : World} {K : PySem.W.Frag} {mg mb : Str → Option Value} {k : Nat} {fa a : Addr}
    {fd : FuncData} {x : Str} {sp : Sp} {s₁ : Shared} {us : List Value} {ns : List Int}
    (KX : K.In s₁.heap) (hns : s₁.heap.Ns mainGlobals mg) (hb : s₁.heap.Ns builtinsNs mb)
    (hbb : ∀ x : Str, x ≠ "__name__" → mb x = bootBuiltins x) (hlim : s₁.heap.NoLimit) (hg : s₁.gens = #[])
    (ha : s₁.heap.get? a = some { cls := .type "list", data := .seq us.toArray }) (hi : IntsAre us ns)
    (hl : ns.length ≤ sizeLine) (hr : Room k callerA)
    (F : ∀ base : Heap, K.In base → base.Ns mainGlobals mg → SM base → FnG P w K mg base k fa fd [x] sp) (hsm : SM s₁.heap)
    (hbind : ∀ (s : Shared) (u : Value), BindsTo s fd ⟨[u], []⟩ [(x, u)])
    (hsp : ∀ H : Hp, Only H → SqL K H a (ns.map V.int) → sp [.ref a] H (fun v _ => v = .bl true) E0) :
    codeAny (model P w) callerA (.call (.ref fa) ⟨[.ref a], []⟩)
      (fun r s' => r = .ok (.ret (.bool true)) ∧ OldK s₁.heap s'.heap ∧ s'.os = s₁.os ∧ AllBare s'.gens) s₁ := by
  have rv := vals_ints hi
  have len1 := hi.length
  cases hk : K.lookup a with
  | some o =>
    have e := KX a o hk
    rw [ha] at e
    cases e
    have hS : SqL K (fun _ => none) a (ns.map V.int) :=
      Or.inr ⟨_, us.toArray, _, hk, rfl, rfl, rfl, by rw [List.size_toArray, len1]; exact hl, by simpa using rv⟩
    exact lawM_at (H := fun _ => none) (ns := ns) KX hns hb hbb hlim hg ha hr F hsm hbind
      (hsp _ (fun _ => Or.inl rfl) hS) (fun _ => Or.inl rfl)
      (fun b u z => by cases (show (none : Option HO) = some u from z)) (fun b z => absurd rfl z) fun z => absurd rfl z
  | none =>
    let ob : Obj := { cls := .type "list", data := .seq us.toArray }
    let H0 : Hp := fun b => if b = a then some (.frz ob (.lst (ns.map V.int))) else none
    have at0 : H0 a = some (.frz ob (.lst (ns.map V.int))) := if_pos rfl
    have off : ∀ b, b ≠ a → H0 b = none := fun b hb => if_neg hb
    have hO : Only H0 := fun b => by
      by_cases hb : b = a
      · subst hb
        exact Or.inr ⟨_, _, at0⟩
      · exact Or.inl (off b hb)
    have hok : HOk P w H0 s₁.heap := fun b u z => by
      by_cases hb : b = a
      · subst hb
        rw [at0] at z
        cases z
        exact ⟨ha, by rw [List.length_map]; exact hl, us, _, rv, ha⟩
      · rw [off b hb] at z
        cases z
    refine lawM_at (H := H0) (ns := ns) KX hns hb hbb hlim hg ha hr F hsm hbind
      (hsp H0 hO (Or.inl (Or.inr ⟨_, at0⟩))) hO hok (fun b z => ?_) fun _ => hk
    by_cases hb : b = a
    · exact hb
    · exact absurd (off b hb) z
theorem walkM {l : PySem.W.OpenLaw} {n k : Nat} {q : Program} {loose : List Str}
    {XP : (Str → Option Value) → Heap → Prop} {YP : World → Heap → Prop} {d : DefRec}
    {K : Params → PySem.W.Frag} {sp : PySem.W.Frag → Sp} {x : Str} (hn : l.most = some n) (hn2 : n ≤ sizeLine)
    (hdf : d.params.defaults = []) (hq : importsNone q = true) (hr : Room k callerA) (hY : ∀ (w : World) (h : Heap), YP w h → (K w.params).In h)
    (F : ∀ (w : World) (mg : Str → Option Value) (fa : Addr) (h : Heap), (K w.params).In h → h.Ns mainGlobals mg →
      mg d.name = some (.ref fa) → ∃ fd : FuncData, (∀ (s : Shared) (u : Value), BindsTo s fd ⟨[u], []⟩ [(x, u)]) ∧
        ∀ base : Heap, (K w.params).In base → base.Ns mainGlobals mg → SM base →
          FnG l.prog w (K w.params) mg base k fa fd [x] (sp (K w.params)))
    (hsp : ∀ (K : PySem.W.Frag) (H : Hp) (a : Addr) (ns : List Int), ns.length ≤ n → Only H →
      SqL K H a (ns.map V.int) → sp K [.ref a] H (fun v _ => v = .bl true) E0) :
    PySem.W.WalkO q loose XP YP l.row.toRowW d [] (fun f vs => PySem.call f vs) := by
  refine Att.attach_call hn hdf fun w s₀ s₁ mg mb fa o pm cd doc a vs ns G Y ho hd hcd hmg hobj hints hlen hg => ?_
  have KX := hY w _ Y
  have hsm : SM s₁.heap := let ⟨mm, z, _⟩ := (G.T.seer hq).mods; ⟨mm, z⟩
  obtain ⟨fd, hb, hF⟩ := F w mg fa _ KX G.T.g hmg
  exact lawM_call KX G.T.g G.T.b G.T.builtins G.T.nolimit hg hobj hints (Nat.le_trans hlen hn2) hr hF hsm hb
    fun H hO hS => hsp _ H a ns hlen hO hS
end MB
end
section
set_option maxRecDepth 100000
set_option maxHeartbeats 4000000
namespace MB
open PySem PySem.Spec PyProof.Rows L2 LamX PySem.W
abbrev Tb := Addr × Addr × Str
def tbs (tabs : List Tb) : List (Addr × Str) := tabs.map fun t => (t.2.1, t.2.2)
structure TabAt (h : Heap) (t : Tb) : Prop where
  c : CodeHd h t.1 t.2.1
  p : h.get? t.2.1 = some (tabObj #[])
def Shape (tabs : List Tb) (H : Hp) : Prop := ∀ b, H b = none ∨ (∃ ob xs, H b = some (.frz ob (.lst xs))) ∨ (H b = some (.tbl #[]) ∧ ∃ t ∈ tabs, t.2.1 = b)
theorem lawT_at {P : Program} {w : World} {K : PySem.W.Frag} {mg mb : Str → Option Value} {k : Nat} {fa a : Addr}
    {fd : FuncData} {x : Str} {sp : Sp} {s₁ : Shared} {us : List Value} {ns : List Int} {H : Hp} {tabs : List Tb}
    (KX : K.In s₁.heap) (hns : s₁.heap.Ns mainGlobals mg) (hb : s₁.heap.Ns builtinsNs mb)
    (hbb : ∀ x : Str, x ≠ "__name__" → mb x = bootBuiltins x) (hlim : s₁.heap.NoLimit) (hg : s₁.gens = #[])
    (hbm : ∃ bm ob, mg "__builtins__" = some (.ref bm) ∧ bm ≠ builtinsNs ∧ s₁.heap.get? bm = some ob ∧ ob.cls = .type "module" ∧ ob.dict = some builtinsNs ∧ ob.data = .plain)
    (ha : s₁.heap.get? a = some { cls := .type "list", data := .seq us.toArray }) (hr : Room k callerA)
    (hT : ∀ t ∈ tabs, TabAt s₁.heap t) (nK : noTabs K = true)
    (F : ∀ base : Heap, K.In base → base.Ns mainGlobals mg → SM base → (∀ t ∈ tabs, TabB base mg t.1 t.2.1) → FnG P w K mg base k fa fd [x] sp) (hsm : SM s₁.heap)
    (hbind : ∀ (s : Shared) (u : Value), BindsTo s fd ⟨[u], []⟩ [(x, u)])
    (hsp : sp [.ref a] H (fun v _ => v = .bl true) E0) (hO : Shape tabs H) (hok : HOk P w H s₁.heap)
    (hA : ∀ b ob xs, H b = some (.frz ob (.lst xs)) → b = a) (hK : ∀ ob xs, H a = some (.frz ob (.lst xs)) → K.lookup a = none) :
    codeAny (model P w) callerA (.call (.ref fa) ⟨[.ref a], []⟩)
      (fun r s' => r = .ok (.ret (.bool true)) ∧ OldK s₁.heap s'.heap ∧ s'.os = s₁.os ∧ AllBare s'.gens) s₁ := by
  have tbl : ∀ {b : Addr}, H b = some (.tbl #[]) → s₁.heap.get? b = some (tabObj #[]) := fun {b} q => hok b _ q
  have other : ∀ {b : Addr} {o : Obj}, s₁.heap.get? b = some o → o.cls ≠ .type "list" → o ≠ tabObj #[] → H b = none := by
    intro b o e c1 c2
    rcases hO b with q | ⟨ob, xs, q⟩ | ⟨q, _⟩
    · exact q
    · obtain rfl := hA b _ _ q
      rw [ha] at e
      cases e
      exact absurd rfl c1
    · rw [tbl q] at e
      cases e
      exact absurd rfl c2
  have noA : ∀ {b : Addr} {o : Obj} {es : Array DictEntry} {ep : Nat},
      s₁.heap.get? b = some o → o.data = .dict es ep → H b = none := by
    intro b o es ep e d
    rcases hO b with q | ⟨ob, xs, q⟩ | ⟨q, _⟩
    · exact q
    · obtain rfl := hA b _ _ q
      rw [ha] at e
      cases e
      cases d
    · rw [tbl q] at e
      cases e
      cases d
  have nsK : ∀ {b : Addr} {m : Str → Option Value}, s₁.heap.Ns b m → (hidT s₁.heap H).Ns b m :=
    fun {b m} ⟨o, es, ep, e, d, r⟩ => ⟨o, es, ep, hidT_get e (noA e d), d, r⟩
  have hKb : K.In (hidT s₁.heap H) := by
    intro b o e
    refine hidT_get (KX b o e) ?_
    rcases hO b with q | ⟨ob, xs, q⟩ | ⟨q, _⟩
    · exact q
    · obtain rfl := hA b _ _ q
      rw [hK _ _ q] at e
      cases e
    · have z := KX b o e
      rw [tbl q] at z
      cases z
      have h2 := List.all_eq_true.mp nK (b, tabObj #[]) (mem_of_lookupK e)
      exact absurd (show false = true from h2) Bool.false_ne_true
  have hM : Mod K mg (hidT s₁.heap H) :=
    ⟨hKb, nsK hns, ⟨mb, nsK hb, hbb⟩, let ⟨mc, h1, h2⟩ := hlim; ⟨mc, nsK h1, h2⟩⟩
  have e0 : Env0 P w K mg (hidT s₁.heap H) callerA [] s₁ H :=
    ⟨rfl, hM, fun b o e => of_hidT e, Nat.le_of_eq (hidT_size _ _), trivial,
      fun b hb => absurd (show b ∈ ([] : List Addr) from hb) (by simp), hok, .of_eq hg⟩
  have hTB : ∀ t ∈ tabs, TabB (hidT s₁.heap H) mg t.1 t.2.1 := fun t ht => by
    obtain ⟨hc, hp⟩ := hT t ht
    obtain ⟨o, vs, file, tf, flags, tg, inF, text, tt, e1, r1, r⟩ := hc
    obtain ⟨bm, ob, b1, b2, b3, b4, b5, b6⟩ := hbm
    have hgP : mainGlobals ≠ t.2.1 := fun q => by
      obtain ⟨o, es, ep, e, hd, _⟩ := hns
      rw [q, hp] at e
      cases e
      cases hd
    refine ⟨⟨o, vs, file, tf, flags, tg, inF, text, tt, hidT_get e1 (other e1 (by rw [r1]; intro z; injection z with z; exact absurd z (by decide)) (by rintro rfl; cases r1)), r1, r⟩, ⟨bm, ob, b1, b2, ?_, ?_, hidT_get b3 (other b3 (by rw [b4]; intro z; injection z with z; exact absurd z (by decide)) (by rintro rfl; cases b4)), b4, b5, b6⟩, hgP⟩
    · intro q
      obtain ⟨o, es, ep, e, hd, _⟩ := hns
      rw [q, e] at b3
      cases b3
      rw [hd] at b6
      cases b6
    · intro q
      rw [q, hp] at b3
      cases b3
      cases b4
  refine codeAny_mono ((F _ hKb (nsK hns) (let ⟨mm, z⟩ := hsm; ⟨mm, nsK z⟩) hTB).goes callerA [] s₁ H ⟨[.ref a], []⟩ [.ref a] [.ref a] _ _ hr rfl e0
    (hbind s₁ (.ref a)) (.cons rfl .nil) hsp) fun r s' h => ?_
  cases r with
  | error e => exact h.elim
  | ok fl =>
    cases fl with
    | next => exact False.elim h
    | brk => exact False.elim h
    | cont => exact False.elim h
    | ret u =>
      obtain ⟨v, H', os, bare, un, hok', r', q⟩ := h
      have q' : v = .bl true := q
      subst q'
      obtain rfl : u = Value.bool true := r'
      have kept : ∀ b o, s₁.heap.get? b = some o → (H b = none ∨ ∃ ob xs, H b = some (.frz ob (.lst xs))) → s'.heap.get? b = some o := fun b o e c => by
        rcases c with q | ⟨ob, xs, z⟩
        · exact un.keep b o e q (fun z => absurd (show b ∈ ([] : List Addr) from z) (by simp)) (by simp)
        · obtain ⟨e1, _⟩ := hok b _ z
          obtain ⟨e2, _⟩ := hok' b _ (un.frzs b ob _ z)
          rw [e] at e1
          cases e1
          exact e2
      have grown : ∀ b o, s₁.heap.get? b = some o → H b = some (.tbl #[]) → ∃ more, s'.heap.get? b = some (tabObj (#[] ++ more)) := fun b o e q => by
        obtain ⟨more, z⟩ := un.tbls b _ q
        exact ⟨more, hok' b _ z⟩
      refine ⟨rfl, ⟨fun b o e => ?_, fun b o e => ?_⟩, os, bare⟩
      · rcases hO b with q | q | ⟨q, t, ht, hb⟩
        · exact .inl (kept b o e (.inl q))
        · exact .inl (kept b o e (.inr q))
        · obtain ⟨more, z⟩ := grown b o e q
          have e' := tbl q
          rw [e] at e'
          cases e'
          refine .inr (.inl ⟨?_, rfl, #[], more, rfl, z⟩)
          rw [← hb]
          exact ((hT t ht).c.tab (hT t ht).p).isCodeTable
      · rcases hO b with q | q | ⟨q, t, ht, hb⟩
        · exact ⟨_, kept b o e (.inl q)⟩
        · exact ⟨_, kept b o e (.inr q)⟩
        · obtain ⟨more, z⟩ := grown b o e q
          exact ⟨_, z⟩
theorem lawT_call {P : Program} {w : World} {K : PySem.W.Frag} {mg mb : Str → Option Value} {k : Nat} {fa a : Addr}
    {fd : FuncData} {x : Str} {sp : Sp} {s₁ : Shared} {us : List Value} {ns : List Int} {tabs : List Tb}
    (KX : K.In s₁.heap) (hns : s₁.heap.Ns mainGlobals mg) (hb : s₁.heap.Ns builtinsNs mb)
    (hbb : ∀ x : Str, x ≠ "__name__" → mb x = bootBuiltins x) (hlim : s₁.heap.NoLimit) (hg : s₁.gens = #[])
    (hbm : ∃ bm ob, mg "__builtins__" = some (.ref bm) ∧ bm ≠ builtinsNs ∧ s₁.heap.get? bm = some ob ∧ ob.cls = .type "module" ∧ ob.dict = some builtinsNs ∧ ob.data = .plain)
    (ha : s₁.heap.get? a = some { cls := .type "list", data := .seq us.toArray }) (hi : IntsAre us ns)
    (hl : ns.length ≤ sizeLine) (hr : Room k callerA)
    (hT : ∀ t ∈ tabs, TabAt s₁.heap t) (nK : noTabs K = true)
    (F : ∀ base : Heap, K.In base → base.Ns mainGlobals mg → SM base → (∀ t ∈ tabs, TabB base mg t.1 t.2.1) → FnG P w K mg base k fa fd [x] sp) (hsm : SM s₁.heap)
    (hbind : ∀ (s : Shared) (u : Value), BindsTo s fd ⟨[u], []⟩ [(x, u)])
    (hsp : ∀ H : Hp, (∀ t ∈ tabs, H t.2.1 = some (.tbl #[])) → SqL K H a (ns.map V.int) → sp [.ref a] H (fun v _ => v = .bl true) E0) :
    codeAny (model P w) callerA (.call (.ref fa) ⟨[.ref a], []⟩)
      (fun r s' => r = .ok (.ret (.bool true)) ∧ OldK s₁.heap s'.heap ∧ s'.os = s₁.os ∧ AllBare s'.gens) s₁ := by
  have rv := vals_ints hi
  have len1 := hi.length
  let isT : Addr → Bool := fun b => tabs.any fun t => t.2.1 == b
  have isT_of : ∀ {b}, isT b = true → ∃ t ∈ tabs, t.2.1 = b := fun {b} z => by
    obtain ⟨t, ht, e⟩ := List.any_eq_true.mp z
    exact ⟨t, ht, beq_iff_eq.mp e⟩
  have isT_at : ∀ t ∈ tabs, isT t.2.1 = true := fun t ht => List.any_eq_true.mpr ⟨t, ht, beq_self_eq_true _⟩
  have at_tab : ∀ {b}, isT b = true → s₁.heap.get? b = some (tabObj #[]) := fun {b} z => by
    obtain ⟨t, ht, e⟩ := isT_of z
    rw [← e]
    exact (hT t ht).p
  have nA : isT a = false := by
    cases z : isT a with
    | false => rfl
    | true =>
      have e := at_tab z
      rw [ha] at e
      cases e
  cases hk : K.lookup a with
  | some o =>
    have e := KX a o hk
    rw [ha] at e
    cases e
    let H0 : Hp := fun b => if isT b = true then some (.tbl #[]) else none
    have cases0 : ∀ b, (isT b = true ∧ H0 b = some (.tbl #[])) ∨ (isT b = false ∧ H0 b = none) := fun b => by
      cases z : isT b with
      | true => exact .inl ⟨rfl, if_pos z⟩
      | false => exact .inr ⟨rfl, if_neg (by rw [z]; decide)⟩
    have hS : SqL K H0 a (ns.map V.int) :=
      Or.inr ⟨_, us.toArray, _, hk, rfl, rfl, rfl, by rw [List.size_toArray, len1]; exact hl, by simpa using rv⟩
    refine lawT_at (H := H0) (ns := ns) KX hns hb hbb hlim hg hbm ha hr hT nK F hsm hbind
      (hsp _ (fun t ht => if_pos (isT_at t ht)) hS) (fun b => ?_) (fun b u z => ?_) (fun b ob xs z => ?_) fun ob xs z => ?_
    · rcases cases0 b with ⟨h1, h2⟩ | ⟨_, h2⟩
      · exact .inr (.inr ⟨h2, isT_of h1⟩)
      · exact .inl h2
    · rcases cases0 b with ⟨h1, h2⟩ | ⟨_, h2⟩
      · rw [h2] at z
        cases z
        exact at_tab h1
      · rw [h2] at z
        cases z
    · rcases cases0 b with ⟨h1, h2⟩ | ⟨_, h2⟩
      · rw [h2] at z
        cases z
      · rw [h2] at z
        cases z
    · rcases cases0 a with ⟨h1, h2⟩ | ⟨_, h2⟩
      · rw [h2] at z
        cases z
      · rw [h2] at z
        cases z
  | none =>
    let ob : Obj := { cls := .type "list", data := .seq us.toArray }
    let H0 : Hp := fun b => if b = a then some (.frz ob (.lst (ns.map V.int))) else if isT b = true then some (.tbl #[]) else none
    have at0 : H0 a = some (.frz ob (.lst (ns.map V.int))) := if_pos rfl
    have cases0 : ∀ b, (b = a) ∨ (isT b = true ∧ H0 b = some (.tbl #[])) ∨ (isT b = false ∧ H0 b = none) := fun b => by
      by_cases hb : b = a
      · exact .inl hb
      · refine .inr ?_
        have e : H0 b = if isT b = true then some (.tbl #[]) else none := if_neg hb
        rw [e]
        cases z : isT b with
        | true => exact .inl ⟨rfl, if_pos rfl⟩
        | false => exact .inr ⟨rfl, if_neg (by decide)⟩
    refine lawT_at (H := H0) (ns := ns) KX hns hb hbb hlim hg hbm ha hr hT nK F hsm hbind
      (hsp H0 (fun t ht => ?_) (Or.inl (Or.inr ⟨_, at0⟩))) (fun b => ?_) (fun b u z => ?_) (fun b ob' xs z => ?_) fun _ _ _ => hk
    · rcases cases0 t.2.1 with e | ⟨_, e⟩ | ⟨e, _⟩
      · have := isT_at t ht
        rw [e, nA] at this
        cases this
      · exact e
      · rw [isT_at t ht] at e
        cases e
    · rcases cases0 b with rfl | ⟨h1, h2⟩ | ⟨_, h2⟩
      · exact .inr (.inl ⟨_, _, at0⟩)
      · exact .inr (.inr ⟨h2, isT_of h1⟩)
      · exact .inl h2
    · rcases cases0 b with rfl | ⟨h1, h2⟩ | ⟨_, h2⟩
      · rw [at0] at z
        cases z
        exact ⟨ha, by rw [List.length_map]; exact hl, us, _, rv, ha⟩
      · rw [h2] at z
        cases z
        exact at_tab h1
      · rw [h2] at z
        cases z
    · rcases cases0 b with e | ⟨h1, h2⟩ | ⟨_, h2⟩
      · exact e
      · rw [h2] at z
        cases z
      · rw [h2] at z
        cases z
theorem walkT {l : PySem.W.OpenLaw} {n k : Nat} {q : Program} {loose : List Str}
    {XP : (Str → Option Value) → Heap → Prop} {YP : World → Heap → Prop} {d : DefRec}
    {K : Params → PySem.W.Frag} {sp : PySem.W.Frag → List (Addr × Str) → Sp} {x : Str} (hn : l.most = some n) (hn2 : n ≤ sizeLine)
    (hdf : d.params.defaults = []) (hq : importsNone q = true) (hr : Room k callerA) (hY : ∀ (w : World) (h : Heap), YP w h → (K w.params).In h)
    (F : ∀ (w : World) (mg : Str → Option Value) (fa : Addr) (h : Heap), (K w.params).In h → h.Ns mainGlobals mg →
      (∀ (x : Str) (r : DefRec) (c P : Addr), (recsOf q).find? (fun e => e.name == x) = some r → tabIn (K w.params) x = some (c, P) → CodeHd h c P ∧ h.get? P = some (tabObj #[])) →
      mg d.name = some (.ref fa) → ∃ (fd : FuncData) (tabs : List Tb), (∀ t ∈ tabs, TabAt h t) ∧ noTabs (K w.params) = true ∧ (∀ (s : Shared) (u : Value), BindsTo s fd ⟨[u], []⟩ [(x, u)]) ∧
        ∀ base : Heap, (K w.params).In base → base.Ns mainGlobals mg → SM base → (∀ t ∈ tabs, TabB base mg t.1 t.2.1) →
          FnG l.prog w (K w.params) mg base k fa fd [x] (sp (K w.params) (tbs tabs)))
    (hsp : ∀ (K : PySem.W.Frag) (H : Hp) (a : Addr) (ns : List Int) (T : List (Addr × Str)), ns.length ≤ n → Tabs T H →
      SqL K H a (ns.map V.int) → sp K T [.ref a] H (fun v _ => v = .bl true) E0) :
    PySem.W.WalkO q loose XP YP l.row.toRowW d [] (fun f vs => PySem.call f vs) := by
  refine Att.attach_call hn hdf fun w s₀ s₁ mg mb fa o pm cd doc a vs ns G Y ho hd hcd hmg hobj hints hlen hg => ?_
  have KX := hY w _ Y
  have hsm : SM s₁.heap := let ⟨mm, z, _⟩ := (G.T.seer hq).mods; ⟨mm, z⟩
  obtain ⟨fd, tabs, hT, nK, hb, hF⟩ := F w mg fa _ KX G.T.g (fun x r c P hr ht => tab_of G.T KX hr ht) hmg
  exact lawT_call KX G.T.g G.T.b G.T.builtins G.T.nolimit hg G.T.bmain hobj hints (Nat.le_trans hlen hn2) hr hT nK hF hsm hb
    fun H hH hS => hsp _ H a ns _ hlen (fun p hp => by
      obtain ⟨t, ht, rfl⟩ := List.mem_map.mp hp
      exact TabS.nil (hH t ht)) hS
end MB
end
section
set_option maxRecDepth 100000
set_option maxHeartbeats 4000000
namespace MB
open PySem PySem.Spec PyProof.Rows L2
def dk (kL : Str) (l : Addr) (m n : Int) : List (Key × V) := [(.inr kL, .ref l), (.inr "mixed", .int m), (.inr "draws", .int n)]
structure Deck (kL : Str) (H : Hp) (d l : Addr) : Prop where
  ex : ∃ (m n : Int) (cs : List Int), H d = some (.dK (dk kL l m n)) ∧ H l = some (.lst (cs.map V.int)) ∧ cs.length ≤ 63 ∧ 0 ≤ m ∧ m < 2147483648
def But (d l : Addr) (H H' : Hp) : Prop := ∀ b o, H b = some o → b ≠ d → b ≠ l → H' b = some o
structure KOk (kL : Str) : Prop where
  m : ¬ kL = ("mixed" : Str)
  d : ¬ kL = ("draws" : Str)
theorem md : ¬ ("mixed" : Str) = ("draws" : Str) := by decide +kernel
theorem key_ne {a b : Str} (h : ¬ a = b) : ¬ ((Sum.inr a : Key) = Sum.inr b) := fun e => h (Sum.inr.inj e)
section
variable {kL : Str} {l d : Addr} {m n : Int} {H H' H1 : Hp}
theorem dk_left : valV (dk kL l m n) (.inr kL : Key) = some (.ref l) := valV_pos rfl
theorem dk_mixed (k : KOk kL) : valV (dk kL l m n) (.inr "mixed" : Key) = some (.int m) := by
  unfold dk
  rw [valV_neg (key_ne k.m)]
  exact valV_pos rfl
theorem dk_draws (k : KOk kL) : valV (dk kL l m n) (.inr "draws" : Key) = some (.int n) := by
  unfold dk
  rw [valV_neg (key_ne k.d), valV_neg (key_ne md)]
  exact valV_pos rfl
theorem dk_put (k : KOk kL) (n' : Int) : putK (dk kL l m n) (.inr "draws" : Key) (.int n') = dk kL l m n' := by
  have e1 : ¬ ((Sum.inr kL : Key) = (Sum.inr ("draws" : Str) : Key)) := key_ne k.d
  have e2 : ¬ ((Sum.inr ("mixed" : Str) : Key) = (Sum.inr ("draws" : Str) : Key)) := key_ne md
  have e3 : ((dk kL l m n).any fun kv => decide (kv.1 = (Sum.inr ("draws" : Str) : Key))) = true := by
    unfold dk
    simp [List.any_cons]
  unfold putK
  rw [if_pos e3]
  unfold dk
  simp only [List.map_cons, List.map_nil]
  rw [if_neg e1, if_neg e2, if_pos True.intro]
theorem dk_merge (k : KOk kL) : mergeK [] (dk kL l m n) = dk kL l m n := by
  have e1 : ¬ ((Sum.inr kL : Key) = (Sum.inr ("draws" : Str) : Key)) := key_ne k.d
  have e2 : ¬ ((Sum.inr ("mixed" : Str) : Key) = (Sum.inr ("draws" : Str) : Key)) := key_ne md
  have e3 : ¬ ((Sum.inr kL : Key) = (Sum.inr ("mixed" : Str) : Key)) := key_ne k.m
  unfold mergeK dk
  simp only [List.foldl_cons, List.foldl_nil]
  unfold putK
  simp [e1, e2, e3]
theorem Deck.ne (D : Deck kL H d l) : d ≠ l := by
  obtain ⟨m, n, cs, h1, h2, _⟩ := D.ex
  exact ne_of h1 h2 (by intro z; cases z)
theorem Deck.same (D : Deck kL H d l) (e : Same H H') : Deck kL H' d l := by
  obtain ⟨m, n, cs, h1, h2, h3⟩ := D.ex
  exact ⟨m, n, cs, e _ _ h1, e _ _ h2, h3⟩
theorem But.refl : But d l H H := fun _ _ h _ _ => h
theorem But.of (e : Same H H') : But d l H H' := fun b o h _ _ => e b o h
theorem But.trans (a : But d l H H') (b : But d l H' H1) : But d l H H1 := fun c o h h1 h2 => b c o (a c o h h1 h2) h1 h2
theorem But.same (a : But d l H H') (b : Same H' H1) : But d l H H1 := fun c o h h1 h2 => b c o (a c o h h1 h2)
theorem But.free (D : Deck kL H' d l) (e : But d l H H') {p : Addr} (h : H' p = none) : H p = none := by
  obtain ⟨m, n, cs, h1, h2, _⟩ := D.ex
  cases q : H p with
  | none => rfl
  | some o =>
    by_cases hd : p = d
    · subst hd
      rw [h1] at h
      cases h
    · by_cases hl : p = l
      · subst hl
        rw [h2] at h
        cases h
      · rw [e p o q hd hl] at h
        cases h
theorem Deck.off {p : Addr} (D : Deck kL H d l) (h : H p = none) : p ≠ d ∧ p ≠ l := by
  obtain ⟨m, n, cs, h1, h2, _⟩ := D.ex
  exact ⟨(ne_of_none h1 h).symm, (ne_of_none h2 h).symm⟩
theorem Deck.off_tup {p : Addr} {xs : List V} (D : Deck kL H d l) (h : H p = some (.tup xs)) : p ≠ d ∧ p ≠ l := by
  obtain ⟨m, n, cs, h1, h2, _⟩ := D.ex
  exact ⟨ne_of h h1 (by intro z; cases z), ne_of h h2 (by intro z; cases z)⟩
theorem Deck.off_frz {p : Addr} {o : Obj} {u : HO} (D : Deck kL H d l) (h : H p = some (.frz o u)) : p ≠ d ∧ p ≠ l := by
  obtain ⟨m, n, cs, h1, h2, _⟩ := D.ex
  exact ⟨ne_of h h1 (by intro z; cases z), ne_of h h2 (by intro z; cases z)⟩
theorem But.tup {K : PySem.W.Frag} {a : Addr} {xs : List V} (D : Deck kL H d l) (e : But d l H H') (h : SqT K H a xs) : SqT K H' a xs := by
  rcases h with (h | ⟨o, h⟩) | h
  · obtain ⟨h1, h2⟩ := D.off_tup h
    exact .inl (.inl (e _ _ h h1 h2))
  · obtain ⟨h1, h2⟩ := D.off_frz h
    exact .inl (.inr ⟨o, e _ _ h h1 h2⟩)
  · exact .inr h
theorem But.upd {p : Addr} {o : HO} (h : H p = none) (e : But d l H H') : But d l H (upd H' p o) := fun b u q h1 h2 => by
  rw [upd_ne (ne_of_none q h)]
  exact e b u q h1 h2
theorem Deck.upd {p : Addr} {o : HO} (D : Deck kL H d l) (h1 : p ≠ d) (h2 : p ≠ l) : Deck kL (upd H p o) d l := by
  obtain ⟨m, n, cs, e1, e2, e3⟩ := D.ex
  exact ⟨m, n, cs, by rw [upd_ne h1.symm]; exact e1, by rw [upd_ne h2.symm]; exact e2, e3⟩
end
theorem ints_lay : ∀ ns : List Int, PyData.canLayAll0 (ns.map PyData.int) = true
  | [] => by simp only [List.map_nil, PyData.canLayAll0]
  | n :: r => by
    simp only [List.map_cons, PyData.canLayAll0, PyData.canLay0, ints_lay r, Bool.and_self]
theorem ints_depth : ∀ ns : List Int, PyData.depthAll (ns.map PyData.int) = 0
  | [] => by simp only [List.map_nil, PyData.depthAll]
  | n :: r => by
    simp only [List.map_cons, PyData.depthAll, PyData.depth, ints_depth r, Nat.max_self]
theorem lst_shaped (ns : List Int) : SeqAt.shaped (.list (ns.map PyData.int)) = true := by
  unfold SeqAt.shaped
  simp only [PyData.canLay0, PyData.depth, ints_lay, ints_depth]
  decide
theorem tup_shaped (ns : List Int) : SeqAt.shaped (.tuple (ns.map PyData.int)) = true := by
  unfold SeqAt.shaped
  simp only [PyData.canLay0, PyData.depth, ints_lay, ints_depth]
  decide
theorem dp_ints {K : PySem.W.Frag} {H : Hp} : ∀ ns : List Int, DpAll K H (ns.map V.int) (ns.map PyData.int)
  | [] => .nil
  | n :: r => .cons (.int n) (dp_ints r)
theorem eqv_lnil (ns : List Int) : PyData.eqv (.list (ns.map PyData.int)) (.list []) = ns.isEmpty := by
  cases ns with
  | nil => simp only [List.map_nil, PyData.eqv, PyData.eqvAll, List.isEmpty_nil]
  | cons a r => simp only [List.map_cons, PyData.eqv, PyData.eqvAll, List.isEmpty_cons]
theorem eqv_tnil (ns : List Int) : PyData.eqv (.tuple (ns.map PyData.int)) (.tuple []) = ns.isEmpty := by
  cases ns with
  | nil => simp only [List.map_nil, PyData.eqv, PyData.eqvAll, List.isEmpty_nil]
  | cons a r => simp only [List.map_cons, PyData.eqv, PyData.eqvAll, List.isEmpty_cons]
theorem ne_nil_rd {K : PySem.W.Frag} {H : Hp} {l p : Addr} {ns : List Int} {Q : VK} (h : SqL K H l (ns.map V.int)) (hp : SqL K H p []) (q : Q (.bl (!ns.isEmpty)) H) : rNeD K (.ref l) (.ref p) H Q := by
  refine ⟨.list (ns.map PyData.int), .list [], .lst h (dp_ints ns), .lst hp .nil, lst_shaped ns, lst_shaped [], ?_⟩
  rw [eqv_lnil]
  exact q
theorem tne_nil_rd {K : PySem.W.Frag} {H : Hp} {l p : Addr} {ns : List Int} {Q : VK} (h : SqT K H l (ns.map V.int)) (hp : SqT K H p []) (q : Q (.bl (!ns.isEmpty)) H) : rNeD K (.ref l) (.ref p) H Q := by
  refine ⟨.tuple (ns.map PyData.int), .tuple [], .tup h (dp_ints ns), .tup hp .nil, tup_shaped ns, tup_shaped [], ?_⟩
  rw [eqv_tnil]
  exact q
end MB
end
section
set_option maxRecDepth 100000
namespace MB
open PySem PySem.Spec PyProof.Rows L2
def hide (d l : Addr) (H : Hp) : Hp := fun b => if b = d ∨ b = l then none else H b
section
variable {d l p : Addr} {H H' : Hp} {o : HO} {kL : Str} {K : PySem.W.Frag}
theorem hide_off (h1 : p ≠ d) (h2 : p ≠ l) : hide d l H p = H p := if_neg fun z => z.elim h1 h2
theorem hide_sub : Same (hide d l H) H := fun b u e => by
  unfold hide at e
  split at e
  · cases e
  · exact e
theorem hide_none (h : H p = none) : hide d l H p = none := by
  unfold hide
  split
  · rfl
  · exact h
theorem But.hide (e : But d l H H') : Same (MB.hide d l H) (MB.hide d l H') := fun b u q => by
  unfold MB.hide at q ⊢
  split at q
  · cases q
  · rename_i n
    rw [if_neg n]
    exact e b u q (fun z => n (.inl z)) fun z => n (.inr z)
theorem hide_upd (h1 : p ≠ d) (h2 : p ≠ l) : hide d l (upd H p o) = upd (hide d l H) p o := by
  funext b
  by_cases hb : b = p
  · subst hb
    rw [hide_off h1 h2, upd_same, upd_same]
  · rw [upd_ne hb]
    unfold hide
    rw [upd_ne hb]
theorem Deck.new (D : Deck kL H d l) (h : H p = none) : hide d l (L2.upd H p o) = L2.upd (hide d l H) p o := hide_upd (D.off h).1 (D.off h).2
theorem Deck.same_new (D : Deck kL H d l) (h : H p = none) : Same (hide d l H) (hide d l (L2.upd H p o)) := by
  rw [D.new h]
  exact fun b u q => by
    rw [upd_ne (ne_of_none q (hide_none h))]
    exact q
theorem Deck.at_new (D : Deck kL H d l) (h : H p = none) : hide d l (L2.upd H p o) p = some o := by
  rw [D.new h, upd_same]
theorem sqT_hide (D : Deck kL H d l) {a : Addr} {xs : List V} (h : SqT K H a xs) : SqT K (hide d l H) a xs := by
  rcases h with (h | ⟨o, h⟩) | h
  · obtain ⟨h1, h2⟩ := D.off_tup h
    exact .inl (.inl ((hide_off h1 h2).trans h))
  · obtain ⟨h1, h2⟩ := D.off_frz h
    exact .inl (.inr ⟨o, (hide_off h1 h2).trans h⟩)
  · exact .inr h
theorem same_hide (e : Same H H') : Same (hide d l H) (hide d l H') := (But.of e).hide
def SqAny (K : PySem.W.Frag) (H : Hp) (a : Addr) (xs : List V) : Prop := SqT K H a xs ∨ SqL K H a xs
theorem SqAny.same {a : Addr} {xs : List V} (h : SqAny K H a xs) (e : Same H H') : SqAny K H' a xs := by
  rcases h with h | h
  · exact .inl (sqT_same e h)
  · exact .inr (sqL_same e h)
end
end MB
end
section
set_option maxRecDepth 100000
set_option maxHeartbeats 4000000
namespace MB
open PySem PySem.Spec PyProof.Rows L2 LamX
def noT (H : Hp) : Hp := fun b => match H b with
  | some (.tbl _) => none
  | o => o
section
variable {H H' : Hp}
theorem noT_sub : Same (noT H) H := fun b u e => by
  unfold noT at e
  split at e
  · cases e
  · exact e
theorem noT_some {b : Addr} {o : HO} (h : H b = some o) (n : ∀ ps, o ≠ .tbl ps) : noT H b = some o := by
  unfold noT
  split
  · rename_i ps e
    rw [h] at e
    exact absurd (Option.some.inj e) (n ps)
  · exact h
theorem noT_at {b : Addr} {o : HO} (h : noT H b = some o) : ∀ ps, o ≠ .tbl ps := fun ps z => by
  subst z
  have e := noT_sub _ _ h
  unfold noT at h
  rw [e] at h
  cases h
theorem extN_noT (e : ExtN H H') : Same (noT H) (noT H') := fun b o h => noT_some (e b o (noT_sub _ _ h) (noT_at h)) (noT_at h)
theorem same_extN (e : Same H H') : ExtN H H' := .of e
theorem same_noT (e : Same H H') : Same (noT H) (noT H') := extN_noT (.of e)
theorem noT_none {p : Addr} (h : H p = none) : noT H p = none := by
  unfold noT
  rw [h]
theorem sqT_noT {K : PySem.W.Frag} {a : Addr} {xs : List V} (h : SqT K H a xs) : SqT K (noT H) a xs := by
  rcases h with (h | ⟨o, h⟩) | h
  · exact .inl (.inl (noT_some h (by intro ps z; cases z)))
  · exact .inl (.inr ⟨o, noT_some h (by intro ps z; cases z)⟩)
  · exact .inr h
theorem sqL_noT {K : PySem.W.Frag} {a : Addr} {xs : List V} (h : SqL K H a xs) : SqL K (noT H) a xs := by
  rcases h with (h | ⟨o, h⟩) | h
  · exact .inl (.inl (noT_some h (by intro ps z; cases z)))
  · exact .inl (.inr ⟨o, noT_some h (by intro ps z; cases z)⟩)
  · exact .inr h
mutual
theorem Dq.noT {K : PySem.W.Frag} : ∀ (d : PyData) (v : V), Dq K H v d → Dq K (noT H) v d
  | .none, _, h => by cases h; exact .non
  | .bool b, _, h => by cases h; exact .bl b
  | .int i, _, h => by cases h; exact .int i
  | .str x, _, h => by cases h; exact .str x
  | .list ds, _, h => by
    cases h with
    | lst h1 h2 => exact .lst (sqL_noT h1) (DqAll.noT ds _ h2)
  | .tuple ds, _, h => by
    cases h with
    | tup h1 h2 => exact .tup (sqT_noT h1) (DqAll.noT ds _ h2)
  | .dict ds, _, h => by
    cases h with
    | dic h1 h2 => exact .dic (noT_some h1 (by intro ps z; cases z)) (DqKv.noT ds _ h2)
theorem DqAll.noT {K : PySem.W.Frag} : ∀ (ds : List PyData) (vs : List V), DqAll K H vs ds → DqAll K (noT H) vs ds
  | [], _, h => by cases h; exact .nil
  | d :: ds, _, h => by
    cases h with
    | cons h1 h2 => exact .cons (Dq.noT d _ h1) (DqAll.noT ds _ h2)
theorem DqKv.noT {K : PySem.W.Frag} : ∀ (ds : List (PyData × PyData)) (kvs : List (Key × V)), DqKv K H kvs ds → DqKv K (noT H) kvs ds
  | [], _, h => by cases h; exact .nil
  | (_, d) :: ds, _, h => by
    cases h with
    | cons h1 h2 => exact .cons (Dq.noT d _ h1) (DqKv.noT ds _ h2)
end
theorem Dq.extN {K : PySem.W.Frag} {d : PyData} {v : V} (e : ExtN H H') (h : Dq K H v d) : Dq K H' v d := Dq.same noT_sub _ _ (Dq.same (extN_noT e) _ _ (Dq.noT _ _ h))
theorem SqT.extN {K : PySem.W.Frag} {a : Addr} {xs : List V} (e : ExtN H H') (h : SqT K H a xs) : SqT K H' a xs := sqT_same noT_sub (sqT_same (extN_noT e) (sqT_noT h))
theorem SqL.extN {K : PySem.W.Frag} {a : Addr} {xs : List V} (e : ExtN H H') (h : SqL K H a xs) : SqL K H' a xs := sqL_same noT_sub (sqL_same (extN_noT e) (sqL_noT h))
end
structure FunL (K : PySem.W.Frag) (x qual : Str) (st : Stmt) (f : Addr) (fd : FuncData) (c : Addr) : Prop where
  ex : ∃ (oc : Value) (od : Option Addr) (kV doc pm : Value) (an : Option Addr) (ct : Value) (osl : Array (Option Value)),
    fd = PySem.W.fnOf x qual (defArgs st) (defBody st) (defScope st) .none kV doc pm an (.ref c) ct ∧ K.lookup f = some ⟨oc, od, .func fd, osl⟩ ∧ PySem.W.codeIn K (.ref c) qual = true
  kp : PySem.W.keepIn K (.ref f) = true
theorem FunL.bindsL {K : PySem.W.Frag} {x qual : Str} {st : Stmt} {f c : Addr} {fd : FuncData} {ps : List Str} (F : FunL K x qual st f fd c)
    (h : ∀ (kV doc pm : Value) (an : Option Addr) (cdv ct : Value) (us : List Value), us.length = ps.length → bindArgs (PySem.W.fnOf x qual (defArgs st) (defBody st) (defScope st) .none kV doc pm an cdv ct) ⟨us, []⟩ = pure (ps.zip us)) : L2.Binds K fd ps [] := by
  obtain ⟨oc, od, kV, doc, pm, an, ct, osl, rfl, lk, hcd⟩ := F.ex
  exact .all (h kV doc pm an (.ref c) ct)
theorem funL_mk {K : PySem.W.Frag} {x qual : Str} {st : Stmt} {f c : Addr} {oc : Value} {od an : Option Addr} {osl : Array (Option Value)} {kV doc pm ct : Value} (l : K.lookup f = some ⟨oc, od, .func (PySem.W.fnOf x qual (defArgs st) (defBody st) (defScope st) .none kV doc pm an (.ref c) ct), osl⟩)
    (cd : PySem.W.codeIn K (.ref c) qual = true) (k : PySem.W.keepIn K (.ref f) = true) : FunL K x qual st f (PySem.W.fnOf x qual (defArgs st) (defBody st) (defScope st) .none kV doc pm an (.ref c) ct) c := ⟨⟨oc, od, kV, doc, pm, an, ct, osl, rfl, l, cd⟩, k⟩
section
variable {P : Program} {w : World} {K : PySem.W.Frag} {mg : Str → Option Value} {base : Heap}
variable {k : Nat} {f : Addr} {fd : FuncData} {ps : List Str} {sp : Sp}
theorem fnGL {x qual : Str} {st : Stmt} {N : List Str} {c : Addr} (F : FunL K x qual st f fd c)
    (S : FnScope N ps (defScope st)) (many : ∀ xs H Q E, sp xs H Q E → xs.length = ps.length)
    (body : ∀ (A : Around) (outer : List Env) (s : Shared) (H : Hp) (xs : List V)
      (Q : VK) (E : XK),
      Room k (A.deeper (envOfC qual (defScope st) s.heap.objs.size f (.ref c))) → A.guards = some [] →
      sp xs H Q E → ∃ t, PSs (cxOf L2.CX0 P w K mg base N qual (defScope st) f (.ref c) A outer s H E).nox (defBody st) t ∧
        t { nx := fun _ H' => Q .non H', rt := Q } (L2.start N xs) H) :
    FnG P w K mg base (k + 1) f fd ps sp := by
  obtain ⟨oc, od, kV, doc, pm, an, ct, osl, efd, lk, hcd⟩ := F.ex
  refine ⟨many, fun A outer s H args us xs Q E hr hgu e0 hb r hsp => ?_⟩
  subst efd
  have hlen := many _ _ _ _ hsp
  have KX : K.In s.heap := e0.mod.kin.keeps fun b o e => (e0.bs b o e).1
  have lim : s.heap.NoLimit := e0.mod.nolimit.keeps fun b o e => (e0.bs b o e).1
  have kinds : ∀ y ∈ ps.zip us, (defScope st).names.lookup y.1 = some .local ∨
      ((defScope st).names.lookup y.1 = some .cell ∧
        ((cellsFrom (s.heap.objs.size + 1) (defScope st).names []).lookup y.1).isSome = true) := by
    rintro ⟨n, v⟩ hy
    rcases S.par n (List.of_mem_zip hy).1 with q | q
    · exact Or.inl q
    · exact Or.inr ⟨q, PySem.W.cellsFrom_some _ _ _ (Or.inl q)⟩
  refine codeAny_call_function hr.depth (KX _ _ lk) rfl S.co S.gen rfl
    (PySem.W.codeRec_of KX hcd) (hb _ _ _ _ ?_)
  refine wpAny_newFunctionEnv_cells S.kind kinds fun env he s1 x => ?_
  subst he
  refine ⟨lim.keeps x.toInCall.keep, codeAny_func ?_⟩
  obtain ⟨t, ht, hq⟩ := body A outer s H xs Q E (hr.deeper _) hgu hsp
  have I : Inv (cxOf L2.CX0 P w K mg base N qual (defScope st) f (.ref c) A outer s H E) [] (L2.start N xs) H s1 :=
    inv_start S hr.hd e0 hlen r x
  refine wpAny_mono (ht.nox.run [] s1 (L2.start N xs) H _ I hq) (fun fl s' hs => ?_) fun e s' hs => hs
  cases fl with
  | ret u =>
    obtain ⟨v, σ', H', J, rv, q⟩ := hs
    exact ⟨v, H', J.os, J.bare, J.base, J.hok, rv, q⟩
  | next =>
    obtain ⟨σ', H', J, q⟩ := hs
    exact ⟨V.non, H', J.os, J.bare, J.base, J.hok, rfl, q⟩
  | brk =>
    obtain ⟨_, _, _, q⟩ := hs
    exact False.elim q
  | cont =>
    obtain ⟨_, _, _, q⟩ := hs
    exact False.elim q
end
def tDeed (n : Nat) (f c' : Addr) (q : Str) (tl : XK → Hp → VK → Prop) (W : WX) : TE := fun σ H Q =>
  ∃ E : XK, (∀ cls d σ' H', E cls d H' → σ'.length = n → W cls d σ' H') ∧ σ[0]? = some (some (.ref f)) ∧ H c' = some (CodeO c' q) ∧ tl E H Q
theorem Takes.len {X : Cx} {W : WX} (tk : L2.Takes X W) : L2.Takes X (fun cls d σ H => σ.length = X.N.length → W cls d σ H) :=
  fun u s' ⟨a, B, sI, pins, σ, H, cls, d, e, I, nb, up, sky, na, os, ag, w⟩ => tk u s' ⟨a, B, sI, pins, σ, H, cls, d, e, I, nb, up, sky, na, os, ag, w I.len⟩
theorem pe_deed {Z : Cx} (n : Nat) {a q : Str} {f c' : Addr} {tl : XK → Hp → VK → Prop} {p1 p2 : Pos} {W : WX}
    (act : ∀ (W : WX) (E : XK) (p1 p2 : Pos), L2.Takes Z W → (∀ cls d σ' H', E cls d H' → W cls d σ' H') →
      PE Z (.Call (.Name a p1) [] [] p2) (fun σZ HZ Q => σZ[0]? = some (some (.ref f)) ∧ HZ c' = some (CodeO c' q) ∧ tl E HZ Q)) (tk : L2.Takes Z W) (hn : Z.N.length = n := by rfl) :
    PE Z (.Call (.Name a p1) [] [] p2) (tDeed n f c' q tl W) := by
  subst hn
  refine ⟨fun pins s σ H Q I h => ?_⟩
  obtain ⟨E, hW, h1, h2, h3⟩ := h
  refine (act (fun cls d σ H => σ.length = Z.N.length → W cls d σ H) E p1 p2 (Takes.len tk) (fun cls d σ' H' e l => hW cls d σ' H' e l)).run pins s σ H Q I ⟨h1, h2, h3⟩
section
variable {X : Cx}
theorem pe_tell {T : List (Addr × Str)} {TT : (XK → Hp → VK → Prop) → Hp → VK → Prop} {x a : Str} {g c P : Addr} {k : Nat} {st : Stmt} {fd : FuncData} {Ng : List Str}
    {params : Arguments} {body : Expr} {scope : Scope} {t : XK → TE} {p lpos pos : Pos} (F : Fun X.K x x st g fd) (hb : L2.Binds X.K fd [a] []) (hg : Gl X x) (hm : X.mg x = some (.ref g))
    (Sg : FnScope Ng [a] (defScope st)) (hNg : Ng[0]? = some a) (hva : Vis (defScope st) a)
    (hG : ∀ cdv, GivesTo X Ng x (defScope st) g cdv (defBody st) a (X.env.qual ++ "<lambda>") TT)
    (TB : TabB X.base X.mg c P) (hcode : X.env.code = .ref c) (hmT : (P, X.env.qual ++ "<lambda>") ∈ T) (hu : ∀ p ∈ T, p.1 = P → p.2 = X.env.qual ++ "<lambda>") (hr : Room (k + 2) X.A) (L : LamS X.env.scope scope) (hdef : defaultsOf params X.env = ([], []))
    (hbind : ∀ (q : Str) (cl : List (Str × Addr)) (pm cv ctv : Value), bindArgs (PySem.W.kla_fn "<lambda>" q params body scope cl pm cv ctv) ⟨[], []⟩ = pure [])
    (hbody : ∀ (A : Around) (outer : List Env) (s : Shared) (H : Hp) (E : XK) (f c' : Addr), Room k (A.deeper (lamEnv X scope s.heap.objs.size f c')) → PE (lamCx X A outer s H E scope f c') body (t E))
    (hdb : (x == ("__debug__" : Str)) = false := by decide) (hd : (a == ("__debug__" : Str)) = false := by decide) (hcd : (a == ("__classdict__" : Str)) = false := by decide) :
    PE X (.Call (.Name x p) [.Lambda params body scope lpos] [] pos) (tLam T TT t) := by
  obtain ⟨oc, od, kV, doc, pm, an, cdv, ct, osl, rfl, lk, hcg⟩ := F.ex
  exact pe_lamcall hg hm F.kp lk hcg hb Sg hNg hva (hG cdv) TB hcode hmT hu hr L hdef hbind hbody hdb hd hcd
end
end MB
end
section
set_option maxRecDepth 100000
namespace MB
open PySem PySem.Spec PyProof.Rows L2
def TD (K : PySem.W.Frag) (d l : Addr) (H0 : Hp) (σ : L2.St) (t : TE) (dd : PyData) : Prop :=
  ∀ H Q, Same H0 H → (∀ v H', Same H H' → Dq K (hide d l H') v dd → Q v H') → t σ H Q
def TDs (K : PySem.W.Frag) (d l : Addr) (H0 : Hp) (σ : L2.St) (t : TA) (ds : List PyData) : Prop :=
  ∀ H Q, Same H0 H → (∀ vs H', Same H H' → DqAll K (hide d l H') vs ds → Q vs H') → t σ H Q
def TL (K : PySem.W.Frag) (d l : Addr) (H0 : Hp) (σ : L2.St) (t : TE) (ds : List PyData) : Prop :=
  ∀ H Q, Same H0 H → (∀ a xs H', Same H H' → a ≠ d → a ≠ l → H' a = some (.lst xs) → DqAll K (hide d l H') xs ds → Q (.ref a) H') → t σ H Q
theorem DqAll.app {K : PySem.W.Frag} {H : Hp} : ∀ {xs ys : List V} {ds es : List PyData}, DqAll K H xs ds → DqAll K H ys es → DqAll K H (xs ++ ys) (ds ++ es)
  | _, _, _, _, .nil, h => h
  | _, _, _, _, .cons h1 h2, h => .cons h1 (h2.app h)
theorem DqAll.drop {K : PySem.W.Frag} {H : Hp} : ∀ {xs : List V} {ds : List PyData} (n : Nat), DqAll K H xs ds → DqAll K H (xs.drop n) (ds.drop n)
  | _, _, 0, h => h
  | _, _, _ + 1, .nil => .nil
  | _, _, n + 1, .cons _ h2 => h2.drop n
theorem DqAll.take {K : PySem.W.Frag} {H : Hp} : ∀ {xs : List V} {ds : List PyData} (n : Nat), DqAll K H xs ds → DqAll K H (xs.take n) (ds.take n)
  | _, _, 0, _ => .nil
  | _, _, _ + 1, .nil => .nil
  | _, _, n + 1, .cons h1 h2 => .cons h1 (h2.take n)
theorem DqAll.rev {K : PySem.W.Frag} {H : Hp} : ∀ {xs : List V} {ds : List PyData}, DqAll K H xs ds → DqAll K H xs.reverse ds.reverse
  | _, _, .nil => .nil
  | _, _, .cons h1 h2 => by
    rw [List.reverse_cons, List.reverse_cons]
    exact h2.rev.app (.cons h1 .nil)
theorem DqAll.rep {K : PySem.W.Frag} {H : Hp} {xs : List V} {ds : List PyData} (h : DqAll K H xs ds) : ∀ n : Nat, DqAll K H (List.replicate n xs).flatten (List.replicate n ds).flatten
  | 0 => .nil
  | n + 1 => by
    rw [List.replicate_succ, List.replicate_succ, List.flatten_cons, List.flatten_cons]
    exact h.app (h.rep n)
theorem DqAll.mem {K : PySem.W.Frag} {H : Hp} : ∀ {xs : List V} {ds : List PyData} {x : V}, DqAll K H xs ds → x ∈ xs → ∃ dd ∈ ds, Dq K H x dd
  | _, _, _, .nil, hx => by cases hx
  | _, _, _, .cons h1 h2, hx => by
    rcases List.mem_cons.mp hx with rfl | hx
    · exact ⟨_, List.mem_cons_self, h1⟩
    · obtain ⟨dd, m, q⟩ := h2.mem hx
      exact ⟨dd, List.mem_cons_of_mem _ m, q⟩
theorem DqAll.at {K : PySem.W.Frag} {H : Hp} : ∀ {xs : List V} {ds : List PyData} {i : Nat} {dd : PyData}, DqAll K H xs ds → ds[i]? = some dd → ∃ x, xs[i]? = some x ∧ Dq K H x dd
  | _, _, _, _, .nil, e => by simp at e
  | _, _, 0, _, .cons h1 _, e => by
    obtain rfl := Option.some.inj e
    exact ⟨_, rfl, h1⟩
  | _, _, i + 1, _, .cons _ h2, e => h2.at (i := i) e
theorem same_upd' {H : Hp} {p : Addr} {o : HO} (h : H p = none) : Same H (upd H p o) := fun b u e => by
  rw [upd_ne (ne_of_none e h)]
  exact e
def cutD (ds : List PyData) (lo hi : Option Int) : List PyData := (ds.drop (HT.sIx ds.length 0 lo)).take (HT.sIx ds.length ds.length hi - HT.sIx ds.length 0 lo)
theorem DqAll.cut {K : PySem.W.Frag} {H : Hp} {xs : List V} {ds : List PyData} (h : DqAll K H xs ds) (lo hi : Option Int) : DqAll K H (cutV xs lo hi) (cutD ds lo hi) := by
  unfold cutV cutD
  rw [h.length]
  exact (h.drop _).take _
section
variable {K : PySem.W.Frag} {d l : Addr} {H0 : Hp} {σ : L2.St} {kL : Str}
theorem tds_nil : TDs K d l H0 σ tNil [] := fun H Q _ q => q [] H (Same.refl _) .nil
theorem tds_cons {t : TE} {ts : TA} {dd : PyData} {ds : List PyData} (h : TD K d l H0 σ t dd) (hs : TDs K d l H0 σ ts ds) : TDs K d l H0 σ (tCons t ts) (dd :: ds) :=
  fun H Q s q => h H _ s fun v H1 s1 hv => hs H1 _ (s.trans s1) fun vs H2 s2 hvs => q (v :: vs) H2 (s1.trans s2) (.cons (Dq.same (same_hide s2) _ _ hv) hvs)
theorem td_pure {t : TE} {v : V} {dd : PyData} (h : ∀ H Q, Q v H → t σ H Q) (hd : ∀ H, Dq K H v dd) : TD K d l H0 σ t dd :=
  fun H Q _ q => h H Q (q v H (Same.refl _) (hd _))
theorem td_none : TD K d l H0 σ (tC .non) .none := td_pure (fun _ _ q => q) fun _ => .non
theorem td_bool {b : Bool} : TD K d l H0 σ (tC (.bl b)) (.bool b) := td_pure (fun _ _ q => q) fun _ => .bl b
theorem td_int {i : Int} : TD K d l H0 σ (tC (.int i)) (.int i) := td_pure (fun _ _ q => q) fun _ => .int i
theorem td_str {x : Str} : TD K d l H0 σ (tC (.str x)) (.str x) := td_pure (fun _ _ q => q) fun _ => .str x
theorem td_pow {i j : Int} (h : CPow i j) : TD K d l H0 σ (tOp (rI CPow fun i j => .int (i ^ j.toNat)) (tC (.int i)) (tC (.int j))) (.int (i ^ j.toNat)) :=
  td_pure (fun _ _ q => ⟨i, j, rfl, rfl, h, q⟩) fun _ => .int _
theorem td_npow {i j : Int} (h : CPow i j) : TD K d l H0 σ (tUn (rU fun i => .int (-i)) (tOp (rI CPow fun i j => .int (i ^ j.toNat)) (tC (.int i)) (tC (.int j)))) (.int (-(i ^ j.toNat))) :=
  td_pure (fun _ _ q => ⟨i, j, rfl, rfl, h, _, rfl, q⟩) fun _ => .int _
theorem td_neg {i : Int} : TD K d l H0 σ (tUn (rU fun i => .int (-i)) (tC (.int i))) (.int (-i)) := td_pure (fun _ _ q => ⟨_, rfl, q⟩) fun _ => .int _
theorem td_var {i : Nat} {v : V} {dd : PyData} (e : σ[i]? = some (some v)) (h : Dq K (hide d l H0) v dd) : TD K d l H0 σ (tVar i) dd :=
  fun H Q s q => ⟨v, e, q v H (Same.refl _) (Dq.same (same_hide s) _ _ h)⟩
variable (D : Deck kL H0 d l)
include D
theorem td_tup {ts : TA} {ds : List PyData} (h : TDs K d l H0 σ ts ds) (hl : ds.length ≤ 100000 := by decide) : TD K d l H0 σ (tTup ts) (.tuple ds) :=
  fun H Q s q => h H _ s fun vs H1 s1 hv => ⟨by rw [hv.length]; exact Nat.le_trans hl (by rw [sizeLine_eq]; decide), fun p hp => by
    have D1 := D.same (s.trans s1)
    exact q _ _ (s1.trans (same_upd' hp)) (.tup (SqT.of (D1.at_new hp)) (DqAll.same (D1.same_new hp) _ _ hv))⟩
theorem td_lst {ts : TA} {ds : List PyData} (h : TDs K d l H0 σ ts ds) (hl : ds.length ≤ 100000 := by decide) : TD K d l H0 σ (tLst ts) (.list ds) :=
  fun H Q s q => h H _ s fun vs H1 s1 hv => ⟨by rw [hv.length]; exact Nat.le_trans hl (by rw [sizeLine_eq]; decide), fun p hp => by
    have D1 := D.same (s.trans s1)
    exact q _ _ (s1.trans (same_upd' hp)) (.lst (SqL.of (D1.at_new hp)) (DqAll.same (D1.same_new hp) _ _ hv))⟩
theorem td_dict0 : TD K d l H0 σ tDNewK (.dict []) := fun H Q s q p hp => by
  have D1 := D.same s
  exact q _ _ (same_upd' hp) (.dic (D1.at_new hp) .nil)
theorem tl_lst {ts : TA} {ds : List PyData} (h : TDs K d l H0 σ ts ds) (hl : ds.length ≤ 100000 := by decide) : TL K d l H0 σ (tLst ts) ds :=
  fun H Q s q => h H _ s fun vs H1 s1 hv => ⟨by rw [hv.length]; exact Nat.le_trans hl (by rw [sizeLine_eq]; decide), fun p hp => by
    have D1 := D.same (s.trans s1)
    exact q _ vs _ (s1.trans (same_upd' hp)) (D1.off hp).1 (D1.off hp).2 upd_same (DqAll.same (D1.same_new hp) _ _ hv)⟩
end
end MB
namespace MB
open PySem PySem.Spec PyProof.Rows L2
section
variable {K : PySem.W.Frag} {d l : Addr} {H0 : Hp} {σ : L2.St} {kL : Str}
theorem tl_var {i : Nat} {a : Addr} {xs : List V} {ds : List PyData} (e : σ[i]? = some (some (.ref a))) (h1 : a ≠ d) (h2 : a ≠ l) (hx : H0 a = some (.lst xs)) (h : DqAll K (hide d l H0) xs ds) : TL K d l H0 σ (tVar i) ds :=
  fun H Q s q => ⟨_, e, q a xs H (Same.refl _) h1 h2 (s _ _ hx) (DqAll.same (same_hide s) _ _ h)⟩
variable (D : Deck kL H0 d l)
include D
theorem tl_cat {ta tb : TE} {ds es : List PyData} (ha : TL K d l H0 σ ta ds) (hb : TL K d l H0 σ tb es) (hl : ds.length + es.length ≤ 100000 := by decide) : TL K d l H0 σ (tOp rCat ta tb) (ds ++ es) :=
  fun H Q s q => ha H _ s fun a xs H1 s1 a1 a2 hx hxs => hb H1 _ (s.trans s1) fun b ys H2 s2 b1 b2 hy hys => by
    refine ⟨a, b, xs, ys, rfl, rfl, s2 _ _ hx, hy, by rw [hxs.length, hys.length]; exact Nat.le_trans hl (by rw [sizeLine_eq]; decide), fun p hp => ?_⟩
    have D2 := D.same ((s.trans s1).trans s2)
    refine q p _ _ ((s1.trans s2).trans (same_upd' hp)) (D2.off hp).1 (D2.off hp).2 upd_same (DqAll.same (D2.same_new hp) _ _ ?_)
    exact DqAll.app (DqAll.same (same_hide s2) _ _ hxs) hys
theorem tl_rep {ta : TE} {ds : List PyData} {k : Int} (ha : TL K d l H0 σ ta ds) (h0 : 0 ≤ k := by decide) (hk : k ≤ 1000 := by decide) (hl : ds.length * k.toNat ≤ 100000 := by decide) :
    TL K d l H0 σ (tOp rRep ta (tC (.int k))) (List.replicate k.toNat ds).flatten :=
  fun H Q s q => ha H _ s fun a xs H1 s1 a1 a2 hx hxs => by
    refine ⟨a, k, xs, rfl, rfl, hx, by omega, by omega, by rw [hxs.length]; exact Nat.le_trans hl (by rw [sizeLine_eq]; decide), fun p hp => ?_⟩
    have D1 := D.same (s.trans s1)
    exact q p _ _ (s1.trans (same_upd' hp)) (D1.off hp).1 (D1.off hp).2 upd_same (DqAll.same (D1.same_new hp) _ _ (hxs.rep _))
theorem td_dict1 {k : Str} {i j : Int} : TD K d l H0 σ (tDisp [(tC (.str k), tTup (tCons (tC (.int i)) (tCons (tC (.int j)) tNil)))]) (.dict [(.str k, .tuple [.int i, .int j])]) := fun H Q s q p hp => by
  refine ⟨by rw [sizeLine_eq]; exact (by decide : 2 ≤ 16777216), fun t ht => ?_⟩
  have D1 := D.same s
  have h1 : (upd H p (.dK [])) p = some (.dK []) := upd_same
  have htp : t ≠ p := (ne_of_none h1 ht).symm
  have htH : H t = none := by
    rw [upd_ne htp] at ht
    exact ht
  refine ⟨(upd_ne htp.symm).trans h1, [(.inr k, .ref t)], rfl, (by decide : 1 ≤ 15), ?_⟩
  have e0 : Same H (upd (upd (upd H p (.dK [])) t (.tup [.int i, .int j])) p (.dK (mergeK [] [(.inr k, .ref t)]))) := fun b u z => by
    rw [upd_ne (ne_of_none z hp), upd_ne (ne_of_none z htH), upd_ne (ne_of_none z hp)]
    exact z
  refine q _ _ e0 (.dic (kvs := [(.inr k, .ref t)]) ?_ (.cons (k := .inr k) (.tup (xs := [.int i, .int j]) (SqT.of ?_) (.cons (.int i) (.cons (.int j) .nil))) .nil))
  · rw [hide_off (D1.off hp).1 (D1.off hp).2, upd_same]
    rfl
  · rw [hide_off (D1.off htH).1 (D1.off htH).2, upd_ne htp, upd_same]
theorem td_listOf {t : TE} {ds : List PyData} (h : TD K d l H0 σ t (.tuple ds)) :
    TD K d l H0 σ (tCB (fun xs H Q => ∃ p ys, xs = [V.ref p] ∧ (SqL K H p ys ∨ SqT K H p ys) ∧ ∀ l : Addr, H l = none → Q (V.ref l) (upd H l (.lst ys))) (tCons t tNil)) (.list ds) :=
  fun H Q s q => h H _ s fun v H1 s1 hv => by
    cases hv with
    | @tup a xs _ h1 h2 =>
      refine ⟨a, xs, rfl, .inr (sqT_same hide_sub h1), fun p hp => ?_⟩
      have D1 := D.same (s.trans s1)
      exact q _ _ (s1.trans (same_upd' hp)) (.lst (SqL.of (D1.at_new hp)) (DqAll.same (D1.same_new hp) _ _ h2))
theorem td_catT {ta tb : TE} {ds es : List PyData} (ha : TD K d l H0 σ ta (.tuple ds)) (hb : TD K d l H0 σ tb (.tuple es)) (hl : ds.length + es.length ≤ 100000) :
    TD K d l H0 σ (tOp (rCatA K) ta tb) (.tuple (ds ++ es)) :=
  fun H Q s q => ha H _ s fun v H1 s1 hv => hb H1 _ (s.trans s1) fun u H2 s2 hu => by
    cases hv with
    | @tup a xs _ h1 h2 =>
      cases hu with
      | @tup b ys _ h3 h4 =>
        have h1' := sqT_same (same_hide s2) h1
        have h2' := DqAll.same (same_hide s2) _ _ h2
        refine ⟨a, b, xs, ys, rfl, rfl, sqT_same hide_sub h1', sqT_same hide_sub h3, by rw [h2.length, h4.length]; exact Nat.le_trans hl (by rw [sizeLine_eq]; decide), ?_, ?_, ?_⟩
        · intro z
          subst z
          cases h2
          exact q _ _ (s1.trans s2) (.tup h3 h4)
        · intro _ z
          subst z
          cases h4
          exact q _ _ (s1.trans s2) (.tup h1' (by rw [List.append_nil]; exact h2'))
        · intro _ _ p hp
          have D2 := D.same ((s.trans s1).trans s2)
          exact q _ _ ((s1.trans s2).trans (same_upd' hp)) (.tup (SqT.of (D2.at_new hp)) (DqAll.same (D2.same_new hp) _ _ (h2'.app h4)))
theorem td_slice {t : TE} {ds : List PyData} {tl th : TO} {lo hi : Option Int} (h : TD K d l H0 σ t (.tuple ds)) (hlo : ∀ H Q, Q lo H → tl σ H Q) (hhi : ∀ H Q, Q hi H → th σ H Q) :
    TD K d l H0 σ (L2.tSl (rSlA K) t tl th) (.tuple (cutD ds lo hi)) :=
  fun H Q s q => h H _ s fun v H1 s1 hv => hlo H1 _ (hhi H1 _ (by
    cases hv with
    | @tup a xs _ h1 h2 =>
      refine ⟨a, xs, rfl, sqT_same hide_sub h1, fun hw => ?_, fun hw p hp => ?_⟩
      · have e : cutV xs lo hi = xs := by
          unfold cutV
          rw [hw.1, hw.2, List.drop_zero, Nat.sub_zero, List.take_length]
        have z := h2.cut lo hi
        rw [e] at z
        exact q _ _ s1 (.tup h1 z)
      · have D1 := D.same (s.trans s1)
        exact q _ _ (s1.trans (same_upd' hp)) (.tup (SqT.of (D1.at_new hp)) (DqAll.same (D1.same_new hp) _ _ (h2.cut lo hi)))))
theorem td_revT {t : TE} {ds : List PyData} (h : TD K d l H0 σ t (.tuple ds)) : TD K d l H0 σ (tRevT K t) (.tuple ds.reverse) :=
  fun H Q s q => h H _ s fun v H1 s1 hv => by
    cases hv with
    | @tup a xs _ h1 h2 =>
      refine ⟨a, xs, rfl, sqT_same hide_sub h1, fun p hp => ?_⟩
      have D1 := D.same (s.trans s1)
      exact q _ _ (s1.trans (same_upd' hp)) (.tup (SqT.of (D1.at_new hp)) (DqAll.same (D1.same_new hp) _ _ h2.rev))
end
theorem asg_tl {K : PySem.W.Frag} {d l : Addr} {H0 : Hp} {σ : L2.St} {te : TE} {ds : List PyData} {i : Nat} {D : Ends} {H : Hp} (h : TL K d l H0 σ te ds) (s : Same H0 H)
    (k : ∀ a xs H', Same H H' → a ≠ d → a ≠ l → H' a = some (.lst xs) → DqAll K (hide d l H') xs ds → D.nx (σ.set i (some (.ref a))) H') : tAsg te (gName i) D σ H :=
  h H _ s fun a xs H' s1 h1 h2 hx hq => k a xs H' s1 h1 h2 hx hq
theorem seq_tl {K : PySem.W.Frag} {d l : Addr} {H0 : Hp} {σ : L2.St} {te : TE} {ds : List PyData} {i : Nat} {rest : TS} {D : Ends} {H : Hp} (h : TL K d l H0 σ te ds) (s : Same H0 H)
    (k : ∀ a xs H', Same H H' → a ≠ d → a ≠ l → H' a = some (.lst xs) → DqAll K (hide d l H') xs ds → rest D (σ.set i (some (.ref a))) H') : tSeq (tAsg te (gName i)) rest D σ H :=
  h H _ s fun a xs H' s1 h1 h2 hx hq => k a xs H' s1 h1 h2 hx hq
theorem to_no {σ : L2.St} : ∀ H (Q : Option Int → Hp → Prop), Q none H → tNoPart σ H Q := fun _ _ q => q
theorem to_int {σ : L2.St} {i : Int} : ∀ H (Q : Option Int → Hp → Prop), Q (some i) H → tPart (tC (.int i)) σ H Q := fun _ _ q => ⟨i, rfl, q⟩
theorem to_neg {σ : L2.St} {i : Int} : ∀ H (Q : Option Int → Hp → Prop), Q (some (-i)) H → tPart (tUn (rU fun i => .int (-i)) (tC (.int i))) σ H Q := fun _ _ q => ⟨i, rfl, _, rfl, q⟩
end MB
end
section
set_option maxRecDepth 100000
namespace MB
open PySem PySem.Spec PyProof.Rows L2
structure Sz (b k : Nat) (dd : PyData) : Prop where
  sh : dd.showable = true
  lv : dd.leavesShort 60 = true
  bu : dd.bulk ≤ b
  de : dd.depth ≤ k
theorem Sz.told {b k : Nat} {dd : PyData} (h : Sz b k dd) (hb : b ≤ 200000 := by decide) (hk : k ≤ 40 := by decide) : Told dd := ⟨h.sh, h.lv, Nat.le_trans h.bu hb, Nat.le_trans h.de hk⟩
theorem Sz.mono {b k b' k' : Nat} {dd : PyData} (h : Sz b k dd) (hb : b ≤ b' := by decide) (hk : k ≤ k' := by decide) : Sz b' k' dd := ⟨h.sh, h.lv, Nat.le_trans h.bu hb, Nat.le_trans h.de hk⟩
structure SzAll (b k : Nat) (ds : List PyData) : Prop where
  sh : PyData.showableAll ds = true
  lv : PyData.leavesShortAll 60 ds = true
  bu : PyData.bulkAll ds ≤ b
  de : PyData.depthAll ds ≤ k
theorem szAll_nil {b k : Nat} : SzAll b k [] := ⟨rfl, rfl, Nat.zero_le _, Nat.zero_le _⟩
theorem szAll_cons {b b' k : Nat} {dd : PyData} {ds : List PyData} (h : Sz b k dd) (hs : SzAll b' k ds) : SzAll (b + 1 + b') k (dd :: ds) where
  sh := by
    simp only [PyData.showableAll, Bool.and_eq_true]
    exact ⟨h.sh, hs.sh⟩
  lv := by
    simp only [PyData.leavesShortAll, Bool.and_eq_true]
    exact ⟨h.lv, hs.lv⟩
  bu := by
    simp only [PyData.bulkAll]
    have := h.bu
    have := hs.bu
    omega
  de := by
    simp only [PyData.depthAll]
    exact Nat.max_le.mpr ⟨h.de, hs.de⟩
theorem sz_tup {b k : Nat} {ds : List PyData} (h : SzAll b k ds) : Sz b (k + 1) (.tuple ds) where
  sh := by simpa only [PyData.showable] using h.sh
  lv := by simpa only [PyData.leavesShort] using h.lv
  bu := by simpa only [PyData.bulk] using h.bu
  de := by
    simp only [PyData.depth]
    exact Nat.succ_le_succ h.de
theorem sz_lst {b k : Nat} {ds : List PyData} (h : SzAll b k ds) : Sz b (k + 1) (.list ds) where
  sh := by simpa only [PyData.showable] using h.sh
  lv := by simpa only [PyData.leavesShort] using h.lv
  bu := by simpa only [PyData.bulk] using h.bu
  de := by
    simp only [PyData.depth]
    exact Nat.succ_le_succ h.de
theorem sz_none {b k : Nat} : Sz b k .none := ⟨rfl, rfl, Nat.zero_le _, Nat.zero_le _⟩
theorem sz_bool {b k : Nat} {x : Bool} : Sz b k (.bool x) := ⟨rfl, rfl, Nat.zero_le _, Nat.zero_le _⟩
theorem sz_int {b k : Nat} {i : Int} (h : i.natAbs < 10 ^ 42) : Sz b k (.int i) where
  sh := by
    simp only [PyData.showable, decide_eq_true_eq]
    rcases Nat.eq_zero_or_pos i.natAbs with z | z
    · rw [z]
      decide
    · have h2 : i.natAbs < 2 ^ 140 := Nat.lt_trans h (by decide)
      have := (Nat.log2_lt (by omega)).mpr h2
      omega
  lv := by
    simp only [PyData.leavesShort, decide_eq_true_eq]
    have e := int_text_length_le10 (k := 42) (by decide) h
    show (Str.ofString (toString i)).length ≤ 60
    rw [PySem.ofString_length]
    omega
  bu := Nat.zero_le _
  de := Nat.zero_le _
theorem szAll_ints {k : Nat} : ∀ (ns : List Int), (∀ c ∈ ns, c.natAbs < 10 ^ 42) → SzAll ns.length k (ns.map PyData.int)
  | [], _ => szAll_nil
  | c :: r, h => by
    have z := szAll_cons (b := 0) (k := k) (sz_int (h c List.mem_cons_self)) (szAll_ints (k := k) r fun x hx => h x (List.mem_cons_of_mem _ hx))
    rw [List.map_cons, List.length_cons]
    have e : 0 + 1 + r.length = r.length + 1 := by omega
    rw [e] at z
    exact z
theorem SzAll.mono {b k b' k' : Nat} {ds : List PyData} (h : SzAll b k ds) (hb : b ≤ b') (hk : k ≤ k') : SzAll b' k' ds := ⟨h.sh, h.lv, Nat.le_trans h.bu hb, Nat.le_trans h.de hk⟩
theorem showableAll_app : ∀ ds es : List PyData, PyData.showableAll (ds ++ es) = (PyData.showableAll ds && PyData.showableAll es)
  | [], es => by simp only [List.nil_append, PyData.showableAll, Bool.true_and]
  | d :: r, es => by simp only [List.cons_append, PyData.showableAll, showableAll_app r es, Bool.and_assoc]
theorem leavesAll_app (B : Nat) : ∀ ds es : List PyData, PyData.leavesShortAll B (ds ++ es) = (PyData.leavesShortAll B ds && PyData.leavesShortAll B es)
  | [], es => by simp only [List.nil_append, PyData.leavesShortAll, Bool.true_and]
  | d :: r, es => by simp only [List.cons_append, PyData.leavesShortAll, leavesAll_app B r es, Bool.and_assoc]
theorem bulkAll_app : ∀ ds es : List PyData, PyData.bulkAll (ds ++ es) = PyData.bulkAll ds + PyData.bulkAll es
  | [], es => by simp only [List.nil_append, PyData.bulkAll, Nat.zero_add]
  | d :: r, es => by
    simp only [List.cons_append, PyData.bulkAll, bulkAll_app r es]
    omega
theorem depthAll_app : ∀ ds es : List PyData, PyData.depthAll (ds ++ es) = max (PyData.depthAll ds) (PyData.depthAll es)
  | [], es => by simp only [List.nil_append, PyData.depthAll, Nat.zero_max]
  | d :: r, es => by simp only [List.cons_append, PyData.depthAll, depthAll_app r es, Nat.max_assoc]
theorem szAll_app {b b' k : Nat} {ds es : List PyData} (h : SzAll b k ds) (g : SzAll b' k es) : SzAll (b + b') k (ds ++ es) where
  sh := by rw [showableAll_app, h.sh, g.sh]; rfl
  lv := by rw [leavesAll_app, h.lv, g.lv]; rfl
  bu := by
    rw [bulkAll_app]
    exact Nat.add_le_add h.bu g.bu
  de := by
    rw [depthAll_app]
    exact Nat.max_le.mpr ⟨h.de, g.de⟩
theorem cps_small (s : String) : (Str.ofString s).cps.toList.all (fun c => decide (c < 16 ^ 8)) = true := by
  rw [Str.ofString_eq_toList]
  show ((s.toList.map Char.toNat).toArray.toList).all _ = true
  rw [List.all_eq_true]
  intro c hc
  obtain ⟨ch, _, rfl⟩ := List.mem_map.mp (show c ∈ s.toList.map Char.toNat from hc)
  have h1 : ch.toNat < 0x110000 := by
    have := ch.valid
    have h2 : ch.val.toNat < 0x110000 := by
      rcases this with h | ⟨_, h⟩ <;> omega
    exact h2
  have e : (16 : Nat) ^ 8 = 4294967296 := by decide
  exact decide_eq_true (by omega)
theorem sz_text {b k : Nat} {s : String} (h : s.length ≤ b) : Sz b k (.str (Str.ofString s)) where
  sh := rfl
  lv := by
    simp only [PyData.leavesShort]
    exact cps_small s
  bu := by
    simp only [PyData.bulk]
    show (Str.ofString s).length ≤ b
    rw [PySem.ofString_length]
    exact h
  de := Nat.zero_le _
end MB
end
section
set_option maxRecDepth 100000
namespace MB
open PySem PySem.Spec PyProof.Rows L2 LamX
def newer (H H' : Hp) : Hp := fun b => match H b with
  | some _ => none
  | none => H' b
section
variable {H H0 H1 H' H2 : Hp} {d l p : Addr} {kL : Str} {K : PySem.W.Frag}
theorem newer_at {b : Addr} (h : H b = none) : newer H H' b = H' b := by
  unfold newer
  rw [h]
theorem newer_some {b : Addr} {o : HO} (h : newer H H' b = some o) : H b = none ∧ H' b = some o := by
  unfold newer at h
  split at h
  · cases h
  · rename_i e
    exact ⟨e, h⟩
theorem newer_sub : Same (newer H H') H' := fun b u e => (newer_some e).2
theorem newer_mono (f : ∀ p, H1 p = none → H0 p = none) : Same (newer H1 H') (newer H0 H') := fun b u e => by
  obtain ⟨e1, e2⟩ := newer_some e
  rw [newer_at (f b e1)]
  exact e2
theorem newer_step (k : ∀ b o, H b = none → H' b = some o → H2 b = some o) : Same (newer H H') (newer H H2) := fun b u e => by
  obtain ⟨e1, e2⟩ := newer_some e
  rw [newer_at e1]
  exact k b u e1 e2
theorem Deck.there (D : Deck kL H d l) : H d ≠ none ∧ H l ≠ none := by
  obtain ⟨m, n, cs, h1, h2, _⟩ := D.ex
  rw [h1, h2]
  exact ⟨(by intro z; cases z), (by intro z; cases z)⟩
theorem newer_but (D : Deck kL H d l) (e : But d l H' H2) : Same (newer H H') (newer H H2) := newer_step fun b o h1 h2 => e b o h2 (fun z => D.there.1 (z ▸ h1)) (fun z => D.there.2 (z ▸ h1))
theorem Deck.extN (D : Deck kL H d l) (e : ExtN H H') : Deck kL H' d l := by
  obtain ⟨m, n, cs, h1, h2, h3⟩ := D.ex
  exact ⟨m, n, cs, e _ _ h1 (by intro ps z; cases z), e _ _ h2 (by intro ps z; cases z), h3⟩
theorem codeO_form {c : Addr} {q : Str} : (∀ kvs, CodeO c q ≠ .dK kvs) ∧ ∀ xs, CodeO c q ≠ .lst xs := by
  unfold CodeO
  exact ⟨fun _ z => (by cases z), fun _ z => (by cases z)⟩
theorem tabs_but {T : List (Addr × Str)} (D : Deck kL H d l) (e : But d l H H') (t : Tabs T H) : Tabs T H' := fun p hp => by
  obtain ⟨m, n, cs, h1, h2, _⟩ := D.ex
  obtain ⟨ps, a1, a2, a3⟩ := t p hp
  refine ⟨ps, e _ _ a1 (ne_of a1 h1 (by intro z; cases z)) (ne_of a1 h2 (by intro z; cases z)), a2, fun pos cv hc => ?_⟩
  obtain ⟨c, e1, e2⟩ := a3 pos cv hc
  exact ⟨c, e1, e _ _ e2 (ne_of e2 h1 (codeO_form.1 _)) (ne_of e2 h2 (codeO_form.2 _))⟩
theorem tabs_same {T : List (Addr × Str)} (e : Same H H') (t : Tabs T H) : Tabs T H' := t.ext e
end
theorem mono_told {d : PyData} {b k : Nat} (h : Sz b k d) (hb : b ≤ 200000) (hk : k ≤ 40) : Told d := h.told hb hk
theorem sz_dict2 {b k : Nat} {s : String} {i j : Int} {x : PyData} (h : Sz b k x) (hs : s.length ≤ 20) (hi : i.natAbs < 10 ^ 42) (hj : j.natAbs < 10 ^ 42) : Sz (b + 30) (k + 1) (.dict [(.str (Str.ofString s), x), (.int i, .int j)]) where
  sh := by
    have a := (sz_int (b := 0) (k := 0) hi).sh
    have c := (sz_int (b := 0) (k := 0) hj).sh
    simp only [PyData.showable, PyData.showableKv, Bool.and_true, Bool.true_and] at a c ⊢
    rw [h.sh, a, c]
    rfl
  lv := by
    have a := (sz_int (b := 0) (k := 0) hi).lv
    have c := (sz_int (b := 0) (k := 0) hj).lv
    have t := (sz_text (k := 0) hs).lv
    simp only [PyData.leavesShort, PyData.leavesShortKv, Bool.and_true] at a c t ⊢
    rw [h.lv, a, c, t]
    rfl
  bu := by
    have t := (sz_text (k := 0) hs).bu
    have := h.bu
    simp only [PyData.bulk, PyData.bulkKv] at t ⊢
    omega
  de := by
    have := h.de
    simp only [PyData.depth, PyData.depthKv]
    omega
end MB
end
section
set_option maxRecDepth 100000
set_option maxHeartbeats 4000000
namespace MB
open PySem PySem.Spec PyProof.Rows L2
def rIsD (K : PySem.W.Frag) (D : Addr) (cls : Value) (d : Option Addr) (a : Addr) : List V → Hp → VK → Prop := fun xs H Q => ∃ (c : V) (cv : Value) (b : Bool) (dd : Addr) (fs : List (Str × V)), xs = [.ref a, c] ∧ (∀ u, RelV c u → u = cv) ∧ cls = .ref D ∧ d = some dd ∧ H dd = some (.xd fs) ∧ PySem.W.kitOne K (.ref D) cv = some b ∧ Q (.bl b) H
theorem call_isD {X : Cx} {a D : Addr} {cls : Value} {d : Option Addr} {oe : Obj} {pn : List (Addr × Obj)} (C : ExcC X.K D) (hz : Zc cls d oe) (hf : ∃ vs, oe.data = .fields vs) : CallR (X.suite a ((a, oe) :: pn)) (.builtin "isinstance") (rIsD X.K D cls d a) := by
  intro pins s σ H xs us Q I r h
  obtain ⟨c, cv, b, dd, fs, rfl, hcv, ec, ed, hx, e, q⟩ := h
  cases r with
  | cons rx rr =>
    cases rr with
    | cons rt rr =>
      cases rr
      cases rx
      have ec2 := hcv _ rt
      subst ec2
      subst ec
      subst ed
      obtain ⟨hget, _⟩ := I.pin (a, oe) (List.mem_append.mpr (.inl List.mem_cons_self))
      obtain ⟨vs, hv⟩ := hf
      have hx' : ObjOk X.prog X.w H s.heap dd (.xd fs) := I.hok dd _ hx
      obtain ⟨mA, hns, hr⟩ := hx'
      obtain ⟨od, ho, hl⟩ := lookIn_ns hns
      have J : PySem.W.InstAt s.heap a oe D (some od) := ⟨hget, hz.1, by unfold PySem.W.notCls; rw [hv] <;> rfl, by rw [hz.2]; exact ho⟩
      have hcl : (PySem.W.clsIn X.K D).isSome = true := by
        have h := C.hd
        unfold PySem.W.hasDictIn at h
        cases hc : PySem.W.clsIn X.K D with
        | none => rw [hc] at h; cases h
        | some _ => rfl
      exact PySem.W.kia_one (PySem.W.kitx_exc hcl C.hg C.hk C.hs C.ha C.hn C.ht C.hm) I.kIn J e (fun z => nomatch z) fun tk => ⟨.bl b, H, I.kept (t' := tk) fun _ _ z => z, rfl, q⟩
theorem Un.past {fs fs' : List Addr} {H H1 H2 : Hp} {h h1 h2 : Heap} (a : L2.Un fs [] H H1 h h1) (b : L2.Un fs' [] H1 H2 h1 h2) (hs : ∀ c ∈ fs', c ∈ fs ∨ h.objs.size ≤ c) : L2.Un fs [] H H2 h h2 where
  keep := fun c ob q n hc hx => b.keep c ob (a.keep c ob q n hc hx) (a.free c ob q n hx) (fun z => (hs c z).elim hc fun z2 => absurd (Heap.lt_size q) (Nat.not_lt_of_le z2)) hx
  slot := fun c ob q n hc hx => by
    obtain ⟨sl, e1⟩ := a.slot c ob q n hc hx
    obtain ⟨sl', e2⟩ := b.any e1 (a.free c ob q n hx) hx
    exact ⟨sl', e2⟩
  free := fun c ob q n hx => by
    obtain ⟨o', e1⟩ := a.there c ob q hx
    exact b.free c o' e1 (a.free c ob q n hx) hx
  there := fun c ob q hx => by
    obtain ⟨o', e1⟩ := a.there c ob q hx
    exact b.there c o' e1 hx
  tups := fun c xs q => b.tups c xs (a.tups c xs q)
  frzs := fun c ob xs q => b.frzs c ob xs (a.frzs c ob xs q)
  tbls := fun c ps q => by
    obtain ⟨m1, e1⟩ := a.tbls c ps q
    obtain ⟨m2, e2⟩ := b.tbls c _ e1
    exact ⟨m1 ++ m2, by rw [e2, Array.append_assoc]⟩
open LamX hiding takes0
section
variable {X : Cx} {pins : List (Addr × Obj)} {σ : L2.St} {H HZ : Hp} {s s1 : Shared}
theorem pe_act2 {CXg : CXT} {Eg : XK} {Ng : List Str} {qg : Str} {sg : Scope} {g f c' : Addr} {cdg pm ctv : Value} {params : Arguments} {body : Expr} {scope : Scope} {k i : Nat} {a : Str} {pn : List (Addr × Obj)} {xe : Value → Shared → Prop} {W : WX} {E : XK} {tb : TE} {p1 p2 : Pos}
    {A2 : Around} {st2 : List Env} {s2 : Shared} {H2 : Hp} (un2 : L2.Un (frs X.stack) [] H H2 s.heap s2.heap) (hst : ∀ c ∈ frs st2, c ∈ frs X.stack ∨ s.heap.objs.size ≤ c)
    (I : Inv X pins σ H s) (L : LamS X.env.scope scope) (hf : s.heap.get? f = some (PySem.W.kla_obj "<lambda>" (X.env.qual ++ "<lambda>") params body scope (cloFrom X.env.cells scope.names []) pm c' ctv)) (hfn : H f = none) (hfr : f ∉ frs X.stack)
    (hbind : bindArgs (PySem.W.kla_fn "<lambda>" (X.env.qual ++ "<lambda>") params body scope (cloFrom X.env.cells scope.names []) pm (.ref c') ctv) ⟨[], []⟩ = pure [])
    (tk : Takes ((cxOf CXg X.prog X.w X.K X.mg X.base Ng qg sg g cdg A2 st2 s2 H2 Eg).tr pn xe) W) (hW : ∀ cls d σ' H', E cls d H' → W cls d σ' H') (hr : Room (k + 1) (A2.deeper (envOfC qg sg s2.heap.objs.size g cdg)))
    (hbody : ∀ (A : Around) (outer : List Env) (s : Shared) (H : Hp), Room k (A.deeper (lamEnv X scope s.heap.objs.size f c')) → PE (lamCx X A outer s H E scope f c') body tb)
    (hN : Ng[i]? = some a) (hv : Vis sg a) (hd : (a == ("__debug__" : Str)) = false := by decide) (hcd : (a == ("__classdict__" : Str)) = false := by decide) :
    PE ((cxOf CXg X.prog X.w X.K X.mg X.base Ng qg sg g cdg A2 st2 s2 H2 Eg).tr pn xe) (.Call (.Name a p1) [] [] p2)
      (fun σZ HZ Q => σZ[i]? = some (some (.ref f)) ∧ HZ c' = some (CodeO c' (X.env.qual ++ "<lambda>")) ∧ tb σ HZ Q) := by
  refine ⟨fun pinsZ sZ σZ HZ Q IZ h => ?_⟩
  obtain ⟨hs, hc, ht⟩ := h
  refine wpAny_Call_Name_kw (thn ((pe_var (pos := p1) (i := i) hN hv hd hcd).run pinsZ sZ σZ HZ (fun v H1 => v = .ref f ∧ H1 = HZ) IZ ⟨.ref f, hs, rfl, rfl⟩) fun u s1 ⟨v, H1, I1, r1, q1⟩ => ?_)
  obtain ⟨ev, eH⟩ := q1
  subst ev
  rw [eH] at I1
  obtain rfl : u = Value.ref f := r1
  have unZ : L2.Un (frs st2) [] H2 HZ s2.heap s1.heap := I1.base
  have un : L2.Un (frs X.stack) [] H HZ s.heap s1.heap := Un.past un2 unZ hst
  have of1 : s1.heap.get? f = some (PySem.W.kla_obj "<lambda>" (X.env.qual ++ "<lambda>") params body scope (cloFrom X.env.cells scope.names []) pm c' ctv) := un.keep f _ hf hfn hfr (fun z => nomatch (show f ∈ ([] : List Addr) from z))
  refine PySem.W.callWith_F0 ⟨_, _, _, _, of1⟩ ?_
  obtain ⟨⟨oc, vs, t, hoc, hdc, hvc⟩, _, _⟩ := I1.hok c' _ hc
  have rc : codeAny (model X.prog X.w) (A2.deeper (envOfC qg sg s2.heap.objs.size g cdg)) (.call (.ref f) ⟨[], []⟩) (CR (L2.CX X.prog X.w) (envOfC qg sg s2.heap.objs.size g cdg :: st2) X.prog X.w HZ s1 Q E) s1 := by
    refine PySem.W.kla_callFunE hr.depth of1 rfl L.co L.gen rfl ⟨c', oc, vs, t, rfl, hoc, hdc, hvc⟩ ?_
    rw [hbind]
    refine wpAny_pure (wpAny_newFunctionEnv (fun y hy => (L.own y hy).2) (fun y hy => absurd hy (by simp)) (fun h₁ hns hsb => ⟨I1.nolimit.fresh _ hsb, ?_⟩) L.kind)
    show codeAny _ _ (.expr body (lamEnv X scope s1.heap.objs.size f c')) _ _
    have kp : ∀ b o, s1.heap.get? b = some o → h₁.get? b = some o := fun b o e => hsb.extBut b o (Nat.ne_of_lt (Heap.lt_size e)) (Heap.get?_push_of_some _ e)
    have J : Inv (lamCx X (A2.deeper (envOfC qg sg s2.heap.objs.size g cdg)) (envOfC qg sg s2.heap.objs.size g cdg :: st2) s1 HZ E scope f c') [] σ HZ { s1 with heap := h₁, toks := s1.toks + ([] : List (Str × Value)).length } :=
      lam_start2 I L I1.env0 hr.hd un hns kp
    refine PySem.W.kla_codeExpr (wpAny_mono ((hbody _ _ s1 HZ (hr.deeper _)).run [] _ _ HZ Q J ht) (fun v s' hq => ?_) fun e s' hq => hq)
    obtain ⟨w', H', J', rv, q⟩ := hq
    exact ⟨w', H', J'.os, J'.bare, J'.base, J'.hok, rv, q⟩
  have hx : Passes (L2.CX X.prog X.w) ((cxOf CXg X.prog X.w X.K X.mg X.base Ng qg sg g cdg A2 st2 s2 H2 Eg).tr pn xe) E := passes_call tk hW
  refine wpAny_call (codeAny_mono rc fun r s' hq => ?_)
  cases r with
  | error e => exact hx pinsZ σZ HZ s1 e s' I1 hq
  | ok fl =>
    cases fl with
    | ret u => exact I1.after hq
    | next => exact False.elim hq
    | brk => exact False.elim hq
    | cont => exact False.elim hq
end
def GivesTo3 (X : Cx) (Ng : List Str) (x : Str) (sg : Scope) (g : Addr) (cdg : Value) (bg : List Stmt) (b a : Str) (q : Str) (TT : (XK → Hp → VK → Prop) → Hp → VK → Prop) (T3 : V → V → (Hp → VK → Prop) → Hp → VK → Prop) : Prop :=
  ∀ (f c' : Addr) (s : Shared) (H : Hp) (Q : VK) (v1 v2 : V) (tl : XK → Hp → VK → Prop), Room 1 (cxOf C8.CX0 X.prog X.w X.K X.mg X.base Ng x sg g cdg X.A X.stack s H C8.E0).A →
    (∀ (p1 p2 p3 : Pos), PE (cxOf C8.CX0 X.prog X.w X.K X.mg X.base Ng x sg g cdg X.A X.stack s H C8.E0).nox (.Call (.Name b p1) [.Name a p2] [] p3) (fun σZ HZ Q => σZ[2]? = some (some (.ref f)) ∧ HZ c' = some (CodeO c' q) ∧ TT tl HZ Q)) →
    H c' = some (CodeO c' q) → T3 v1 v2 (TT tl) H Q →
    ∃ t, PSs (cxOf C8.CX0 X.prog X.w X.K X.mg X.base Ng x sg g cdg X.A X.stack s H C8.E0).nox bg t ∧ t { nx := fun _ H' => Q .non H', rt := Q } (L2.start Ng [v1, v2, .ref f]) H
def tLam3 (T : List (Addr × Str)) (TT : (XK → Hp → VK → Prop) → Hp → VK → Prop) (T3 : V → V → (Hp → VK → Prop) → Hp → VK → Prop) (te1 te2 : TE) (t : XK → TE) : TE := fun σ H Q =>
  te1 σ H fun v1 H1 => te2 σ H1 fun v2 H2 => Tabs T H2 ∧ ∀ H3, ExtN H2 H3 → Tabs T H3 → T3 v1 v2 (TT fun E H' Q' => t E σ H' Q') H3 Q
section
variable {X : Cx}
theorem pe_tell3 {T : List (Addr × Str)} {TT : (XK → Hp → VK → Prop) → Hp → VK → Prop} {T3 : V → V → (Hp → VK → Prop) → Hp → VK → Prop} {x a a1 a2 b ab : Str} {g h c P : Addr} {k : Nat} {st sth : Stmt} {fd fdh : FuncData} {Ng Nh : List Str}
    {e1 e2 : Expr} {te1 te2 : TE} {params : Arguments} {body : Expr} {scope : Scope} {t : XK → TE} {p lpos pos : Pos} (F : Fun X.K x x st g fd) (hb : L2.Binds X.K fd [a1, a2, a] []) (hg : Gl X x) (hm : X.mg x = some (.ref g))
    (Sg : FnScope Ng [a1, a2, a] (defScope st)) (hNg : Ng[2]? = some a) (hva : Vis (defScope st) a)
    (Fh : Fun X.K b b sth h fdh) (hbh : L2.Binds X.K fdh [ab] []) (hgh : (defScope st).names.lookup b = some .globalImplicit) (hmh : X.mg b = some (.ref h)) (Sh : FnScope Nh [ab] (defScope sth)) (hNh : Nh[0]? = some ab) (hvh : Vis (defScope sth) ab)
    (hGh : ∀ (cdg cdh : Value) (s : Shared) (H : Hp), GivesTo (cxOf C8.CX0 X.prog X.w X.K X.mg X.base Ng x (defScope st) g cdg X.A X.stack s H C8.E0).nox Nh b (defScope sth) h cdh (defBody sth) ab (X.env.qual ++ "<lambda>") TT)
    (hG : ∀ cdg, GivesTo3 X Ng x (defScope st) g cdg (defBody st) b a (X.env.qual ++ "<lambda>") TT T3)
    (he1 : PE X e1 te1) (he2 : PE X e2 te2)
    (TB : TabB X.base X.mg c P) (hcode : X.env.code = .ref c) (hmT : (P, X.env.qual ++ "<lambda>") ∈ T) (hu : ∀ p ∈ T, p.1 = P → p.2 = X.env.qual ++ "<lambda>") (hr : Room (k + 4) X.A) (L : LamS X.env.scope scope) (hdef : defaultsOf params X.env = ([], []))
    (hbind : ∀ (q : Str) (cl : List (Str × Addr)) (pm cv ctv : Value), bindArgs (PySem.W.kla_fn "<lambda>" q params body scope cl pm cv ctv) ⟨[], []⟩ = pure [])
    (hbody : ∀ (A : Around) (outer : List Env) (s : Shared) (H : Hp) (E : XK) (f c' : Addr), Room k (A.deeper (lamEnv X scope s.heap.objs.size f c')) → PE (lamCx X A outer s H E scope f c') body (t E))
    (hs : starEach [e1, e2, .Lambda params body scope lpos] X.env = [(false, eval e1 X.env), (false, eval e2 X.env), (false, eval (.Lambda params body scope lpos) X.env)] := by rfl) (hs2 : starEach [e2, .Lambda params body scope lpos] X.env = [(false, eval e2 X.env), (false, eval (.Lambda params body scope lpos) X.env)] := by rfl)
    (hdb : (x == ("__debug__" : Str)) = false := by decide) (hdbb : (b == ("__debug__" : Str)) = false := by decide) (hd : (a == ("__debug__" : Str)) = false := by decide) (hcd : (a == ("__classdict__" : Str)) = false := by decide) (hd' : (ab == ("__debug__" : Str)) = false := by decide) (hcd' : (ab == ("__classdict__" : Str)) = false := by decide) :
    PE X (.Call (.Name x p) [e1, e2, .Lambda params body scope lpos] [] pos) (tLam3 T TT T3 te1 te2 t) := by
  obtain ⟨oc, od, kV, doc, pm, an, cdg, ct, osl, rfl, lk, hcg⟩ := F.ex
  obtain ⟨och, odh, kVh, doch, pmh, anh, cdh, cth, oslh, rfl, lkh, hch⟩ := Fh.ex
  refine ⟨fun pins s σ H Q I hq => ?_⟩
  refine wpAny_Call_Name_kw (ld_glob I hg hm ?_ hdb)
  refine PySem.W.callWith_K (h₀ := X.base) I.ok.mod.kin F.kp ?_ (by rw [hs, hs2]) (by rw [hs2]; rfl)
  rw [hs]
  show wpAny _ _ (spliced [(false, eval e1 X.env), (false, eval e2 X.env), (false, eval (.Lambda params body scope lpos) X.env)]) _ _ s
  refine Calls.spliced_cons (thn (he1.run pins s σ H _ I hq) fun u1 s1 ⟨v1, H1, I1, r1, q1⟩ => ?_)
  refine Calls.spliced_cons (thn (he2.run pins s1 σ H1 _ I1 q1) fun u2 s2 ⟨v2, H2, I2, r2, ⟨hT, q2⟩⟩ => ?_)
  refine Calls.spliced_cons (lam_make2 I2 TB hcode hmT hu hT hdef (L.has I2.ok) fun f c' pm' ctv H3 s3 I3 eN T3' hf hfn hfr hco => ?_)
  refine Calls.spliced_nil ⟨I3.kIn, ?_⟩
  have rc : codeAny (model X.prog X.w) X.A (.call (.ref g) ⟨[u1, u2, .ref f], []⟩) (CR C8.CX0 X.stack X.prog X.w H3 s3 Q C8.E0) s3 := by
    refine run_ofS (N := Ng) (ps := [a1, a2, a]) (us := [u1, u2, .ref f]) (vs := [v1, v2, .ref f]) lk hcg Sg (hr.mono (by omega) : Room (k + 3 + 1) X.A) I3.env0 (hb s3 [u1, u2, .ref f] I3.kIn rfl) (.cons r1 (.cons r2 (.cons rfl .nil))) rfl fun hr' => ?_
    have pass : ∀ (p1 p2 p3 : Pos), PE (cxOf C8.CX0 X.prog X.w X.K X.mg X.base Ng x (defScope st) g cdg X.A X.stack s3 H3 C8.E0).nox (.Call (.Name b p1) [.Name a p2] [] p3)
        (fun σZ HZ Q => σZ[2]? = some (some (.ref f)) ∧ HZ c' = some (CodeO c' (X.env.qual ++ "<lambda>")) ∧ TT (fun E H' Q' => t E σ H' Q') HZ Q) := by
      intro p1 p2 p3
      refine ⟨fun pinsZ sZ σZ HZ QZ IZ hz => ?_⟩
      obtain ⟨hs0, hc, ht⟩ := hz
      have glb : Gl (cxOf C8.CX0 X.prog X.w X.K X.mg X.base Ng x (defScope st) g cdg X.A X.stack s3 H3 C8.E0).nox b := hgh
      refine wpAny_Call_Name_kw (ld_glob IZ glb hmh ?_ hdbb)
      refine PySem.W.callWith_K (h₀ := X.base) IZ.ok.mod.kin Fh.kp ?_ (by rfl) (by rfl)
      show wpAny _ _ (spliced [(false, eval (.Name a p2) _)]) _ _ sZ
      refine Calls.spliced_cons (thn ((pe_var (pos := p2) (i := 2) hNg hva hd hcd).run pinsZ sZ σZ HZ (fun v H1 => v = .ref f ∧ H1 = HZ) IZ ⟨.ref f, hs0, rfl, rfl⟩) fun u s4 ⟨v, H4, I4, r4, q4⟩ => ?_)
      obtain ⟨ev, eH⟩ := q4
      subst ev
      rw [eH] at I4
      obtain rfl : u = Value.ref f := r4
      refine Calls.spliced_nil ⟨I4.kIn, ?_⟩
      have un2 : L2.Un (frs X.stack) [] H3 HZ s3.heap s4.heap := I4.base
      have hst : ∀ c ∈ frs (envOfC x (defScope st) s3.heap.objs.size g cdg :: X.stack), c ∈ frs X.stack ∨ s3.heap.objs.size ≤ c := fun c hc => by
        unfold frs at hc
        rw [List.filterMap_cons] at hc
        split at hc
        · exact .inl hc
        · rename_i L0 hL0
          rcases List.mem_cons.mp hc with rfl | hc
          · have e : (envOfC x (defScope st) s3.heap.objs.size g cdg).frame = some s3.heap.objs.size := rfl
            rw [e] at hL0
            cases hL0
            exact .inr (Nat.le_refl _)
          · exact .inl hc
      have rch : codeAny (model X.prog X.w) (X.A.deeper (envOfC x (defScope st) s3.heap.objs.size g cdg)) (.call (.ref h) ⟨[.ref f], []⟩) (CR C8.CX0 (envOfC x (defScope st) s3.heap.objs.size g cdg :: X.stack) X.prog X.w HZ s4 QZ C8.E0) s4 := by
        refine run_ofS (N := Nh) (ps := [ab]) (us := [.ref f]) (vs := [.ref f]) lkh hch Sh (hr'.mono (by omega) : Room (k + 2 + 1) _) I4.env0 (hbh s4 [.ref f] I4.kIn rfl) (.cons rfl .nil) rfl fun hr2 => ?_
        have act : ∀ (W : WX) (pn : List (Addr × Obj)) (xe : Value → Shared → Prop) (E : XK) (p1 p2 : Pos), Takes ((cxOf C8.CX0 X.prog X.w X.K X.mg X.base Nh b (defScope sth) h cdh (X.A.deeper (envOfC x (defScope st) s3.heap.objs.size g cdg)) (envOfC x (defScope st) s3.heap.objs.size g cdg :: X.stack) s4 HZ C8.E0).tr pn xe) W → (∀ cls d σ' H', E cls d H' → W cls d σ' H') →
            PE ((cxOf C8.CX0 X.prog X.w X.K X.mg X.base Nh b (defScope sth) h cdh (X.A.deeper (envOfC x (defScope st) s3.heap.objs.size g cdg)) (envOfC x (defScope st) s3.heap.objs.size g cdg :: X.stack) s4 HZ C8.E0).tr pn xe) (.Call (.Name ab p1) [] [] p2) (fun σZ HZ Q => σZ[0]? = some (some (.ref f)) ∧ HZ c' = some (CodeO c' (X.env.qual ++ "<lambda>")) ∧ t E σ HZ Q) := fun W pn xe E p1 p2 tk hW =>
          pe_act2 (X := X) (CXg := C8.CX0) (Eg := C8.E0) (A2 := X.A.deeper (envOfC x (defScope st) s3.heap.objs.size g cdg)) (st2 := envOfC x (defScope st) s3.heap.objs.size g cdg :: X.stack) (s2 := s4) (H2 := HZ) (Ng := Nh) (qg := b) (sg := defScope sth) (g := h) (cdg := cdh) (i := 0) (k := k) (tb := t E) un2 hst I3 L hf hfn hfr (hbind _ _ _ _ _) tk hW (hr2.mono (by omega) : Room (k + 1) _) (fun A outer s H hr3 => hbody A outer s H E f c' hr3) hNh hvh hd' hcd'
        obtain ⟨t', ht', hq'⟩ := hGh cdg cdh s3 H3 f c' s4 HZ QZ (fun E H' Q' => t E σ H' Q') act hc ht
        exact ⟨t', ht'.nox, hq'⟩
      refine wpAny_call (codeAny_mono rch fun r s5 hq => ?_)
      cases r with
      | error e => exact (show False from hq).elim
      | ok fl =>
        cases fl with
        | ret u => exact I4.after hq
        | next => exact False.elim hq
        | brk => exact False.elim hq
        | cont => exact False.elim hq
    obtain ⟨t', ht', hq'⟩ := hG cdg f c' s3 H3 Q v1 v2 (fun E H' Q' => t E σ H' Q') (hr'.mono (by omega)) pass hco (q2 H3 eN T3')
    exact ⟨t', ht'.nox, hq'⟩
  refine wpAny_call (codeAny_mono rc fun r s5 hq => ?_)
  cases r with
  | error e => exact (show False from hq).elim
  | ok fl =>
    cases fl with
    | ret u => exact I3.after hq
    | next => exact False.elim hq
    | brk => exact False.elim hq
    | cont => exact False.elim hq
end
theorem pe_callG0 {X : Cx} {k : Nat} {f : Addr} {fd : FuncData} {sp : Sp} {x : Str} {p pos : Pos} (F : FnG X.prog X.w X.K X.mg X.base k f fd [] sp) (hr : Room k X.A) (hgu : X.A.guards = some [])
    (hg : Gl X x) (hm : X.mg x = some (.ref f)) (hk : PySem.W.keepIn X.K (.ref f) = true) (hb : L2.Binds X.K fd [] []) (hdb : (x == ("__debug__" : Str)) = false := by decide) :
    PE X (.Call (.Name x p) [] [] pos) (fun _ H Q => sp [] H Q E0) := by
  refine ⟨fun pins s σ H Q I h => ?_⟩
  refine wpAny_Call_Name_kw (ld_glob I hg hm ?_ hdb)
  refine PySem.W.callWith_K0 I.kIn hk ?_
  have bb := hb s [] I.kIn rfl
  exact runG F hr hgu bb I .nil h
theorem FnOk.quiet {P : Program} {w : World} {K : PySem.W.Frag} {mg : Str → Option Value} {base : Heap} {k : Nat} {f : Addr} {fd : FuncData} {ps : List Str} {sp : Sp} (F : FnOk P w K mg base (L2.CX P w) k f fd ps sp) :
    FnOk P w K mg base L2.CX0 k f fd ps (fun vs H Q _ => sp vs H Q fun _ _ _ => False) where
  len := fun vs H Q E h => F.len vs H Q _ h
  run := fun A outer s H args us vs Q E hr e0 hb r h => by
    refine codeAny_mono (F.run A outer s H args us vs Q (fun _ _ _ => False) hr e0 hb r h) fun r' s' hq => ?_
    cases r' with
    | error e =>
      obtain ⟨_, _, _, _, _, _, _, _, _, _, _, _, z⟩ := (show L2.CX P w outer H s (fun _ _ _ => False) e s' from hq)
      exact z.elim
    | ok fl => cases fl <;> exact hq
end MB
end
section
set_option maxRecDepth 100000
namespace MB
open PySem PySem.Builtin PySem.Builtin.Str
def Sig (x : Str) : Prop := ∀ c ∈ x.cps.toList, c < 16 ^ 8
theorem sig_app {x y : Str} (h : Sig x) (g : Sig y) : Sig (x ++ y) := fun c hc => by
  have e : (x ++ y).cps.toList = x.cps.toList ++ y.cps.toList := by
    show (x.cps ++ y.cps).toList = _
    exact Array.toList_append
  rw [e] at hc
  rcases List.mem_append.mp hc with z | z
  · exact h c z
  · exact g c z
theorem char_small (ch : Char) : ch.toNat < 16 ^ 8 := by
  have := ch.valid
  have h2 : ch.val.toNat < 0x110000 := by
    rcases this with h | ⟨_, h⟩ <;> omega
  have e : (16 : Nat) ^ 8 = 4294967296 := by decide
  rw [e]
  show ch.val.toNat < _
  omega
theorem sig_of (s : String) : Sig (Str.ofString s) := fun c hc => by
  rw [Str.ofString_eq_toList] at hc
  obtain ⟨ch, _, rfl⟩ := List.mem_map.mp (show c ∈ s.toList.map Char.toNat from hc)
  exact char_small ch
theorem sig_join {sep : Str} (hs : Sig sep) : ∀ (ts : List Str), (∀ t ∈ ts, Sig t) → Sig (Str.join sep ts)
  | [], _ => sig_of ""
  | [t], h => by
    have := h t List.mem_cons_self
    first | exact this | simpa [Str.join] using this
  | t :: u :: r, h => by
    have ih := sig_join hs (u :: r) fun x hx => h x (List.mem_cons_of_mem _ hx)
    have e : Str.join sep (t :: u :: r) = t ++ sep ++ Str.join sep (u :: r) := by
      first | exact StrLaws.join_cons .. | rfl | simp [Str.join, Str.append_assoc]
    rw [e]
    exact sig_app (sig_app (h t List.mem_cons_self) hs) ih
theorem sig_char {q c : Nat} (hc : c < 16 ^ 8) : ∀ d ∈ reprChar q c, d < 16 ^ 8 := by
  have e : (16 : Nat) ^ 8 = 4294967296 := by decide
  have hx : ∀ w : Nat, ∀ d ∈ (List.replicate (w - ((Nat.toDigits 16 c).map Char.toNat).length) 48 ++ (Nat.toDigits 16 c).map Char.toNat), d < 16 ^ 8 := fun w d hd => by
    rcases List.mem_append.mp hd with z | z
    · rw [List.eq_of_mem_replicate z, e]
      decide
    · obtain ⟨ch, _, rfl⟩ := List.mem_map.mp z
      exact char_small ch
  have two : ∀ (a b : Nat) (l : List Nat), a < 16 ^ 8 → b < 16 ^ 8 → (∀ d ∈ l, d < 16 ^ 8) → ∀ d ∈ [a, b] ++ l, d < 16 ^ 8 := fun a b l ha hb hl d hd => by
    rcases List.mem_append.mp hd with z | z
    · simp only [List.mem_cons, List.not_mem_nil, or_false] at z
      rcases z with rfl | rfl
      · exact ha
      · exact hb
    · exact hl d z
  have two' : ∀ (a b : Nat), a < 16 ^ 8 → b < 16 ^ 8 → ∀ d ∈ [a, b], d < 16 ^ 8 := fun a b ha hb d hd => two a b [] ha hb (by simp) d (by simpa using hd)
  unfold reprChar
  dsimp only
  repeat' split
  · exact two' _ _ (by rw [e]; decide) hc
  · exact two' _ _ (by rw [e]; decide) (by rw [e]; decide)
  · exact two' _ _ (by rw [e]; decide) (by rw [e]; decide)
  · exact two' _ _ (by rw [e]; decide) (by rw [e]; decide)
  · intro d hd
    rw [List.mem_singleton.mp hd]
    exact hc
  · exact two _ _ _ (by rw [e]; decide) (by rw [e]; decide) (hx 2)
  · exact two _ _ _ (by rw [e]; decide) (by rw [e]; decide) (hx 4)
  · exact two _ _ _ (by rw [e]; decide) (by rw [e]; decide) (hx 8)
theorem sig_fold (q : Nat) : ∀ (l : List Nat) (acc : Array Nat), (∀ c ∈ l, c < 16 ^ 8) → (∀ c ∈ acc.toList, c < 16 ^ 8) → ∀ c ∈ (l.foldl (fun out c => out ++ (reprChar q c).toArray) acc).toList, c < 16 ^ 8
  | [], acc, _, h => h
  | c :: r, acc, hl, h => by
    rw [List.foldl_cons]
    refine sig_fold q r _ (fun x hx => hl x (List.mem_cons_of_mem _ hx)) fun x hx => ?_
    rw [Array.toList_append] at hx
    rcases List.mem_append.mp hx with z | z
    · exact h x z
    · exact sig_char (hl c List.mem_cons_self) x z
theorem quote_small (x : Str) : reprQuote x < 16 ^ 8 := by
  have e : (16 : Nat) ^ 8 = 4294967296 := by decide
  unfold reprQuote
  rw [e]
  split <;> decide
theorem sig_repr {x : Str} (h : Sig x) : Sig (reprText x) := by
  unfold reprText
  intro c hc
  have hc' : c ∈ ((x.cps.foldl (fun out c => out ++ (reprChar (reprQuote x) c).toArray) #[reprQuote x]).push (reprQuote x)).toList := hc
  rw [Array.toList_push, ← Array.foldl_toList] at hc'
  rcases List.mem_append.mp hc' with z | z
  · refine sig_fold _ _ _ h (fun y hy => ?_) c z
    rw [List.mem_singleton.mp hy]
    exact quote_small x
  · rw [List.mem_singleton.mp z]
    exact quote_small x
mutual
theorem sig_shown (B : Nat) : ∀ d : PyData, d.leavesShort B = true → Sig d.shown
  | .none, _ => by rw [PyData.shown_none]; exact sig_of _
  | .bool b, _ => by rw [PyData.shown_bool]; cases b <;> exact sig_of _
  | .int i, _ => by rw [PyData.shown_int]; exact sig_of _
  | .str x, h => by
    rw [PyData.shown_str]
    have h' : ∀ c ∈ x.cps.toList, c < 16 ^ 8 := by simpa only [PyData.leavesShort, List.all_eq_true, decide_eq_true_eq] using h
    exact sig_repr h'
  | .list xs, h => by
    rw [PyData.shown_list]
    exact sig_app (sig_app (sig_of _) (sig_join (sig_of _) _ (sig_shownAll B xs (by simpa only [PyData.leavesShort] using h)))) (sig_of _)
  | .tuple xs, h => by
    rw [PyData.shown_tuple]
    exact sig_app (sig_app (sig_of _) (sig_join (sig_of _) _ (sig_shownAll B xs (by simpa only [PyData.leavesShort] using h)))) (sig_of _)
  | .dict kvs, h => by
    rw [PyData.shown_dict]
    exact sig_app (sig_app (sig_of _) (sig_join (sig_of _) _ (sig_shownKv B kvs (by simpa only [PyData.leavesShort] using h)))) (sig_of _)
theorem sig_shownAll (B : Nat) : ∀ ds : List PyData, PyData.leavesShortAll B ds = true → ∀ t ∈ PyData.shownAll ds, Sig t
  | [], _ => by rw [PyData.shownAll_nil]; intro t ht; cases ht
  | d :: r, h => by
    have h' : d.leavesShort B = true ∧ PyData.leavesShortAll B r = true := by simpa only [PyData.leavesShortAll, Bool.and_eq_true] using h
    rw [PyData.shownAll_cons]
    intro t ht
    rcases List.mem_cons.mp ht with rfl | z
    · exact sig_shown B d h'.1
    · exact sig_shownAll B r h'.2 t z
theorem sig_shownKv (B : Nat) : ∀ ds : List (PyData × PyData), PyData.leavesShortKv B ds = true → ∀ t ∈ PyData.shownKv ds, Sig t
  | [], _ => by rw [PyData.shownKv_nil]; intro t ht; cases ht
  | (k, v) :: r, h => by
    have h' : (k.leavesShort B = true ∧ v.leavesShort B = true) ∧ PyData.leavesShortKv B r = true := by simpa only [PyData.leavesShortKv, Bool.and_eq_true] using h
    rw [PyData.shownKv_cons]
    intro t ht
    rcases List.mem_cons.mp ht with rfl | z
    · exact sig_app (sig_app (sig_shown B k h'.1.1) (sig_of _)) (sig_shown B v h'.1.2)
    · exact sig_shownKv B r h'.2 t z
end
end MB
end
section
set_option maxRecDepth 100000
set_option maxHeartbeats 4000000
namespace MB
open PySem PySem.Spec PyProof.Rows L2
structure TellW (d : PyData) : Prop where
  sh : d.showable = true
  ft : d.shown.length ≤ sizeLine
  de : d.depth ≤ 40
theorem Told.w {d : PyData} (t : Told d) : TellW d := ⟨t.sh, t.fits, t.de⟩
def rTellW (K : PySem.W.Frag) : List V → Hp → VK → Prop := fun xs H Q => ∃ x d, xs = [x] ∧ Dq K H x d ∧ TellW d ∧ Q (.str d.shown) H
theorem call_tellW {X : Cx} (sm : SM X.base) (hgu : X.A.guards = some []) (hu : X.A.units + 64 < cLine) : CallR X (.builtin "repr") (rTellW X.K) := by
  intro pins s σ H xs us Q I r h
  obtain ⟨x, d, rfl, hd, t, q⟩ := h
  obtain ⟨u, rfl, ru⟩ := vals1 r
  have hu1 : X.A.units + 1 < cLine := by omega
  have fin : ∀ {a : Addr} {d : PyData}, Dq X.K H (.ref a) d → TellW d → (∀ s' : Shared, L2.Inv X pins σ H s' → Q (.str d.shown) H) →
      wpAny (model X.prog X.w) X.A (call (.builtin "repr") [.ref a]) (EP X pins σ Q) X.xe s := fun {a d} hd t q => by
    obtain ⟨as, rd, no⟩ := Dq.reads I sm d _ _ hd (show RelV (.ref a) (.ref a) from rfl)
    have hz := t.de
    refine repr_of_reads' rd t.sh (fun _ => no) hgu (by omega) (fun _ _ e => e) (fun h' u tk k => ?_) t.ft
    have J := I.kept (t' := tk) k
    exact ⟨.str _, H, J, ⟨_, rfl⟩, q _ J⟩
  cases hd with
  | non =>
    cases ru
    simp only [PyData.shown] at q
    exact PySem.P.repr_of_none ⟨.str _, H, I.tok _, ⟨_, rfl⟩, q⟩
  | bl b =>
    cases ru
    simp only [PyData.shown] at q
    exact PySem.P.repr_of_bool ⟨.str _, H, I.tok _, ⟨_, rfl⟩, q⟩
  | int i =>
    obtain ⟨tk, rfl⟩ := ru
    have hs := t.sh
    simp only [PyData.shown] at q
    simp only [PyData.showable, decide_eq_true_eq] at hs
    exact PySem.P.repr_of_int hs ⟨.str _, H, I.tok _, ⟨_, rfl⟩, q⟩
  | str z =>
    obtain ⟨tk, rfl⟩ := ru
    have hl := t.ft
    simp only [PyData.shown] at q hl
    exact PySem.P.repr_of_str ⟨.str _, H, I.tok _, ⟨_, rfl⟩, q⟩ hl
  | lst h1 h2 =>
    cases ru
    exact fin (.lst h1 h2) t fun _ _ => q
  | tup h1 h2 =>
    cases ru
    exact fin (.tup h1 h2) t fun _ _ => q
  | dic h1 h2 =>
    cases ru
    exact fin (.dic h1 h2) t fun _ _ => q
structure Wd (b k : Nat) (d : PyData) : Prop where
  sh : d.showable = true
  lv : d.leavesShort 600 = true
  bu : d.bulk ≤ b
  de : d.depth ≤ k
structure WdAll (b k : Nat) (ds : List PyData) : Prop where
  sh : PyData.showableAll ds = true
  lv : PyData.leavesShortAll 600 ds = true
  bu : PyData.bulkAll ds ≤ b
  de : PyData.depthAll ds ≤ k
theorem Wd.tell {b k : Nat} {d : PyData} (h : Wd b k d) (hb : b ≤ 10000) (hk : k ≤ 40) : TellW d := ⟨h.sh, by
  have h1 := PyData.shown_le_bulk 600 (by decide) d h.lv
  have h2 := h.bu
  rw [sizeLine_eq]
  omega, Nat.le_trans h.de hk⟩
theorem wdAll_nil {b k : Nat} : WdAll b k [] := ⟨rfl, rfl, Nat.zero_le _, Nat.zero_le _⟩
theorem wdAll_cons {b b' k : Nat} {d : PyData} {ds : List PyData} (h : Wd b k d) (hs : WdAll b' k ds) : WdAll (b + 1 + b') k (d :: ds) where
  sh := by
    simp only [PyData.showableAll, Bool.and_eq_true]
    exact ⟨h.sh, hs.sh⟩
  lv := by
    simp only [PyData.leavesShortAll, Bool.and_eq_true]
    exact ⟨h.lv, hs.lv⟩
  bu := by
    simp only [PyData.bulkAll]
    have := h.bu
    have := hs.bu
    omega
  de := by
    simp only [PyData.depthAll]
    exact Nat.max_le.mpr ⟨h.de, hs.de⟩
theorem wd_tup {b k : Nat} {ds : List PyData} (h : WdAll b k ds) : Wd b (k + 1) (.tuple ds) where
  sh := by simpa only [PyData.showable] using h.sh
  lv := by simpa only [PyData.leavesShort] using h.lv
  bu := by simpa only [PyData.bulk] using h.bu
  de := by
    simp only [PyData.depth]
    exact Nat.succ_le_succ h.de
theorem wd_lst {b k : Nat} {ds : List PyData} (h : WdAll b k ds) : Wd b (k + 1) (.list ds) where
  sh := by simpa only [PyData.showable] using h.sh
  lv := by simpa only [PyData.leavesShort] using h.lv
  bu := by simpa only [PyData.bulk] using h.bu
  de := by
    simp only [PyData.depth]
    exact Nat.succ_le_succ h.de
theorem wd_int {b k : Nat} {i : Int} (h : i.natAbs < 2 ^ 1900) : Wd b k (.int i) where
  sh := by
    simp only [PyData.showable, decide_eq_true_eq]
    rcases Nat.eq_zero_or_pos i.natAbs with z | z
    · rw [z]
      decide
    · have := (Nat.log2_lt (by omega)).mpr h
      omega
  lv := by
    simp only [PyData.leavesShort, decide_eq_true_eq]
    have h2 : i.natAbs < 10 ^ 599 := Nat.lt_trans h (by decide +kernel)
    have e := int_text_length_le10 (k := 599) (by decide) h2
    show (Str.ofString (toString i)).length ≤ 600
    rw [PySem.ofString_length]
    omega
  bu := Nat.zero_le _
  de := Nat.zero_le _
theorem wdAll_ints {k : Nat} : ∀ (ns : List Int), (∀ c ∈ ns, c.natAbs < 2 ^ 1900) → WdAll ns.length k (ns.map PyData.int)
  | [], _ => wdAll_nil
  | c :: r, h => by
    have z := wdAll_cons (b := 0) (k := k) (wd_int (h c List.mem_cons_self)) (wdAll_ints (k := k) r fun x hx => h x (List.mem_cons_of_mem _ hx))
    rw [List.map_cons, List.length_cons]
    have e : 0 + 1 + r.length = r.length + 1 := by omega
    rw [e] at z
    exact z
theorem WdAll.mono {b k b' k' : Nat} {ds : List PyData} (h : WdAll b k ds) (hb : b ≤ b') (hk : k ≤ k') : WdAll b' k' ds := ⟨h.sh, h.lv, Nat.le_trans h.bu hb, Nat.le_trans h.de hk⟩
theorem Wd.mono {b k b' k' : Nat} {d : PyData} (h : Wd b k d) (hb : b ≤ b') (hk : k ≤ k') : Wd b' k' d := ⟨h.sh, h.lv, Nat.le_trans h.bu hb, Nat.le_trans h.de hk⟩
theorem wd_text {b k : Nat} {s : String} (h : s.length ≤ b) : Wd b k (.str (Str.ofString s)) :=
  let z := sz_text (k := k) h
  ⟨z.sh, by simpa only [PyData.leavesShort] using z.lv, z.bu, z.de⟩
mutual
theorem lv_more : ∀ d : PyData, d.leavesShort 60 = true → d.leavesShort 600 = true
  | .none, _ => by simp only [PyData.leavesShort]
  | .bool _, _ => by simp only [PyData.leavesShort]
  | .int i, h => by
    simp only [PyData.leavesShort, decide_eq_true_eq] at h ⊢
    omega
  | .str _, h => by simpa only [PyData.leavesShort] using h
  | .list ds, h => by
    simp only [PyData.leavesShort] at h ⊢
    exact lvs_more ds h
  | .tuple ds, h => by
    simp only [PyData.leavesShort] at h ⊢
    exact lvs_more ds h
  | .dict ds, h => by
    simp only [PyData.leavesShort] at h ⊢
    exact lvk_more ds h
theorem lvs_more : ∀ ds : List PyData, PyData.leavesShortAll 60 ds = true → PyData.leavesShortAll 600 ds = true
  | [], _ => rfl
  | d :: r, h => by
    simp only [PyData.leavesShortAll, Bool.and_eq_true] at h ⊢
    exact ⟨lv_more d h.1, lvs_more r h.2⟩
theorem lvk_more : ∀ ds : List (PyData × PyData), PyData.leavesShortKv 60 ds = true → PyData.leavesShortKv 600 ds = true
  | [], _ => rfl
  | (k, v) :: r, h => by
    simp only [PyData.leavesShortKv, Bool.and_eq_true] at h ⊢
    exact ⟨⟨lv_more k h.1.1, lv_more v h.1.2⟩, lvk_more r h.2⟩
end
theorem Sz.wd {b k : Nat} {d : PyData} (h : Sz b k d) : Wd b k d := ⟨h.sh, lv_more d h.lv, h.bu, h.de⟩
end MB
end
section
set_option maxHeartbeats 1000000
namespace PM
def ev (x : Int) : List Int → Int
  | [] => 0
  | c :: r => c + x * ev x r
def nrm : List Int → Nat
  | [] => 0
  | c :: r => c.natAbs + nrm r
def isPoly (l : List Int) : Bool := l.getLast? != some 0
def trimL : List Int → List Int
  | [] => []
  | c :: r => match trimL r with
    | [] => if c = 0 then [] else [c]
    | d :: t => c :: d :: t
theorem ev_append (x : Int) (a b : List Int) : ev x (a ++ b) = ev x a + x ^ a.length * ev x b := by
  induction a with
  | nil => simp [ev]
  | cons c r ih =>
    simp only [List.cons_append, ev, List.length_cons, ih, Int.pow_succ]
    grind
theorem nrm_append (a b : List Int) : nrm (a ++ b) = nrm a + nrm b := by
  induction a with
  | nil => simp [nrm]
  | cons c r ih =>
    simp only [List.cons_append, nrm, ih]
    omega
theorem mem_nrm {l : List Int} {c : Int} (h : c ∈ l) : c.natAbs ≤ nrm l := by
  induction l with
  | nil => simp at h
  | cons d r ih =>
    rcases List.mem_cons.mp h with e | h
    · subst e
      simp only [nrm]
      omega
    · have := ih h
      simp only [nrm]
      omega
theorem ev_trimL (x : Int) (l : List Int) : ev x (trimL l) = ev x l := by
  induction l with
  | nil => rfl
  | cons c r ih =>
    simp only [trimL]
    cases h : trimL r with
    | nil =>
      rw [h] at ih
      simp only [ev] at ih ⊢
      by_cases e : c = 0
      · rw [if_pos e]
        simp [ev, ← ih, e]
      · rw [if_neg e]
        simp [ev, ← ih]
    | cons d t =>
      rw [h] at ih
      simp only [ev] at ih ⊢
      rw [ih]
theorem nrm_trimL (l : List Int) : nrm (trimL l) = nrm l := by
  induction l with
  | nil => rfl
  | cons c r ih =>
    simp only [trimL]
    cases h : trimL r with
    | nil =>
      rw [h] at ih
      simp only [nrm] at ih ⊢
      by_cases e : c = 0
      · rw [if_pos e]
        simp [nrm, ← ih, e]
      · rw [if_neg e]
        simp [nrm, ← ih]
    | cons d t =>
      rw [h] at ih
      simp only [nrm] at ih ⊢
      omega
theorem len_trimL (l : List Int) : (trimL l).length ≤ l.length := by
  induction l with
  | nil => exact Nat.le_refl _
  | cons c r ih =>
    simp only [trimL]
    cases h : trimL r with
    | nil =>
      by_cases e : c = 0
      · rw [if_pos e]
        simp
      · rw [if_neg e]
        simp
    | cons d t =>
      rw [h] at ih
      simp only [List.length_cons] at ih ⊢
      omega
theorem poly_trimL (l : List Int) : isPoly (trimL l) = true := by
  induction l with
  | nil => rfl
  | cons c r ih =>
    simp only [trimL]
    cases h : trimL r with
    | nil =>
      by_cases e : c = 0
      · rw [if_pos e]
        rfl
      · rw [if_neg e]
        simp [isPoly, e]
    | cons d t =>
      rw [h] at ih
      simp only [isPoly] at ih ⊢
      rw [List.getLast?_cons_cons]
      exact ih
theorem trimL_snoc (l : List Int) : trimL (l ++ [0]) = trimL l := by
  induction l with
  | nil => rfl
  | cons c r ih =>
    simp only [List.cons_append, trimL, ih]
theorem trimL_of_last {l : List Int} {c : Int} (h : c ≠ 0) : trimL (l ++ [c]) = l ++ [c] := by
  induction l with
  | nil => simp [trimL, h]
  | cons d r ih =>
    simp only [List.cons_append, trimL, ih]
    cases e : r ++ [c] with
    | nil => simp at e
    | cons a t => rfl
theorem poly_tail {c : Int} {r : List Int} (h : isPoly (c :: r) = true) : isPoly r = true := by
  cases r with
  | nil => rfl
  | cons d t =>
    simp only [isPoly, List.getLast?_cons_cons] at h ⊢
    exact h
def Small (B : Int) (l : List Int) : Prop := ∀ c ∈ l, 2 * (c.natAbs : Int) < B
theorem Small.tail {B c : Int} {r : List Int} (h : Small B (c :: r)) : Small B r := fun d hd => h d (List.mem_cons_of_mem _ hd)
theorem Small.of_nrm {B : Int} {l : List Int} (h : 2 * (nrm l : Int) < B) : Small B l := fun c hc => by
  have := mem_nrm hc
  omega
theorem dvd_small {B c d : Int} (h : c = B * d) (hs : 2 * (c.natAbs : Int) < B) : c = 0 := by
  by_cases e : d = 0
  · rw [h, e]
    simp
  · exfalso
    have h1 : c.natAbs = B.natAbs * d.natAbs := by rw [h, Int.natAbs_mul]
    have h2 : 1 ≤ d.natAbs := by omega
    have h3 : B.natAbs * 1 ≤ B.natAbs * d.natAbs := Nat.mul_le_mul_left _ h2
    omega
theorem ev_zero {B : Int} (hB : 0 < B) : ∀ {l : List Int}, isPoly l = true → Small B l → ev B l = 0 → l = []
  | [], _, _, _ => rfl
  | c :: r, hp, hs, h => by
    simp only [ev] at h
    have e0 : c = B * (-(ev B r)) := by
      rw [Int.mul_neg]
      omega
    have c0 := dvd_small e0 (hs c (List.mem_cons_self ..))
    rw [c0] at h
    have h' : ev B r = 0 := by
      have : B * ev B r = 0 := by omega
      rcases Int.mul_eq_zero.mp this with z | z
      · omega
      · exact z
    have := ev_zero hB (poly_tail hp) hs.tail h'
    subst this
    subst c0
    simp [isPoly] at hp
theorem ev_uniq {B : Int} (hB : 0 < B) : ∀ {a b : List Int}, isPoly a = true → isPoly b = true → Small B a → Small B b → ev B a = ev B b → a = b
  | [], b, _, hb, _, sb, h => (ev_zero hB hb sb h.symm).symm
  | a, [], ha, _, sa, _, h => ev_zero hB ha sa h
  | c :: r, d :: t, ha, hb, sa, sb, h => by
    simp only [ev] at h
    have h1 := sa c (List.mem_cons_self ..)
    have h2 := sb d (List.mem_cons_self ..)
    have e0 : c - d = B * (ev B t - ev B r) := by
      rw [Int.mul_sub]
      omega
    have h3 : c = d := by
      by_cases e : ev B t - ev B r = 0
      · rw [e] at e0
        simp at e0
        omega
      · exfalso
        have h1' : (c - d).natAbs = B.natAbs * (ev B t - ev B r).natAbs := by rw [e0, Int.natAbs_mul]
        have h2' : 1 ≤ (ev B t - ev B r).natAbs := by omega
        have h3' : B.natAbs * 1 ≤ B.natAbs * (ev B t - ev B r).natAbs := Nat.mul_le_mul_left _ h2'
        omega
    subst h3
    have h4 : ev B r = ev B t := by
      have : B * ev B r = B * ev B t := by omega
      exact Int.eq_of_mul_eq_mul_left (by omega) this
    rw [ev_uniq hB (poly_tail ha) (poly_tail hb) sa.tail sb.tail h4]
theorem digit {B c m : Int} (hB : 0 < B) (hs : 2 * (c.natAbs : Int) < B) (h : Int) (hh : h = B / 2) :
    (if (c + B * m) % B > h then (c + B * m) % B - B else (c + B * m) % B) = c := by
  have e1 : (c + B * m) % B = c % B := Int.add_mul_emod_self_left ..
  rw [e1]
  by_cases hc : 0 ≤ c
  · have e2 : c % B = c := Int.emod_eq_of_lt hc (by omega)
    rw [e2, if_neg (by omega)]
  · have e2 : c % B = c + B := by
      have : c % B = (c + B) % B := by simp
      rw [this]
      exact Int.emod_eq_of_lt (by omega) (by omega)
    rw [e2, if_pos (by omega)]
    omega
theorem next {B c m : Int} (hB : 0 < B) : (c + B * m - c) / B = m := by
  have : c + B * m - c = B * m := by omega
  rw [this, Int.mul_ediv_cancel_left _ (by omega)]
theorem ev_le {x : Int} {X : Nat} (hx : x.natAbs ≤ X) (h1 : 1 ≤ X) : ∀ l : List Int, (ev x l).natAbs ≤ nrm l * X ^ (l.length - 1)
  | [] => by simp [ev, nrm]
  | [c] => by simp [ev, nrm]
  | c :: d :: t => by
    have ih := ev_le hx h1 (d :: t)
    simp only [ev, nrm, List.length_cons, Nat.add_sub_cancel] at ih ⊢
    have e1 : (c + x * (d + x * ev x t)).natAbs ≤ c.natAbs + x.natAbs * (d + x * ev x t).natAbs := by
      have := Int.natAbs_add_le c (x * (d + x * ev x t))
      rw [Int.natAbs_mul] at this
      exact this
    have e2 : x.natAbs * (d + x * ev x t).natAbs ≤ X * ((d.natAbs + nrm t) * X ^ t.length) := Nat.mul_le_mul hx ih
    have e3 : X * ((d.natAbs + nrm t) * X ^ t.length) = (d.natAbs + nrm t) * X ^ (t.length + 1) := by
      rw [Nat.pow_succ]
      grind
    have e4 : 1 ≤ X ^ (t.length + 1) := Nat.one_le_pow _ _ h1
    have e5 : c.natAbs * 1 ≤ c.natAbs * X ^ (t.length + 1) := Nat.mul_le_mul_left _ e4
    have e6 : (c.natAbs + (d.natAbs + nrm t)) * X ^ (t.length + 1) = c.natAbs * X ^ (t.length + 1) + (d.natAbs + nrm t) * X ^ (t.length + 1) := Nat.add_mul ..
    omega
end PM
namespace PM
structure Res (l : List Int) (f : Int → Int) (N L : Nat) : Prop where
  p : isPoly l = true
  e : ∀ x, ev x l = f x
  n : nrm l ≤ N
  z : l.length ≤ L
theorem ev_zeros (x : Int) (k : Nat) : ev x (List.replicate k 0) = 0 := by
  induction k with
  | zero => rfl
  | succ k ih => simp [List.replicate_succ, ev, ih]
theorem nrm_zeros (k : Nat) : nrm (List.replicate k 0) = 0 := by
  induction k with
  | zero => rfl
  | succ k ih => simp [List.replicate_succ, nrm, ih]
theorem ev_zip (x : Int) : ∀ (a b : List Int), a.length = b.length → ev x (List.zipWith (· + ·) a b) = ev x a + ev x b
  | [], [], _ => by simp [ev]
  | c :: r, d :: t, h => by
    simp only [List.length_cons, Nat.add_right_cancel_iff] at h
    simp only [List.zipWith_cons_cons, ev, ev_zip x r t h]
    grind
  | [], _ :: _, h => by simp at h
  | _ :: _, [], h => by simp at h
theorem nrm_zip : ∀ (a b : List Int), nrm (List.zipWith (· + ·) a b) ≤ nrm a + nrm b
  | [], b => by simp [nrm]
  | c :: r, [] => by simp [nrm]
  | c :: r, d :: t => by
    have := nrm_zip r t
    simp only [List.zipWith_cons_cons, nrm]
    omega
theorem ev_scale (x k : Int) (l : List Int) : ev x (l.map (k * ·)) = k * ev x l := by
  induction l with
  | nil => simp [ev]
  | cons c r ih =>
    simp only [List.map_cons, ev, ih]
    grind
theorem nrm_scale (k : Int) (l : List Int) : nrm (l.map (k * ·)) = k.natAbs * nrm l := by
  induction l with
  | nil => simp [nrm]
  | cons c r ih =>
    simp only [List.map_cons, nrm, ih, Int.natAbs_mul]
    grind
theorem ev_set (x d : Int) : ∀ (l : List Int) (i : Nat) (c : Int), l[i]? = some c → ev x (l.set i (c + d)) = ev x l + x ^ i * d
  | [], i, c, h => by simp at h
  | a :: r, 0, c, h => by
    have e : a = c := by simpa using h
    subst e
    simp only [List.set_cons_zero, ev]
    grind
  | a :: r, i + 1, c, h => by
    have h' : r[i]? = some c := by simpa using h
    simp only [List.set_cons_succ, ev, ev_set x d r i c h', Int.pow_succ]
    grind
theorem nrm_set (d : Int) : ∀ (l : List Int) (i : Nat) (c : Int), l[i]? = some c → nrm (l.set i (c + d)) ≤ nrm l + d.natAbs
  | [], i, c, h => by simp at h
  | a :: r, 0, c, h => by
    have e : a = c := by simpa using h
    subst e
    simp only [List.set_cons_zero, nrm]
    omega
  | a :: r, i + 1, c, h => by
    have h' : r[i]? = some c := by simpa using h
    have := nrm_set d r i c h'
    simp only [List.set_cons_succ, nrm]
    omega
theorem ev_take (x : Int) {l : List Int} {i : Nat} {c : Int} (h : l[i]? = some c) : ev x (l.take (i + 1)) = ev x (l.take i) + x ^ i * c := by
  have hi : i < l.length := (List.getElem?_eq_some_iff.mp h).1
  rw [List.take_add_one, h, ev_append]
  simp [ev, Nat.min_eq_left (Nat.le_of_lt hi)]
theorem nrm_take {l : List Int} {i : Nat} {c : Int} (h : l[i]? = some c) : nrm (l.take (i + 1)) = nrm (l.take i) + c.natAbs := by
  rw [List.take_add_one, h, nrm_append]
  simp [nrm]
theorem ev_drop (x : Int) {l : List Int} {i : Nat} {c : Int} (h : l[i]? = some c) : ev x (l.drop i) = c + x * ev x (l.drop (i + 1)) := by
  obtain ⟨hi, e⟩ := List.getElem?_eq_some_iff.mp h
  rw [List.drop_eq_getElem_cons hi, e]
  rfl
theorem nrm_drop (l : List Int) (i : Nat) : nrm (l.drop i) ≤ nrm l := by
  have := nrm_append (l.take i) (l.drop i)
  rw [List.take_append_drop] at this
  omega
def hv (t b : Int) : List Int → Int
  | [] => 0
  | c :: r => hv t b r * t + c * b ^ r.length
theorem hv_drop (t b : Int) {l : List Int} {i : Nat} {c : Int} (h : l[i]? = some c) : hv t b (l.drop i) = hv t b (l.drop (i + 1)) * t + c * b ^ (l.length - (i + 1)) := by
  obtain ⟨hi, e⟩ := List.getElem?_eq_some_iff.mp h
  rw [List.drop_eq_getElem_cons hi, e]
  simp [hv]
theorem hv_one (t : Int) (l : List Int) : hv t 1 l = ev t l := by
  induction l with
  | nil => rfl
  | cons c r ih =>
    simp only [hv, ev, ih, Int.one_pow]
    grind
theorem hv_le {t b : Int} {X : Nat} (ht : t.natAbs ≤ X) (hb : b.natAbs ≤ X) (h1 : 1 ≤ X) : ∀ l : List Int, (hv t b l).natAbs ≤ nrm l * X ^ (l.length - 1)
  | [] => by simp [hv, nrm]
  | [c] => by simp [hv, nrm]
  | c :: d :: r => by
    have ih := hv_le ht hb h1 (d :: r)
    have e0 : hv t b (c :: d :: r) = hv t b (d :: r) * t + c * b ^ (d :: r).length := rfl
    rw [e0]
    simp only [nrm, List.length_cons, Nat.add_sub_cancel] at ih ⊢
    have e1 := Int.natAbs_add_le (hv t b (d :: r) * t) (c * b ^ (r.length + 1))
    rw [Int.natAbs_mul, Int.natAbs_mul, Int.natAbs_pow] at e1
    have e2 : (hv t b (d :: r)).natAbs * t.natAbs ≤ ((d.natAbs + nrm r) * X ^ r.length) * X := Nat.mul_le_mul ih ht
    have e3 : c.natAbs * b.natAbs ^ (r.length + 1) ≤ c.natAbs * X ^ (r.length + 1) := Nat.mul_le_mul_left _ (Nat.pow_le_pow_left hb _)
    have e4 : ((d.natAbs + nrm r) * X ^ r.length) * X = (d.natAbs + nrm r) * X ^ (r.length + 1) := by rw [Nat.pow_succ, Nat.mul_assoc]
    have e5 : (c.natAbs + (d.natAbs + nrm r)) * X ^ (r.length + 1) = c.natAbs * X ^ (r.length + 1) + (d.natAbs + nrm r) * X ^ (r.length + 1) := Nat.add_mul ..
    omega
theorem ev_big {x : Int} {l : List Int} {i : Nat} (hx : x.natAbs < 2 ^ 64) (hn : nrm l < 2 ^ 2000) (hl : l.length ≤ 1000) : (ev x (l.drop i)).natAbs < 2 ^ 66001 := by
  have h := ev_le (x := x) (X := 2 ^ 64) (by omega) (Nat.one_le_two_pow) (l.drop i)
  have h1 := nrm_drop l i
  have h2 : (2 ^ 64 : Nat) ^ ((l.drop i).length - 1) ≤ (2 ^ 64) ^ 1000 := Nat.pow_le_pow_right (by decide) (by rw [List.length_drop]; omega)
  have h3 : nrm (l.drop i) * (2 ^ 64) ^ ((l.drop i).length - 1) ≤ 2 ^ 2000 * (2 ^ 64) ^ 1000 := Nat.mul_le_mul (by omega) h2
  have h4 : (2 : Nat) ^ 2000 * (2 ^ 64) ^ 1000 = 2 ^ 66000 := by rw [← Nat.pow_mul, ← Nat.pow_add]
  have h5 : (2 : Nat) ^ 66000 < 2 ^ 66001 := Nat.pow_lt_pow_right (by decide) (by decide)
  omega
theorem hv_big {t b : Int} {l : List Int} {i : Nat} (ht : t.natAbs < 2 ^ 64) (hb : b.natAbs < 2 ^ 64) (hn : nrm l < 2 ^ 2000) (hl : l.length ≤ 1000) : (hv t b (l.drop i)).natAbs < 2 ^ 66001 := by
  have h := hv_le (t := t) (b := b) (X := 2 ^ 64) (by omega) (by omega) (Nat.one_le_two_pow) (l.drop i)
  have h1 := nrm_drop l i
  have h2 : (2 ^ 64 : Nat) ^ ((l.drop i).length - 1) ≤ (2 ^ 64) ^ 1000 := Nat.pow_le_pow_right (by decide) (by rw [List.length_drop]; omega)
  have h3 : nrm (l.drop i) * (2 ^ 64) ^ ((l.drop i).length - 1) ≤ 2 ^ 2000 * (2 ^ 64) ^ 1000 := Nat.mul_le_mul (by omega) h2
  have h4 : (2 : Nat) ^ 2000 * (2 ^ 64) ^ 1000 = 2 ^ 66000 := by rw [← Nat.pow_mul, ← Nat.pow_add]
  have h5 : (2 : Nat) ^ 66000 < 2 ^ 66001 := Nat.pow_lt_pow_right (by decide) (by decide)
  omega
end PM
namespace PM
def low (t b : Int) : Int × Int := (t / ((Nat.gcd t.natAbs b.natAbs : Nat) : Int), b / ((Nat.gcd t.natAbs b.natAbs : Nat) : Int))
theorem low_mul {t b c : Int} (hc : 0 < c) : low (t * c) (b * c) = low t b := by
  unfold low
  have e : Nat.gcd (t * c).natAbs (b * c).natAbs = Nat.gcd t.natAbs b.natAbs * c.natAbs := by
    rw [Int.natAbs_mul, Int.natAbs_mul, Nat.gcd_mul_right]
  have ec : ((c.natAbs : Nat) : Int) = c := by omega
  rw [e, Int.natCast_mul, ec, Int.mul_ediv_mul_of_pos_left _ _ hc, Int.mul_ediv_mul_of_pos_left _ _ hc]
theorem pow_bits {b : Int} {i n : Nat} (hb : b.natAbs < 2 ^ 64) (hi : i ≤ n) : (b ^ i).natAbs < 2 ^ (64 * n + 1) := by
  rw [Int.natAbs_pow]
  have h1 : b.natAbs ^ i ≤ (2 ^ 64) ^ i := Nat.pow_le_pow_left (Nat.le_of_lt hb) _
  have h2 : ((2 : Nat) ^ 64) ^ i ≤ (2 ^ 64) ^ n := Nat.pow_le_pow_right (by decide) hi
  have h3 : ((2 : Nat) ^ 64) ^ n = 2 ^ (64 * n) := by rw [← Nat.pow_mul]
  have h4 : (2 : Nat) ^ (64 * n) < 2 ^ (64 * n + 1) := Nat.pow_lt_pow_right (by decide) (by omega)
  omega
theorem pow_pos' {b : Int} (h : 0 < b) (n : Nat) : 0 < b ^ n := Int.pow_pos h
end PM
namespace PM
theorem ev_bits {b : Nat} {x : Int} {l : List Int} {i : Nat} (hx : x.natAbs < 2 ^ b) (hn : nrm l < 2 ^ 2000) (hl : l.length ≤ 1000) : (ev x (l.drop i)).natAbs < 2 ^ (2000 + b * 1000 + 1) := by
  have h := ev_le (x := x) (X := 2 ^ b) (by omega) (Nat.one_le_two_pow) (l.drop i)
  have h1 := nrm_drop l i
  have h2 : (2 ^ b : Nat) ^ ((l.drop i).length - 1) ≤ (2 ^ b) ^ 1000 := Nat.pow_le_pow_right (Nat.one_le_two_pow) (by rw [List.length_drop]; omega)
  have h3 : nrm (l.drop i) * (2 ^ b) ^ ((l.drop i).length - 1) ≤ 2 ^ 2000 * (2 ^ b) ^ 1000 := Nat.mul_le_mul (by omega) h2
  have h4 : (2 : Nat) ^ 2000 * (2 ^ b) ^ 1000 = 2 ^ (2000 + b * 1000) := by rw [← Nat.pow_mul, ← Nat.pow_add]
  have h5 : (2 : Nat) ^ (2000 + b * 1000) < 2 ^ (2000 + b * 1000 + 1) := Nat.pow_lt_pow_right (by decide) (Nat.lt_succ_self _)
  omega
theorem nrm_len {l : List Int} {k : Nat} (h : ∀ c ∈ l, c.natAbs ≤ k) : nrm l ≤ l.length * k := by
  induction l with
  | nil => simp [nrm]
  | cons c r ih =>
    have h1 := h c (List.mem_cons_self ..)
    have h2 := ih fun d hd => h d (List.mem_cons_of_mem _ hd)
    simp only [nrm, List.length_cons, Nat.add_mul, Nat.one_mul]
    omega
end PM
end
section

namespace PM
def sums (r : Int) (ns : List Int) (i : Nat) : List Int := (List.range i).map fun k => ev r (ns.drop (ns.length - 1 - k))
def quo (r : Int) (ns : List Int) : List Int := ((sums r ns ns.length).dropLast).reverse
theorem sums_len (r : Int) (ns : List Int) (i : Nat) : (sums r ns i).length = i := by simp [sums]
theorem sums_succ (r : Int) (ns : List Int) (i : Nat) : sums r ns (i + 1) = sums r ns i ++ [ev r (ns.drop (ns.length - 1 - i))] := by
  simp [sums, List.range_succ]
theorem quo_len (r : Int) (ns : List Int) : (quo r ns).length = ns.length - 1 := by simp [quo, sums_len]
theorem mem_sums {r : Int} {ns : List Int} {i : Nat} {c : Int} (h : c ∈ sums r ns i) : ∃ j, c = ev r (ns.drop j) := by
  unfold sums at h
  obtain ⟨k, _, e⟩ := List.mem_map.mp h
  exact ⟨_, e.symm⟩
theorem mem_quo {r : Int} {ns : List Int} {c : Int} (h : c ∈ quo r ns) : ∃ j, c = ev r (ns.drop j) := by
  unfold quo at h
  exact mem_sums (List.dropLast_subset _ (List.mem_reverse.mp h))
def sleft (q : Int) (ns : List Int) : Nat → List Int
  | 0 => ns
  | t + 1 => quo (q ^ t) (sleft q ns t)
def sfound (q : Int) (ns : List Int) (t : Nat) : List Int := (List.range t).map fun i => ev (q ^ i) (sleft q ns i)
theorem sleft_len (q : Int) (ns : List Int) : ∀ t, (sleft q ns t).length = ns.length - t
  | 0 => rfl
  | t + 1 => by
    show (quo _ _).length = _
    rw [quo_len, sleft_len q ns t]
    omega
theorem sfound_succ (q : Int) (ns : List Int) (t : Nat) : sfound q ns (t + 1) = sfound q ns t ++ [ev (q ^ t) (sleft q ns t)] := by
  simp [sfound, List.range_succ]
theorem sfound_len (q : Int) (ns : List Int) (t : Nat) : (sfound q ns t).length = t := by simp [sfound]
theorem pow_q {q : Int} (h0 : 0 ≤ q) (h : q ≤ 5) (t : Nat) : (q ^ t).natAbs ≤ 2 ^ (3 * t) := by
  rw [Int.natAbs_pow, Nat.pow_mul]
  exact Nat.pow_le_pow_left (by omega) t
theorem area : ∀ t ≤ 80, t * (80 - t) ≤ 1600 := by decide
theorem step_ev {q : Int} {ls : List Int} {t b : Nat} (h0 : 0 ≤ q) (h5 : q ≤ 5) (hl : t + ls.length ≤ 80) (hn : nrm ls ≤ 2 ^ b) (j : Nat) : (ev (q ^ t) (ls.drop j)).natAbs ≤ 2 ^ (b + 4800) := by
  have h1 := ev_le (x := q ^ t) (X := 2 ^ (3 * t)) (pow_q h0 h5 t) Nat.one_le_two_pow (ls.drop j)
  have h2 : nrm (ls.drop j) ≤ 2 ^ b := Nat.le_trans (nrm_drop ls j) hn
  have h3 : (ls.drop j).length - 1 ≤ 80 - t := by rw [List.length_drop]; omega
  have h4 : (2 ^ (3 * t)) ^ ((ls.drop j).length - 1) ≤ 2 ^ 4800 := by
    rw [← Nat.pow_mul]
    refine Nat.pow_le_pow_right (by decide) ?_
    have e := area t (by omega)
    have e2 : t * ((ls.drop j).length - 1) ≤ t * (80 - t) := Nat.mul_le_mul_left _ h3
    rw [Nat.mul_assoc]
    omega
  have h5' := Nat.mul_le_mul h2 h4
  rw [← Nat.pow_add] at h5'
  exact Nat.le_trans h1 h5'
theorem step_nrm {q : Int} {ls : List Int} {t b : Nat} (h0 : 0 ≤ q) (h5 : q ≤ 5) (hl : t + ls.length ≤ 80) (hn : nrm ls ≤ 2 ^ b) : nrm (quo (q ^ t) ls) ≤ 2 ^ (b + 5000) := by
  have h := nrm_len (l := quo (q ^ t) ls) (k := 2 ^ (b + 4800)) fun c hc => by
    obtain ⟨j, rfl⟩ := mem_quo hc
    exact step_ev h0 h5 hl hn j
  rw [quo_len] at h
  have h2 : (ls.length - 1) * 2 ^ (b + 4800) ≤ 2 ^ 200 * 2 ^ (b + 4800) := Nat.mul_le_mul_right _ (Nat.le_trans (by omega : ls.length - 1 ≤ 2 ^ 7) (Nat.pow_le_pow_right (by decide) (by decide)))
  rw [← Nat.pow_add] at h2
  refine Nat.le_trans h (Nat.le_trans h2 (Nat.pow_le_pow_right (by decide) (by omega)))
theorem sleft_nrm {q : Int} {ns : List Int} (h0 : 0 ≤ q) (h5 : q ≤ 5) (hl : ns.length ≤ 80) {b : Nat} (hn : nrm ns ≤ 2 ^ b) : ∀ t, t ≤ ns.length → nrm (sleft q ns t) ≤ 2 ^ (b + 5000 * t)
  | 0, _ => hn
  | t + 1, ht => by
    have ih := sleft_nrm h0 h5 hl hn t (by omega)
    have z := step_nrm (ls := sleft q ns t) (t := t) h0 h5 (by rw [sleft_len]; omega) ih
    rw [show b + 5000 * (t + 1) = b + 5000 * t + 5000 by omega]
    exact z
end PM
end
section

namespace PM
def quoR (r : Int) : List Int → List Int
  | [] => []
  | [_] => []
  | _ :: d :: t => ev r (d :: t) :: quoR r (d :: t)
theorem quo_range (r : Int) (ns : List Int) : quo r ns = (List.range (ns.length - 1)).map fun j => ev r (ns.drop (j + 1)) := by
  unfold quo sums
  apply List.ext_getElem
  · simp
  · intro j h1 h2
    have h3 : j < ns.length - 1 := by simpa using h1
    rw [List.getElem_reverse, List.getElem_dropLast, List.getElem_map, List.getElem_range, List.getElem_map, List.getElem_range]
    congr 2
    simp only [List.length_dropLast, List.length_map, List.length_range]
    omega
theorem range_drops (r : Int) : ∀ l : List Int, ((List.range (l.length - 1)).map fun j => ev r (l.drop (j + 1))) = quoR r l
  | [] => rfl
  | [_] => rfl
  | c :: d :: t => by
    have ih := range_drops r (d :: t)
    have e : (c :: d :: t).length - 1 = ((d :: t).length - 1) + 1 := by simp
    rw [e, List.range_succ_eq_map, List.map_cons, List.map_map]
    show ev r (d :: t) :: _ = ev r (d :: t) :: quoR r (d :: t)
    rw [← ih]
    rfl
theorem quo_eq (r : Int) (ns : List Int) : quo r ns = quoR r ns := by rw [quo_range, range_drops]
theorem ev_quo (x r : Int) (ns : List Int) : ev x ns = ev r ns + (x - r) * ev x (quo r ns) := by
  rw [quo_eq]
  induction ns with
  | nil => simp [ev, quoR]
  | cons c rest ih =>
    cases rest with
    | nil => simp [ev, quoR]
    | cons d t =>
      have e1 : ev x (c :: d :: t) = c + x * ev x (d :: t) := rfl
      have e2 : ev r (c :: d :: t) = c + r * ev r (d :: t) := rfl
      have e3 : ev x (quoR r (c :: d :: t)) = ev r (d :: t) + x * ev x (quoR r (d :: t)) := rfl
      rw [e1, e2, e3, ih]
      grind
def nw (q : Int) (x : Int) : Nat → List Int → Int
  | _, [] => 0
  | t, f :: r => f + (x - q ^ t) * nw q x (t + 1) r
def fseq (q : Int) : Nat → Nat → List Int → List Int
  | _, 0, _ => []
  | t, n + 1, ls => ev (q ^ t) ls :: fseq q (t + 1) n (quo (q ^ t) ls)
def sleftO (q : Int) : Nat → List Int → Nat → List Int
  | _, ls, 0 => ls
  | t, ls, n + 1 => sleftO q (t + 1) (quo (q ^ t) ls) n
theorem sleftO_succ (q : Int) : ∀ (n t : Nat) (ls : List Int), sleftO q t ls (n + 1) = quo (q ^ (t + n)) (sleftO q t ls n)
  | 0, t, ls => rfl
  | n + 1, t, ls => by
    show sleftO q (t + 1) (quo (q ^ t) ls) (n + 1) = _
    rw [sleftO_succ q n (t + 1), show t + 1 + n = t + (n + 1) by omega]
    rfl
theorem sleft_O (q : Int) (ns : List Int) : ∀ n, sleft q ns n = sleftO q 0 ns n
  | 0 => rfl
  | n + 1 => by
    rw [sleftO_succ, Nat.zero_add, ← sleft_O q ns n]
    rfl
theorem fseq_succ (q : Int) : ∀ (n t : Nat) (ls : List Int), fseq q t (n + 1) ls = fseq q t n ls ++ [ev (q ^ (t + n)) (sleftO q t ls n)]
  | 0, t, ls => rfl
  | n + 1, t, ls => by
    show ev (q ^ t) ls :: fseq q (t + 1) (n + 1) (quo (q ^ t) ls) = _
    rw [fseq_succ q n (t + 1), show t + 1 + n = t + (n + 1) by omega]
    rfl
theorem sfound_fseq (q : Int) (ns : List Int) : ∀ n, sfound q ns n = fseq q 0 n ns
  | 0 => rfl
  | n + 1 => by rw [sfound_succ, fseq_succ, sfound_fseq q ns n, Nat.zero_add, sleft_O]
theorem ev_newton (q x : Int) : ∀ (n t : Nat) (ls : List Int), ls.length ≤ n → ev x ls = nw q x t (fseq q t n ls)
  | 0, t, ls, h => by
    obtain rfl : ls = [] := List.eq_nil_of_length_eq_zero (by omega)
    rfl
  | n + 1, t, ls, h => by
    show _ = ev (q ^ t) ls + (x - q ^ t) * nw q x (t + 1) (fseq q (t + 1) n (quo (q ^ t) ls))
    rw [← ev_newton q x n (t + 1) _ (by rw [quo_len]; omega)]
    exact ev_quo x (q ^ t) ls
theorem found_newton (q x : Int) (ns : List Int) : ev x ns = nw q x 0 (sfound q ns ns.length) := by
  rw [sfound_fseq]
  exact ev_newton q x _ 0 ns (Nat.le_refl _)
theorem ev_big_eq {a b : List Int} {B : Int} (h : ∀ x, B < x → ev x a = ev x b) (x : Int) : ev x a = ev x b := by
  have e : trimL a = trimL b := by
    let X : Int := max (B + 1) (2 * (nrm a : Int) + 2 * (nrm b : Int) + 1)
    have hX : B < X := by omega
    have hX0 : 0 < X := by omega
    refine ev_uniq hX0 (poly_trimL a) (poly_trimL b) (Small.of_nrm ?_) (Small.of_nrm ?_) ?_
    · rw [nrm_trimL]
      omega
    · rw [nrm_trimL]
      omega
    · rw [ev_trimL, ev_trimL]
      exact h X hX
  rw [← ev_trimL x a, ← ev_trimL x b, e]
def nwl (q : Int) : Nat → List Int → List Int
  | _, [] => []
  | t, f :: r => List.zipWith (· + ·) (f :: List.replicate r.length 0) (List.zipWith (· + ·) (0 :: nwl q (t + 1) r) ((nwl q (t + 1) r).map ((-(q ^ t)) * ·) ++ [0]))
theorem nwl_len (q : Int) : ∀ (t : Nat) (fs : List Int), (nwl q t fs).length = fs.length
  | _, [] => rfl
  | t, f :: r => by
    have ih := nwl_len q (t + 1) r
    simp [nwl, ih]
theorem ev_nwl (q x : Int) : ∀ (t : Nat) (fs : List Int), ev x (nwl q t fs) = nw q x t fs
  | _, [] => rfl
  | t, f :: r => by
    have ih := ev_nwl q x (t + 1) r
    have il := nwl_len q (t + 1) r
    show ev x (List.zipWith _ _ _) = f + (x - q ^ t) * nw q x (t + 1) r
    rw [ev_zip x _ _ (by simp [il]), ev_zip x _ _ (by simp), ← ih]
    have e1 : ev x (f :: List.replicate r.length 0) = f := by
      show f + x * ev x _ = f
      rw [ev_zeros]
      omega
    have e2 : ev x (0 :: nwl q (t + 1) r) = x * ev x (nwl q (t + 1) r) := by
      show 0 + x * _ = _
      omega
    have e3 : ev x ((nwl q (t + 1) r).map ((-(q ^ t)) * ·) ++ [0]) = -(q ^ t) * ev x (nwl q (t + 1) r) := by
      rw [ev_append, ev_scale]
      simp [ev]
    rw [e1, e2, e3]
    grind
theorem newton_uniq (q : Int) : ∀ (fs : List Int) (t : Nat) (ls : List Int), ls.length = fs.length → (∀ x, ev x ls = nw q x t fs) → fseq q t fs.length ls = fs
  | [], _, _, _, _ => rfl
  | f :: r, t, ls, hl, h => by
    have h0 : ev (q ^ t) ls = f := by
      rw [h (q ^ t)]
      show f + (q ^ t - q ^ t) * _ = f
      rw [Int.sub_self, Int.zero_mul, Int.add_zero]
    have h1 : ∀ x, ev x (quo (q ^ t) ls) = nw q x (t + 1) r := fun x => by
      rw [← ev_nwl]
      refine ev_big_eq (B := q ^ t) (fun y hy => ?_) x
      have e1 := ev_quo y (q ^ t) ls
      rw [h y, h0] at e1
      have e2 : f + (y - q ^ t) * nw q y (t + 1) r = f + (y - q ^ t) * ev y (quo (q ^ t) ls) := e1
      rw [ev_nwl]
      have e3 : (y - q ^ t) * nw q y (t + 1) r = (y - q ^ t) * ev y (quo (q ^ t) ls) := by omega
      exact (Int.eq_of_mul_eq_mul_left (by omega) e3).symm
    show ev (q ^ t) ls :: fseq q (t + 1) r.length (quo (q ^ t) ls) = f :: r
    rw [h0, newton_uniq q r (t + 1) _ (by rw [quo_len, hl]; rfl) h1]
theorem found_uniq {q : Int} {fs ls : List Int} (hl : ls.length = fs.length) (h : ∀ x, ev x ls = nw q x 0 fs) : sfound q ls ls.length = fs := by
  rw [sfound_fseq, hl]
  exact newton_uniq q fs 0 ls hl h
def npart (q x : Int) : Nat → Int
  | 0 => 1
  | i + 1 => npart q x i * (x - q ^ i)
def nsum (q x : Int) : Nat → List Int → Int
  | _, [] => 0
  | i, f :: r => f * npart q x i + nsum q x (i + 1) r
theorem nsum_nw (q x : Int) : ∀ (fs : List Int) (i : Nat), nsum q x i fs = npart q x i * nw q x i fs
  | [], _ => by simp [nsum, nw]
  | f :: r, i => by
    show f * npart q x i + nsum q x (i + 1) r = npart q x i * (f + (x - q ^ i) * nw q x (i + 1) r)
    rw [nsum_nw q x r (i + 1)]
    show f * npart q x i + npart q x i * (x - q ^ i) * _ = _
    grind
theorem nsum_zero (q x : Int) (fs : List Int) : nsum q x 0 fs = nw q x 0 fs := by
  rw [nsum_nw]
  show 1 * _ = _
  rw [Int.one_mul]
theorem nsum_snoc (q x : Int) : ∀ (fs : List Int) (i : Nat) (f : Int), nsum q x i (fs ++ [f]) = nsum q x i fs + f * npart q x (i + fs.length)
  | [], i, f => by simp [nsum]
  | g :: r, i, f => by
    show g * npart q x i + nsum q x (i + 1) (r ++ [f]) = g * npart q x i + nsum q x (i + 1) r + _
    rw [nsum_snoc q x r (i + 1) f, List.length_cons, show i + 1 + r.length = i + (r.length + 1) by omega]
    omega
def upc (q : Int) : Nat → Int → List Int → List Int
  | _, p, [] => [p]
  | t, p, f :: r => (p + q ^ t * f) :: upc q (t + 1) f r
theorem upc_len (q : Int) : ∀ (t : Nat) (p : Int) (r : List Int), (upc q t p r).length = r.length + 1
  | _, _, [] => rfl
  | t, p, f :: r => by
    show (upc q (t + 1) f r).length + 1 = _
    rw [upc_len q (t + 1) f r]
    rfl
theorem nw_upc (q x : Int) : ∀ (t : Nat) (p : Int) (r : List Int), nw q x t (upc q t p r) = p + x * nw q x t r
  | t, p, [] => by simp [upc, nw]
  | t, p, f :: r => by
    show (p + q ^ t * f) + (x - q ^ t) * nw q x (t + 1) (upc q (t + 1) f r) = p + x * (f + (x - q ^ t) * nw q x (t + 1) r)
    rw [nw_upc q x (t + 1) f r]
    grind
def spc (q : Int) : Nat → List Int
  | 0 => [1]
  | k + 1 => upc q 0 0 (spc q k)
theorem spc_len (q : Int) : ∀ k, (spc q k).length = k + 1
  | 0 => rfl
  | k + 1 => by
    show (upc q 0 0 (spc q k)).length = _
    rw [upc_len, spc_len q k]
theorem nw_spc (q x : Int) : ∀ k, nw q x 0 (spc q k) = x ^ k
  | 0 => by simp [spc, nw]
  | k + 1 => by
    show nw q x 0 (upc q 0 0 (spc q k)) = _
    rw [nw_upc, nw_spc q x k, Int.pow_succ, Int.zero_add, Int.mul_comm]
theorem ev_power (x : Int) (k : Nat) : ev x (List.replicate k 0 ++ [1]) = x ^ k := by
  rw [ev_append, ev_zeros, List.length_replicate]
  simp [ev]
theorem found_power (q : Int) (k : Nat) : sfound q (List.replicate k 0 ++ [1]) (k + 1) = spc q k := by
  have e : (List.replicate k (0 : Int) ++ [1]).length = k + 1 := by simp
  have := found_uniq (q := q) (fs := spc q k) (ls := List.replicate k 0 ++ [1]) (by rw [e, spc_len]) fun x => by rw [ev_power, nw_spc]
  rw [e] at this
  exact this
end PM
end
section

namespace PM
def wn (R : Nat) : List Int → Nat
  | [] => 0
  | c :: r => c.natAbs + R * wn R r
theorem ev_wn {x : Int} {R : Nat} (h : x.natAbs ≤ R) : ∀ l : List Int, (ev x l).natAbs ≤ wn R l
  | [] => Nat.le_refl _
  | c :: r => by
    have ih := ev_wn h r
    have e : (x * ev x r).natAbs ≤ R * wn R r := by
      rw [Int.natAbs_mul]
      exact Nat.mul_le_mul h ih
    show (c + x * ev x r).natAbs ≤ c.natAbs + R * wn R r
    omega
theorem wn_quoR {x : Int} {R : Nat} (h : x.natAbs ≤ R) (h1 : 1 ≤ R) : ∀ l : List Int, wn R (quoR x l) ≤ l.length * wn R l
  | [] => Nat.zero_le _
  | [_] => Nat.zero_le _
  | c :: d :: t => by
    have ih := wn_quoR h h1 (d :: t)
    have e1 := ev_wn h (d :: t)
    have e2 : wn R (d :: t) ≤ R * wn R (d :: t) := Nat.le_mul_of_pos_left _ h1
    have e3 : R * wn R (quoR x (d :: t)) ≤ R * ((d :: t).length * wn R (d :: t)) := Nat.mul_le_mul_left _ ih
    have e4 : R * ((d :: t).length * wn R (d :: t)) = (d :: t).length * (R * wn R (d :: t)) := by
      rw [← Nat.mul_assoc, Nat.mul_comm R, Nat.mul_assoc]
    have e5 : wn R (c :: d :: t) = c.natAbs + R * wn R (d :: t) := rfl
    have e6 : ((d :: t).length + 1) * (R * wn R (d :: t)) ≤ ((d :: t).length + 1) * wn R (c :: d :: t) := Nat.mul_le_mul_left _ (by omega)
    have e7 : ((d :: t).length + 1) * (R * wn R (d :: t)) = (d :: t).length * (R * wn R (d :: t)) + R * wn R (d :: t) := by rw [Nat.add_mul, Nat.one_mul]
    show (ev x (d :: t)).natAbs + R * wn R (quoR x (d :: t)) ≤ ((d :: t).length + 1) * wn R (c :: d :: t)
    omega
theorem wn_nrm {R : Nat} (h1 : 1 ≤ R) : ∀ l : List Int, wn R l ≤ nrm l * R ^ (l.length - 1)
  | [] => Nat.zero_le _
  | [c] => by simp [wn, nrm]
  | c :: d :: t => by
    have ih := wn_nrm h1 (d :: t)
    have e : R * wn R (d :: t) ≤ R * (nrm (d :: t) * R ^ ((d :: t).length - 1)) := Nat.mul_le_mul_left _ ih
    have e2 : R * (nrm (d :: t) * R ^ ((d :: t).length - 1)) = nrm (d :: t) * R ^ ((d :: t).length) := by
      rw [Nat.mul_comm R, Nat.mul_assoc, ← Nat.pow_succ]
      rfl
    have e3 : c.natAbs ≤ c.natAbs * R ^ (d :: t).length := Nat.le_mul_of_pos_right _ (Nat.pow_pos (by omega))
    have e4 : nrm (c :: d :: t) * R ^ ((c :: d :: t).length - 1) = c.natAbs * R ^ (d :: t).length + nrm (d :: t) * R ^ (d :: t).length := by
      rw [← Nat.add_mul]
      rfl
    show c.natAbs + R * wn R (d :: t) ≤ _
    omega
theorem wn_sleft {q : Int} {R m : Nat} {ns : List Int} (h1 : 1 ≤ R) (hm : ns.length ≤ m) : ∀ t, (∀ i, i < t → (q ^ i).natAbs ≤ R) → wn R (sleft q ns t) ≤ m ^ t * wn R ns
  | 0, _ => by
    rw [Nat.pow_zero, Nat.one_mul]
    exact Nat.le_refl _
  | t + 1, h => by
    have ih := wn_sleft h1 hm t fun i hi => h i (by omega)
    show wn R (quo (q ^ t) (sleft q ns t)) ≤ _
    rw [quo_eq]
    have e1 := wn_quoR (h t (by omega)) h1 (sleft q ns t)
    rw [sleft_len] at e1
    have e2 : (ns.length - t) * wn R (sleft q ns t) ≤ m * (m ^ t * wn R ns) := Nat.mul_le_mul (by omega) ih
    have e3 : m * (m ^ t * wn R ns) = m ^ (t + 1) * wn R ns := by rw [← Nat.mul_assoc, Nat.pow_succ, Nat.mul_comm m]
    omega
theorem found_small {q : Int} {ns : List Int} (h0 : 0 ≤ q) (h5 : q ≤ 5) (hl : ns.length ≤ 26) (hn : nrm ns ≤ 2 ^ 205) : ∀ c ∈ sfound q ns ns.length, c.natAbs < 2 ^ 1900 := by
  intro c hc
  unfold sfound at hc
  obtain ⟨t, ht, rfl⟩ := List.mem_map.mp hc
  have ht := List.mem_range.mp ht
  have pw : ∀ i, i ≤ 25 → (q ^ i).natAbs ≤ 2 ^ 60 := fun i hi => by
    rw [Int.natAbs_pow]
    have e1 : q.natAbs ^ i ≤ 5 ^ i := Nat.pow_le_pow_left (by omega) i
    have e2 : 5 ^ i ≤ 5 ^ 25 := Nat.pow_le_pow_right (by decide) hi
    exact Nat.le_trans e1 (Nat.le_trans e2 (by decide))
  have e1 := ev_wn (pw t (by omega)) (sleft q ns t)
  have e2 := wn_sleft (q := q) (R := 2 ^ 60) (m := 26) (by decide) hl t fun i hi => pw i (by omega)
  have e3 := wn_nrm (R := 2 ^ 60) (by decide) ns
  have e4 : (2 ^ 60) ^ (ns.length - 1) ≤ (2 ^ 60) ^ 25 := Nat.pow_le_pow_right (by decide) (by omega)
  have e5 : nrm ns * (2 ^ 60) ^ (ns.length - 1) ≤ 2 ^ 205 * (2 ^ 60) ^ 25 := Nat.mul_le_mul hn e4
  have e6 : 26 ^ t ≤ 26 ^ 25 := Nat.pow_le_pow_right (by decide) (by omega)
  have e7 : 26 ^ t * wn (2 ^ 60) ns ≤ 26 ^ 25 * (2 ^ 205 * (2 ^ 60) ^ 25) := Nat.mul_le_mul e6 (Nat.le_trans e3 e5)
  have e8 : 26 ^ 25 * (2 ^ 205 * (2 ^ 60) ^ 25) < 2 ^ 1900 := by decide +kernel
  omega
end PM
end
section
set_option maxRecDepth 100000
set_option maxHeartbeats 4000000
namespace K28
open PySem PySem.Spec PyProof.Rows L2 MB PM
open LamX hiding takes0
def top (i : Nat) : Stmt := PySem.Challenge.pw_mirrorbook_k28_subcounts_of_any_polynomi.main.body.getD i (.Pass ⟨0, 0, 0, 0⟩)
abbrev P : Program := PySem.Challenge.pw_mirrorbook_k28_subcounts_of_any_polynomi
abbrev s_letter_sum : Stmt := top 9
abbrev N_letter_sum : List Str := ["q", "one", "other"]
abbrev P_letter_sum : List Str := ["q", "one", "other"]
theorem sc_letter_sum : FnScope N_letter_sum P_letter_sum (defScope s_letter_sum) := ⟨rfl, rfl, rfl, by decide +kernel, rfl, by decide +kernel, by decide +kernel⟩
abbrev s_letter_negative : Stmt := top 10
abbrev N_letter_negative : List Str := ["q", "letter"]
abbrev P_letter_negative : List Str := ["q", "letter"]
theorem sc_letter_negative : FnScope N_letter_negative P_letter_negative (defScope s_letter_negative) := ⟨rfl, rfl, rfl, by decide +kernel, rfl, by decide +kernel, by decide +kernel⟩
abbrev s_letter_times : Stmt := top 11
abbrev N_letter_times : List Str := ["q", "one", "other"]
abbrev P_letter_times : List Str := ["q", "one", "other"]
theorem sc_letter_times : FnScope N_letter_times P_letter_times (defScope s_letter_times) := ⟨rfl, rfl, rfl, by decide +kernel, rfl, by decide +kernel, by decide +kernel⟩
abbrev s_letter_inverse : Stmt := top 12
abbrev N_letter_inverse : List Str := ["q", "letter", "other"]
abbrev P_letter_inverse : List Str := ["q", "letter"]
theorem sc_letter_inverse : FnScope N_letter_inverse P_letter_inverse (defScope s_letter_inverse) := ⟨rfl, rfl, rfl, by decide +kernel, rfl, by decide +kernel, by decide +kernel⟩
abbrev s_row_sum : Stmt := top 13
abbrev N_row_sum : List Str := ["q", "one", "other", "left", "right"]
abbrev P_row_sum : List Str := ["q", "one", "other"]
theorem sc_row_sum : FnScope N_row_sum P_row_sum (defScope s_row_sum) := ⟨rfl, rfl, rfl, by decide +kernel, rfl, by decide +kernel, by decide +kernel⟩
abbrev s_row_times : Stmt := top 14
abbrev N_row_times : List Str := ["q", "letter", "row", "item"]
abbrev P_row_times : List Str := ["q", "letter", "row"]
theorem sc_row_times : FnScope N_row_times P_row_times (defScope s_row_times) := ⟨rfl, rfl, rfl, by decide +kernel, rfl, by decide +kernel, by decide +kernel⟩
abbrev s_row_support : Stmt := top 15
abbrev N_row_support : List Str := ["row", "place"]
abbrev P_row_support : List Str := ["row"]
theorem sc_row_support : FnScope N_row_support P_row_support (defScope s_row_support) := ⟨rfl, rfl, rfl, by decide +kernel, rfl, by decide +kernel, by decide +kernel⟩
abbrev s_is_integer : Stmt := top 17
abbrev N_is_integer : List Str := ["thing"]
abbrev P_is_integer : List Str := ["thing"]
theorem sc_is_integer : FnScope N_is_integer P_is_integer (defScope s_is_integer) := ⟨rfl, rfl, rfl, by decide +kernel, rfl, by decide +kernel, by decide +kernel⟩
abbrev s_is_integer_from : Stmt := top 18
abbrev N_is_integer_from : List Str := ["thing", "low", "high"]
abbrev P_is_integer_from : List Str := ["thing", "low", "high"]
theorem sc_is_integer_from : FnScope N_is_integer_from P_is_integer_from (defScope s_is_integer_from) := ⟨rfl, rfl, rfl, by decide +kernel, rfl, by decide +kernel, by decide +kernel⟩
abbrev s_are_integers : Stmt := top 19
abbrev N_are_integers : List Str := ["thing", "item"]
abbrev P_are_integers : List Str := ["thing"]
theorem sc_are_integers : FnScope N_are_integers P_are_integers (defScope s_are_integers) := ⟨rfl, rfl, rfl, by decide +kernel, rfl, by decide +kernel, by decide +kernel⟩
abbrev s_are_integers_from : Stmt := top 20
abbrev N_are_integers_from : List Str := ["thing", "low", "high", "item"]
abbrev P_are_integers_from : List Str := ["thing", "low", "high"]
theorem sc_are_integers_from : FnScope N_are_integers_from P_are_integers_from (defScope s_are_integers_from) := ⟨rfl, rfl, rfl, by decide +kernel, rfl, by decide +kernel, by decide +kernel⟩
abbrev s_are_letters : Stmt := top 21
abbrev N_are_letters : List Str := ["q", "thing"]
abbrev P_are_letters : List Str := ["q", "thing"]
theorem sc_are_letters : FnScope N_are_letters P_are_letters (defScope s_are_letters) := ⟨rfl, rfl, rfl, by decide +kernel, rfl, by decide +kernel, by decide +kernel⟩
abbrev s_is_row : Stmt := top 22
abbrev N_is_row : List Str := ["q", "n", "thing"]
abbrev P_is_row : List Str := ["q", "n", "thing"]
theorem sc_is_row : FnScope N_is_row P_is_row (defScope s_is_row) := ⟨rfl, rfl, rfl, by decide +kernel, rfl, by decide +kernel, by decide +kernel⟩
abbrev s_check_field : Stmt := top 24
abbrev N_check_field : List Str := ["q"]
abbrev P_check_field : List Str := ["q"]
theorem sc_check_field : FnScope N_check_field P_check_field (defScope s_check_field) := ⟨rfl, rfl, rfl, by decide +kernel, rfl, by decide +kernel, by decide +kernel⟩
abbrev s_is_polynomial : Stmt := top 27
abbrev N_is_polynomial : List Str := ["thing"]
abbrev P_is_polynomial : List Str := ["thing"]
theorem sc_is_polynomial : FnScope N_is_polynomial P_is_polynomial (defScope s_is_polynomial) := ⟨rfl, rfl, rfl, by decide +kernel, rfl, by decide +kernel, by decide +kernel⟩
abbrev s_check_polynomial : Stmt := top 28
abbrev N_check_polynomial : List Str := ["thing"]
abbrev P_check_polynomial : List Str := ["thing"]
theorem sc_check_polynomial : FnScope N_check_polynomial P_check_polynomial (defScope s_check_polynomial) := ⟨rfl, rfl, rfl, by decide +kernel, rfl, by decide +kernel, by decide +kernel⟩
abbrev s_lead_of : Stmt := top 30
abbrev N_lead_of : List Str := ["row"]
abbrev P_lead_of : List Str := ["row"]
theorem sc_lead_of : FnScope N_lead_of P_lead_of (defScope s_lead_of) := ⟨rfl, rfl, rfl, by decide +kernel, rfl, by decide +kernel, by decide +kernel⟩
abbrev s_with_zero_at : Stmt := top 31
abbrev N_with_zero_at : List Str := ["q", "place", "row", "head"]
abbrev P_with_zero_at : List Str := ["q", "place", "row", "head"]
theorem sc_with_zero_at : FnScope N_with_zero_at P_with_zero_at (defScope s_with_zero_at) := ⟨rfl, rfl, rfl, by decide +kernel, rfl, by decide +kernel, by decide +kernel⟩
abbrev s_reduced_rows : Stmt := top 32
abbrev N_reduced_rows : List Str := ["q", "n", "rows", "left", "done", "place", "heads", "head", "row"]
abbrev P_reduced_rows : List Str := ["q", "n", "rows"]
theorem sc_reduced_rows : FnScope N_reduced_rows P_reduced_rows (defScope s_reduced_rows) := ⟨rfl, rfl, rfl, by decide +kernel, rfl, by decide +kernel, by decide +kernel⟩
abbrev s_divided : Stmt := top 34
abbrev N_divided : List Str := ["polynomial", "root", "sums", "carried", "coefficient"]
abbrev P_divided : List Str := ["polynomial", "root"]
theorem sc_divided : FnScope N_divided P_divided (defScope s_divided) := ⟨rfl, rfl, rfl, by decide +kernel, rfl, by decide +kernel, by decide +kernel⟩
abbrev s_subcounts : Stmt := top 35
abbrev N_subcounts : List Str := ["q", "polynomial", "found", "left", "root", "remainder"]
abbrev P_subcounts : List Str := ["q", "polynomial"]
theorem sc_subcounts : FnScope N_subcounts P_subcounts (defScope s_subcounts) := ⟨rfl, rfl, rfl, by decide +kernel, rfl, by decide +kernel, by decide +kernel⟩
abbrev s_Book___init__ : Stmt := inClass (top 38) 0
abbrev N_Book___init__ : List Str := ["self", "q", "n", "rows", "number", "row"]
abbrev P_Book___init__ : List Str := ["self", "q", "n", "rows"]
theorem sc_Book___init__ : FnScope N_Book___init__ P_Book___init__ (defScope s_Book___init__) := ⟨rfl, rfl, rfl, by decide +kernel, rfl, by decide +kernel, by decide +kernel⟩
abbrev s_Book___eq__ : Stmt := inClass (top 38) 1
abbrev N_Book___eq__ : List Str := ["self", "other"]
abbrev P_Book___eq__ : List Str := ["self", "other"]
theorem sc_Book___eq__ : FnScope N_Book___eq__ P_Book___eq__ (defScope s_Book___eq__) := ⟨rfl, rfl, rfl, by decide +kernel, rfl, by decide +kernel, by decide +kernel⟩
abbrev s__law_deck : Stmt := top 44
abbrev N__law_deck : List Str := ["_law_script", "_law_mixed", "_law_cell"]
abbrev P__law_deck : List Str := ["_law_script"]
theorem sc__law_deck : FnScope N__law_deck P__law_deck (defScope s__law_deck) := ⟨rfl, rfl, rfl, by decide +kernel, rfl, by decide +kernel, by decide +kernel⟩
abbrev s__law_draw : Stmt := top 45
abbrev N__law_draw : List Str := ["_law_deck_here", "_law_many", "_law_figure", "_law_cell"]
abbrev P__law_draw : List Str := ["_law_deck_here", "_law_many"]
theorem sc__law_draw : FnScope N__law_draw P__law_draw (defScope s__law_draw) := ⟨rfl, rfl, rfl, by decide +kernel, rfl, by decide +kernel, by decide +kernel⟩
abbrev s__law_pick : Stmt := top 46
abbrev N__law_pick : List Str := ["_law_deck_here", "_law_some"]
abbrev P__law_pick : List Str := ["_law_deck_here", "_law_some"]
theorem sc__law_pick : FnScope N__law_pick P__law_pick (defScope s__law_pick) := ⟨rfl, rfl, rfl, by decide +kernel, rfl, by decide +kernel, by decide +kernel⟩
abbrev s__law_figures : Stmt := top 47
abbrev N__law_figures : List Str := ["_law_deck_here", "_law_way", "_law_sign", "_law_found", "_law_piece"]
abbrev P__law_figures : List Str := ["_law_deck_here"]
theorem sc__law_figures : FnScope N__law_figures P__law_figures (defScope s__law_figures) := ⟨rfl, rfl, rfl, by decide +kernel, rfl, by decide +kernel, by decide +kernel⟩
abbrev s__law_polynomial : Stmt := top 48
abbrev N__law_polynomial : List Str := ["_law_deck_here", "_law_most", "_law_found", "_law_turn"]
abbrev P__law_polynomial : List Str := ["_law_deck_here", "_law_most"]
theorem sc__law_polynomial : FnScope N__law_polynomial P__law_polynomial (defScope s__law_polynomial) := ⟨rfl, rfl, rfl, by decide +kernel, rfl, by decide +kernel, by decide +kernel⟩
abbrev s__law_is_polynomial : Stmt := top 49
abbrev N__law_is_polynomial : List Str := ["_law_thing", "_law_it"]
abbrev P__law_is_polynomial : List Str := ["_law_thing"]
theorem sc__law_is_polynomial : FnScope N__law_is_polynomial P__law_is_polynomial (defScope s__law_is_polynomial) := ⟨rfl, rfl, rfl, by decide +kernel, rfl, by decide +kernel, by decide +kernel⟩
abbrev s__law_at : Stmt := top 50
abbrev N__law_at : List Str := ["_law_coefficients", "_law_point", "_law_found", "_law_coefficient"]
abbrev P__law_at : List Str := ["_law_coefficients", "_law_point"]
theorem sc__law_at : FnScope N__law_at P__law_at (defScope s__law_at) := ⟨rfl, rfl, rfl, by decide +kernel, rfl, by decide +kernel, by decide +kernel⟩
abbrev s__law_odd : Stmt := top 51
abbrev N__law_odd : List Str := ["_law_deck_here", "_law_it", "_law_some"]
abbrev P__law_odd : List Str := ["_law_deck_here", "_law_it"]
theorem sc__law_odd : FnScope N__law_odd P__law_odd (defScope s__law_odd) := ⟨rfl, rfl, rfl, by decide +kernel, rfl, by decide +kernel, by decide +kernel⟩
abbrev s__law_bent : Stmt := top 52
abbrev N__law_bent : List Str := ["_law_deck_here", "_law_it", "_law_at_here"]
abbrev P__law_bent : List Str := ["_law_deck_here", "_law_it"]
theorem sc__law_bent : FnScope N__law_bent P__law_bent (defScope s__law_bent) := ⟨rfl, rfl, rfl, by decide +kernel, rfl, by decide +kernel, by decide +kernel⟩
abbrev s__law_same : Stmt := top 53
abbrev N__law_same : List Str := ["_law_told", "_law_due"]
abbrev P__law_same : List Str := ["_law_told", "_law_due"]
theorem sc__law_same : FnScope N__law_same P__law_same (defScope s__law_same) := ⟨rfl, rfl, rfl, by decide +kernel, rfl, by decide +kernel, by decide +kernel⟩
abbrev s__law_is_refused : Stmt := top 54
abbrev N__law_is_refused : List Str := ["_law_word", "_law_book", "_law_call", "_law_told"]
abbrev P__law_is_refused : List Str := ["_law_word", "_law_book", "_law_call"]
theorem sc__law_is_refused : FnScope N__law_is_refused P__law_is_refused (defScope s__law_is_refused) := ⟨rfl, rfl, rfl, by decide +kernel, rfl, by decide +kernel, by decide +kernel⟩
abbrev s__law_is_split : Stmt := top 55
abbrev N__law_is_split : List Str := ["_law_told", "_law_polynomial_here", "_law_q", "_law_powers", "_law_turn", "_law_point", "_law_found", "_law_part", "_law_integer", "_law_power", "_law_it"]
abbrev P__law_is_split : List Str := ["_law_told", "_law_polynomial_here", "_law_q"]
theorem sc__law_is_split : FnScope N__law_is_split P__law_is_split (defScope s__law_is_split) := ⟨rfl, rfl, rfl, by decide +kernel, rfl, by decide +kernel, by decide +kernel⟩
abbrev s__law_added : Stmt := top 56
abbrev N__law_added : List Str := ["_law_integers", "_law_q", "_law_found", "_law_part", "_law_power", "_law_integer", "_law_one", "_law_other"]
abbrev P__law_added : List Str := ["_law_integers", "_law_q"]
theorem sc__law_added : FnScope N__law_added P__law_added (defScope s__law_added) := ⟨rfl, rfl, rfl, by decide +kernel, rfl, by decide +kernel, by decide +kernel⟩
abbrev s__law_spaces : Stmt := top 57
abbrev N__law_spaces : List Str := ["_law_k", "_law_q", "_law_row", "_law_turn", "_law_power", "_law_more", "_law_one", "_law_other"]
abbrev P__law_spaces : List Str := ["_law_k", "_law_q"]
theorem sc__law_spaces : FnScope N__law_spaces P__law_spaces (defScope s__law_spaces) := ⟨rfl, rfl, rfl, by decide +kernel, rfl, by decide +kernel, by decide +kernel⟩
abbrev s__law_refused : Stmt := top 58
abbrev N__law_refused : List Str := ["_law_call", "_law_told", "e"]
abbrev P__law_refused : List Str := ["_law_call"]
theorem sc__law_refused : FnScope N__law_refused P__law_refused (defScope s__law_refused) := ⟨rfl, rfl, rfl, by decide +kernel, rfl, by decide +kernel, by decide +kernel⟩
abbrev s__law_are_books_refused : Stmt := top 59
abbrev N__law_are_books_refused : List Str := ["_law_book"]
abbrev P__law_are_books_refused : List Str := ["_law_book"]
theorem sc__law_are_books_refused : FnScope N__law_are_books_refused P__law_are_books_refused (defScope s__law_are_books_refused) := ⟨rfl, rfl, rfl, by decide +kernel, rfl, by decide +kernel, by decide +kernel⟩
abbrev s_law : Stmt := top 60
abbrev N_law : List Str := ["_law_script", "_law_deck_here", "_law_turn", "_law_integers", "_law_k", "_law_way", "_law_text", "_law_due", "_law_told", "_law_one", "_law_q", "_law_at_here"]
abbrev P_law : List Str := ["_law_script"]
theorem sc_law : FnScope N_law P_law (defScope s_law) := ⟨rfl, rfl, rfl, by decide +kernel, rfl, by decide +kernel, by decide +kernel⟩
def four : List (List Int) := [[0, 0, 0, 0], [0, 1, 2, 3], [0, 2, 3, 1], [0, 3, 1, 2]]
def FourTab (K : PySem.W.Frag) (t : Addr) : Prop := ∃ rs : List Addr, rs.length = 4 ∧ (∀ H : Hp, SqT K H t (rs.map V.ref)) ∧ ∀ (i : Nat) (r : Addr) (H : Hp), rs[i]? = some r → SqT K H r ((four.getD i []).map V.int)
structure ClsIs (K : PySem.W.Frag) (C : Addr) : Prop where
  ha : PySem.W.findIn K (.ref C) "__class__" = some (some (.builtin "object.__class__"))
  hn : PySem.W.specialIn K (.builtin "object.__class__") "__get__" = some (some (.builtin "getset_descriptor.__get__"))
  ht : PySem.W.takesIn K (.builtin "object.__class__") = some true
  hm : PySem.W.mroIn K C (.type "object") = some true
  nt : PySem.W.kitOne K (.ref C) (.type "tuple") = some false
  ni : PySem.W.kitOne K (.ref C) (.type "int") = some false
structure Txt (K : PySem.W.Frag) (mg : Str → Option Value) where
  a_letter_sum : Addr
  d_letter_sum : FuncData
  F_letter_sum : Fun K "letter_sum" "letter_sum" s_letter_sum a_letter_sum d_letter_sum
  m_letter_sum : mg "letter_sum" = some (.ref a_letter_sum)
  b_letter_sum : Binds K d_letter_sum P_letter_sum []
  a_letter_negative : Addr
  d_letter_negative : FuncData
  F_letter_negative : Fun K "letter_negative" "letter_negative" s_letter_negative a_letter_negative d_letter_negative
  m_letter_negative : mg "letter_negative" = some (.ref a_letter_negative)
  b_letter_negative : Binds K d_letter_negative P_letter_negative []
  a_letter_times : Addr
  d_letter_times : FuncData
  F_letter_times : Fun K "letter_times" "letter_times" s_letter_times a_letter_times d_letter_times
  m_letter_times : mg "letter_times" = some (.ref a_letter_times)
  b_letter_times : Binds K d_letter_times P_letter_times []
  a_letter_inverse : Addr
  d_letter_inverse : FuncData
  F_letter_inverse : Fun K "letter_inverse" "letter_inverse" s_letter_inverse a_letter_inverse d_letter_inverse
  m_letter_inverse : mg "letter_inverse" = some (.ref a_letter_inverse)
  b_letter_inverse : Binds K d_letter_inverse P_letter_inverse []
  a_row_sum : Addr
  d_row_sum : FuncData
  F_row_sum : Fun K "row_sum" "row_sum" s_row_sum a_row_sum d_row_sum
  m_row_sum : mg "row_sum" = some (.ref a_row_sum)
  b_row_sum : Binds K d_row_sum P_row_sum []
  a_row_times : Addr
  d_row_times : FuncData
  F_row_times : Fun K "row_times" "row_times" s_row_times a_row_times d_row_times
  m_row_times : mg "row_times" = some (.ref a_row_times)
  b_row_times : Binds K d_row_times P_row_times []
  a_row_support : Addr
  d_row_support : FuncData
  F_row_support : Fun K "row_support" "row_support" s_row_support a_row_support d_row_support
  m_row_support : mg "row_support" = some (.ref a_row_support)
  b_row_support : Binds K d_row_support P_row_support []
  a_is_integer : Addr
  d_is_integer : FuncData
  F_is_integer : Fun K "is_integer" "is_integer" s_is_integer a_is_integer d_is_integer
  m_is_integer : mg "is_integer" = some (.ref a_is_integer)
  b_is_integer : Binds K d_is_integer P_is_integer []
  a_is_integer_from : Addr
  d_is_integer_from : FuncData
  F_is_integer_from : Fun K "is_integer_from" "is_integer_from" s_is_integer_from a_is_integer_from d_is_integer_from
  m_is_integer_from : mg "is_integer_from" = some (.ref a_is_integer_from)
  b_is_integer_from : Binds K d_is_integer_from P_is_integer_from []
  a_are_integers : Addr
  d_are_integers : FuncData
  F_are_integers : Fun K "are_integers" "are_integers" s_are_integers a_are_integers d_are_integers
  m_are_integers : mg "are_integers" = some (.ref a_are_integers)
  b_are_integers : Binds K d_are_integers P_are_integers []
  a_are_integers_from : Addr
  d_are_integers_from : FuncData
  F_are_integers_from : Fun K "are_integers_from" "are_integers_from" s_are_integers_from a_are_integers_from d_are_integers_from
  m_are_integers_from : mg "are_integers_from" = some (.ref a_are_integers_from)
  b_are_integers_from : Binds K d_are_integers_from P_are_integers_from []
  a_are_letters : Addr
  d_are_letters : FuncData
  F_are_letters : Fun K "are_letters" "are_letters" s_are_letters a_are_letters d_are_letters
  m_are_letters : mg "are_letters" = some (.ref a_are_letters)
  b_are_letters : Binds K d_are_letters P_are_letters []
  a_is_row : Addr
  d_is_row : FuncData
  F_is_row : Fun K "is_row" "is_row" s_is_row a_is_row d_is_row
  m_is_row : mg "is_row" = some (.ref a_is_row)
  b_is_row : Binds K d_is_row P_is_row []
  a_check_field : Addr
  d_check_field : FuncData
  F_check_field : Fun K "check_field" "check_field" s_check_field a_check_field d_check_field
  m_check_field : mg "check_field" = some (.ref a_check_field)
  b_check_field : Binds K d_check_field P_check_field []
  a_is_polynomial : Addr
  d_is_polynomial : FuncData
  F_is_polynomial : Fun K "is_polynomial" "is_polynomial" s_is_polynomial a_is_polynomial d_is_polynomial
  m_is_polynomial : mg "is_polynomial" = some (.ref a_is_polynomial)
  b_is_polynomial : Binds K d_is_polynomial P_is_polynomial []
  a_check_polynomial : Addr
  d_check_polynomial : FuncData
  F_check_polynomial : Fun K "check_polynomial" "check_polynomial" s_check_polynomial a_check_polynomial d_check_polynomial
  m_check_polynomial : mg "check_polynomial" = some (.ref a_check_polynomial)
  b_check_polynomial : Binds K d_check_polynomial P_check_polynomial []
  a_lead_of : Addr
  d_lead_of : FuncData
  F_lead_of : Fun K "lead_of" "lead_of" s_lead_of a_lead_of d_lead_of
  m_lead_of : mg "lead_of" = some (.ref a_lead_of)
  b_lead_of : Binds K d_lead_of P_lead_of []
  a_with_zero_at : Addr
  d_with_zero_at : FuncData
  F_with_zero_at : Fun K "with_zero_at" "with_zero_at" s_with_zero_at a_with_zero_at d_with_zero_at
  m_with_zero_at : mg "with_zero_at" = some (.ref a_with_zero_at)
  b_with_zero_at : Binds K d_with_zero_at P_with_zero_at []
  a_reduced_rows : Addr
  d_reduced_rows : FuncData
  F_reduced_rows : Fun K "reduced_rows" "reduced_rows" s_reduced_rows a_reduced_rows d_reduced_rows
  m_reduced_rows : mg "reduced_rows" = some (.ref a_reduced_rows)
  b_reduced_rows : Binds K d_reduced_rows P_reduced_rows []
  a_divided : Addr
  d_divided : FuncData
  F_divided : Fun K "divided" "divided" s_divided a_divided d_divided
  m_divided : mg "divided" = some (.ref a_divided)
  b_divided : Binds K d_divided P_divided []
  a_subcounts : Addr
  d_subcounts : FuncData
  F_subcounts : Fun K "subcounts" "subcounts" s_subcounts a_subcounts d_subcounts
  m_subcounts : mg "subcounts" = some (.ref a_subcounts)
  b_subcounts : Binds K d_subcounts P_subcounts []
  q_subcounts_polynomial_q : KBinds K d_subcounts P_subcounts ["polynomial", "q"] two2s two2s
  a_Book___init__ : Addr
  d_Book___init__ : FuncData
  F_Book___init__ : Fun K "__init__" "Book.__init__" s_Book___init__ a_Book___init__ d_Book___init__
  b_Book___init__ : Binds K d_Book___init__ P_Book___init__ []
  a_Book___eq__ : Addr
  d_Book___eq__ : FuncData
  F_Book___eq__ : Fun K "__eq__" "Book.__eq__" s_Book___eq__ a_Book___eq__ d_Book___eq__
  b_Book___eq__ : Binds K d_Book___eq__ P_Book___eq__ []
  a__law_deck : Addr
  d__law_deck : FuncData
  F__law_deck : Fun K "_law_deck" "_law_deck" s__law_deck a__law_deck d__law_deck
  m__law_deck : mg "_law_deck" = some (.ref a__law_deck)
  b__law_deck : Binds K d__law_deck P__law_deck []
  a__law_draw : Addr
  d__law_draw : FuncData
  F__law_draw : Fun K "_law_draw" "_law_draw" s__law_draw a__law_draw d__law_draw
  m__law_draw : mg "_law_draw" = some (.ref a__law_draw)
  b__law_draw : Binds K d__law_draw P__law_draw []
  a__law_pick : Addr
  d__law_pick : FuncData
  F__law_pick : Fun K "_law_pick" "_law_pick" s__law_pick a__law_pick d__law_pick
  m__law_pick : mg "_law_pick" = some (.ref a__law_pick)
  b__law_pick : Binds K d__law_pick P__law_pick []
  a__law_figures : Addr
  d__law_figures : FuncData
  F__law_figures : Fun K "_law_figures" "_law_figures" s__law_figures a__law_figures d__law_figures
  m__law_figures : mg "_law_figures" = some (.ref a__law_figures)
  b__law_figures : Binds K d__law_figures P__law_figures []
  a__law_polynomial : Addr
  d__law_polynomial : FuncData
  F__law_polynomial : Fun K "_law_polynomial" "_law_polynomial" s__law_polynomial a__law_polynomial d__law_polynomial
  m__law_polynomial : mg "_law_polynomial" = some (.ref a__law_polynomial)
  b__law_polynomial : Binds K d__law_polynomial P__law_polynomial []
  a__law_is_polynomial : Addr
  d__law_is_polynomial : FuncData
  F__law_is_polynomial : Fun K "_law_is_polynomial" "_law_is_polynomial" s__law_is_polynomial a__law_is_polynomial d__law_is_polynomial
  m__law_is_polynomial : mg "_law_is_polynomial" = some (.ref a__law_is_polynomial)
  b__law_is_polynomial : Binds K d__law_is_polynomial P__law_is_polynomial []
  a__law_at : Addr
  d__law_at : FuncData
  F__law_at : Fun K "_law_at" "_law_at" s__law_at a__law_at d__law_at
  m__law_at : mg "_law_at" = some (.ref a__law_at)
  b__law_at : Binds K d__law_at P__law_at []
  a__law_odd : Addr
  d__law_odd : FuncData
  F__law_odd : Fun K "_law_odd" "_law_odd" s__law_odd a__law_odd d__law_odd
  m__law_odd : mg "_law_odd" = some (.ref a__law_odd)
  b__law_odd : Binds K d__law_odd P__law_odd []
  a__law_bent : Addr
  d__law_bent : FuncData
  F__law_bent : Fun K "_law_bent" "_law_bent" s__law_bent a__law_bent d__law_bent
  m__law_bent : mg "_law_bent" = some (.ref a__law_bent)
  b__law_bent : Binds K d__law_bent P__law_bent []
  a__law_same : Addr
  d__law_same : FuncData
  F__law_same : Fun K "_law_same" "_law_same" s__law_same a__law_same d__law_same
  m__law_same : mg "_law_same" = some (.ref a__law_same)
  b__law_same : Binds K d__law_same P__law_same []
  a__law_is_refused : Addr
  d__law_is_refused : FuncData
  F__law_is_refused : Fun K "_law_is_refused" "_law_is_refused" s__law_is_refused a__law_is_refused d__law_is_refused
  m__law_is_refused : mg "_law_is_refused" = some (.ref a__law_is_refused)
  b__law_is_refused : Binds K d__law_is_refused P__law_is_refused []
  a__law_is_split : Addr
  d__law_is_split : FuncData
  F__law_is_split : Fun K "_law_is_split" "_law_is_split" s__law_is_split a__law_is_split d__law_is_split
  m__law_is_split : mg "_law_is_split" = some (.ref a__law_is_split)
  b__law_is_split : Binds K d__law_is_split P__law_is_split []
  a__law_added : Addr
  d__law_added : FuncData
  F__law_added : Fun K "_law_added" "_law_added" s__law_added a__law_added d__law_added
  m__law_added : mg "_law_added" = some (.ref a__law_added)
  b__law_added : Binds K d__law_added P__law_added []
  a__law_spaces : Addr
  d__law_spaces : FuncData
  F__law_spaces : Fun K "_law_spaces" "_law_spaces" s__law_spaces a__law_spaces d__law_spaces
  m__law_spaces : mg "_law_spaces" = some (.ref a__law_spaces)
  b__law_spaces : Binds K d__law_spaces P__law_spaces []
  a__law_refused : Addr
  d__law_refused : FuncData
  F__law_refused : Fun K "_law_refused" "_law_refused" s__law_refused a__law_refused d__law_refused
  m__law_refused : mg "_law_refused" = some (.ref a__law_refused)
  b__law_refused : Binds K d__law_refused P__law_refused []
  a__law_are_books_refused : Addr
  d__law_are_books_refused : FuncData
  c__law_are_books_refused : Addr
  tP__law_are_books_refused : Addr
  F__law_are_books_refused : FunL K "_law_are_books_refused" "_law_are_books_refused" s__law_are_books_refused a__law_are_books_refused d__law_are_books_refused c__law_are_books_refused
  m__law_are_books_refused : mg "_law_are_books_refused" = some (.ref a__law_are_books_refused)
  b__law_are_books_refused : Binds K d__law_are_books_refused P__law_are_books_refused []
  a_law : Addr
  d_law : FuncData
  c_law : Addr
  tP_law : Addr
  F_law : FunL K "law" "law" s_law a_law d_law c_law
  m_law : mg "law" = some (.ref a_law)
  b_law : Binds K d_law P_law []
  B0 : Addr
  gB : mg "BookError" = some (.ref B0)
  C_BadField : Addr
  I_BadField : Addr
  e_BadField : Er.Txt P K mg B0 C_BadField I_BadField "BadField" "thing"
  C_BadPolynomial : Addr
  I_BadPolynomial : Addr
  e_BadPolynomial : Er.Txt P K mg B0 C_BadPolynomial I_BadPolynomial "BadPolynomial" "thing"
  C_Book : Addr
  g_Book : mg "Book" = some (.ref C_Book)
  cl_Book : Cls K C_Book
  mk_Book : Mk K C_Book a_Book___init__
  is_Book : ClsIs K C_Book
  no_Book_q : NoAttr K C_Book "q"
  no_Book_n : NoAttr K C_Book "n"
  no_Book_rows : NoAttr K C_Book "rows"
  no_Book_dimension : NoAttr K C_Book "dimension"
  eq_Book : PySem.W.findIn K (.ref C_Book) "__eq__" = some (some (.ref a_Book___eq__))
  eqf_Book : PySem.W.isFn K (.ref a_Book___eq__) = true
  t_MOST_PLACES : Tok
  m_MOST_PLACES : mg "MOST_PLACES" = some (.int 8 t_MOST_PLACES)
  t_MOST_ROWS : Tok
  m_MOST_ROWS : mg "MOST_ROWS" = some (.int 16 t_MOST_ROWS)
  t_four : Addr
  m_four : mg "FOUR_TIMES" = some (.ref t_four)
  four : FourTab K t_four
  tnd : [tP__law_are_books_refused, tP_law].Nodup
  x_pf : PySem.W.subIn K (.ref C_BadPolynomial) (.ref C_BadField) = some false
  m_abs : mg "abs" = none
  m_all : mg "all" = none
  m_bool : mg "bool" = none
  m_enumerate : mg "enumerate" = none
  m_int : mg "int" = none
  m_isinstance : mg "isinstance" = none
  m_len : mg "len" = none
  m_list : mg "list" = none
  m_max : mg "max" = none
  m_min : mg "min" = none
  m_range : mg "range" = none
  m_repr : mg "repr" = none
  m_reversed : mg "reversed" = none
  m_str : mg "str" = none
  m_tuple : mg "tuple" = none
  m_zip : mg "zip" = none
def spLaw (K : PySem.W.Frag) (TT : List (Addr × Str)) : Sp := fun vs H Q _ => ∃ (a : Addr) (ns : List Int), vs = [.ref a] ∧ SqL K H a (ns.map V.int) ∧ ns.length ≤ 63 ∧ Tabs TT H ∧ ∀ H', Q (.bl true) H'
def TI (K : PySem.W.Frag) (H : Hp) (v : V) (ns : List Int) : Prop := ∃ a, v = .ref a ∧ SqT K H a (ns.map V.int)
theorem _root_.L2.Same.tup {K : PySem.W.Frag} {H H' : Hp} {a : Addr} {xs : List V} (e : Same H H') (h : SqT K H a xs) : SqT K H' a xs := by
  rcases h with (h | ⟨o, h⟩) | h
  · exact .inl (.inl (e _ _ h))
  · exact .inl (.inr ⟨o, e _ _ h⟩)
  · exact .inr h
theorem TI.same {K : PySem.W.Frag} {H H' : Hp} {v : V} {ns : List Int} (h : TI K H v ns) (e : Same H H') : TI K H' v ns :=
  let ⟨a, h1, h2⟩ := h
  ⟨a, h1, e.tup h2⟩
theorem same_upd {H : Hp} {p : Addr} {o : HO} (h : H p = none) : Same H (upd H p o) := fun b u e => by
  rw [upd_ne (ne_of_none e h)]
  exact e
theorem same_set {H H' : Hp} {p : Addr} {o : HO} (h : H p = none) (e : Same H H') : Same H (upd H' p o) := fun b u q => by
  rw [upd_ne (ne_of_none q h)]
  exact e b u q
theorem tyx_tup {K : PySem.W.Frag} {H : Hp} {a : Addr} {xs : List V} (h : SqT K H a xs) : TyX K H (.ref a) (.type "tuple") := by
  rcases h with (h | ⟨o, h⟩) | ⟨o, its, n, h1, h2, _⟩
  · exact .base (.tup h)
  · exact .fTuple h
  · exact .kTuple h1 h2
theorem int_at {ns : List Int} {i : Nat} {x : V} (h : (ns.map V.int)[i]? = some x) : ∃ z, ns[i]? = some z ∧ x = .int z := by
  rw [List.getElem?_map] at h
  cases e : ns[i]? with
  | none =>
    rw [e] at h
    cases h
  | some z =>
    rw [e] at h
    exact ⟨z, rfl, (Option.some.inj h).symm⟩
theorem line_le {n : Nat} (h : n ≤ 100000) : n < sizeLine := Nat.lt_of_le_of_lt h (by decide)
end K28
end
section
set_option maxRecDepth 100000
set_option maxHeartbeats 4000000
set_option exponentiation.threshold 9000
namespace K28
open PySem PySem.Spec PyProof.Rows L2 MB PM
open LamX hiding takes0
abbrev kL : Str := "left"
theorem kOk : KOk kL := ⟨by decide +kernel, by decide +kernel⟩
theorem cut63 {ns : List Int} (h : ns.length ≤ 63) : cutV (ns.map V.int) none (some (63 : Int)) = ns.map V.int := by
  have e : HT.sIx ns.length ns.length (some (63 : Int)) = min 63 ns.length := HT.sIx_nat _ _ 63
  unfold cutV
  rw [HT.sIx_none, List.drop_zero, List.length_map, e, List.take_of_length_le (by rw [List.length_map]; omega)]
theorem get_left {H : Hp} {d l : Addr} {m n : Int} (h : H d = some (.dK (dk kL l m n))) : DGet H d (.str kL) (some (.ref l)) :=
  .inl ⟨_, .inr kL, .inl h, rfl, dk_left.symm⟩
theorem get_mixed {H : Hp} {d l : Addr} {m n : Int} (h : H d = some (.dK (dk kL l m n))) : DGet H d (.str "mixed") (some (.int m)) :=
  .inl ⟨_, .inr "mixed", .inl h, rfl, (dk_mixed kOk).symm⟩
theorem get_draws {H : Hp} {d l : Addr} {m n : Int} (h : H d = some (.dK (dk kL l m n))) : DGet H d (.str "draws") (some (.int n)) :=
  .inl ⟨_, .inr "draws", .inl h, rfl, (dk_draws kOk).symm⟩
section
variable {w : World} {K : PySem.W.Frag} {mg : Str → Option Value} {base : Heap}
def spDeck (K : PySem.W.Frag) : Sp := fun vs H Q _ => ∃ (a : Addr) (ns : List Int), vs = [.ref a] ∧ SqL K H a (ns.map V.int) ∧ ns.length ≤ 63 ∧
  ∀ d l H', Same H H' → Deck kL H' d l → Q (.ref d) H'
theorem ok__law_deck (T : Txt K mg) : FnOk P w K mg base CX0 1 T.a__law_deck T.d__law_deck P__law_deck (spDeck K) := by
  refine T.F__law_deck.ok sc__law_deck (fun vs H Q E h => ?_) (fun cdv A outer s H vs Q E hr h => ?_)
  · obtain ⟨a, ns, rfl, _⟩ := h
    rfl
  · obtain ⟨a, ns, rfl, ha, hl, q⟩ := h
    refine ⟨_, 
      (pss_cons (ps_set (i := 1) sc__law_deck.nd rfl (Or.inl rfl) pe_int)
      (pss_cons (ps_for PassesOwn.never rfl (pi_list (pe_slice sl_list (pv 0) po_none (po_some pe_int))) (pg_name (i := 2) sc__law_deck.nd rfl (Or.inl rfl)) (pss_one (ps_set (i := 1) sc__law_deck.nd rfl (Or.inl rfl) (pe_op op_mod (pe_callTy call_int1 (by rfl) T.m_int (by decide +kernel) (pa_cons (pe_op op_add (pe_op op_add (pe_op op_mul (pv 1) pe_int) (pe_op op_mod (pe_callTy call_int1 (by rfl) T.m_int (by decide +kernel) (pa_cons (pv 2) pa_nil)) pe_int)) pe_int) pa_nil)) pe_int))))
      (pss_one (ps_ret (pe_disp (pps_cons pe_str (pe_revL (pe_callTy call_list_of (by rfl) T.m_list (by decide +kernel) (pa_cons (pe_slice sl_list (pv 0) po_none (po_some pe_int)) pa_nil))) (pps_cons pe_str (pv 1) (pps_cons pe_str pe_int pps_nil))) (by rfl) (by rfl) (fun z => by cases z) (by decide)))))), ?_⟩
    refine ⟨_, rfl, _, rfl, a, _, rfl, ha, fun p hp => ?_⟩
    rw [cut63 hl]
    have s1 := same_upd (o := .lst (ns.map V.int)) hp
    refine ⟨p, rfl, ⟨_, SqL.of upd_same⟩, for_it (walk_list (K := K) (a := p) (xs := ns.map V.int))
      (fun i σ H' => ∃ (m : Int) (u : Option V), σ = [some (.ref a), some (.int m), u] ∧ 0 ≤ m ∧ m < 2147483648 ∧ H' = upd H p (.lst (ns.map V.int)))
      ⟨_, none, rfl, by decide, by decide, rfl⟩ (fun i σ H' _ ⟨_, _, _, _, _, e⟩ => by rw [e]; exact SqL.of upd_same) ?_ ?_⟩
    · rintro i v _ _ _ hi ⟨m, u, rfl, m0, m1, rfl⟩ ⟨rfl, hv⟩
      obtain ⟨c, hc, rfl⟩ := int_at hv
      refine ⟨_, rfl, _, _, rfl, rfl, .inr (by decide), _, rfl, .inl ⟨_, rfl, ?_⟩⟩
      refine ⟨_, _, rfl, rfl, (by decide : (0 : Int) < 2147483629), _, _, rfl, rfl, _, _, rfl, rfl, .inl ⟨_, rfl, ?_⟩⟩
      refine ⟨_, _, rfl, rfl, (by decide : (0 : Int) < 2147483587), _, _, rfl, ?_, ?_, rfl⟩
      · exact Int.emod_nonneg _ (by decide)
      · exact Int.lt_trans (Int.emod_lt_of_pos _ (by decide)) (by decide)
    · rintro _ _ ⟨m, u, rfl, m0, m1, rfl⟩
      refine fun d hd => ?_
      have s2 := s1.trans (same_upd (o := .dK []) hd)
      refine ⟨_, rfl, _, rfl, a, _, rfl, s2.seq ha, fun p2 hp2 => ?_⟩
      rw [cut63 hl]
      have s3 := s2.trans (same_upd (o := .lst (ns.map V.int)) hp2)
      refine ⟨p2, _, rfl, .inl (SqL.of upd_same), fun p3 hp3 => ?_⟩
      have s4 := s3.trans (same_upd (o := .lst (ns.map V.int)) hp3)
      refine ⟨p3, _, rfl, SqL.of upd_same, fun l hl4 => ?_⟩
      have s5 := s4.trans (same_upd (o := .lst (ns.map V.int).reverse) hl4)
      refine ⟨_, rfl, ?_⟩
      have at3 : ∀ {q : Addr} {o : HO} {G : Hp}, G d = some (.dK []) → G q = none → (upd G q o) d = some (.dK []) := fun h1 h2 => (upd_ne (ne_of_none h1 h2)).trans h1
      have hd4 := at3 (o := .lst (ns.map V.int)) (at3 (o := .lst (ns.map V.int)) upd_same hp2) hp3
      have hd5 := at3 (o := .lst (ns.map V.int).reverse) hd4 hl4
      refine ⟨hd5, dk kL l m 0, rfl, (by decide : 3 ≤ 15), ?_⟩
      rw [dk_merge kOk]
      have hdl : l ≠ d := (ne_of_none hd4 hl4).symm
      refine q d l _ (same_set (s1.free hd) s5) ⟨m, 0, ns.reverse, upd_same, ?_, ?_, m0, m1⟩
      · rw [upd_ne hdl, upd_same, List.map_reverse]
      · rw [List.length_reverse]
        exact hl
def spDraw : Sp := fun vs H Q _ => ∃ (d l : Addr) (k : Int), vs = [.ref d, .int k] ∧ 0 < k ∧ k.natAbs < 2 ^ 8000 ∧ Deck kL H d l ∧
  ∀ (r : Int) H', 0 ≤ r → r < k → But d l H H' → Deck kL H' d l → Q (.int r) H'
theorem ok__law_draw (T : Txt K mg) : FnOk P w K mg base CX0 1 T.a__law_draw T.d__law_draw P__law_draw spDraw := by
  refine T.F__law_draw.ok sc__law_draw (fun vs H Q E h => ?_) (fun cdv A outer s H vs Q E hr h => ?_)
  · obtain ⟨d, l, k, rfl, _⟩ := h
    rfl
  · obtain ⟨d, l, k, rfl, k0, kb, D, q⟩ := h
    have hne := D.ne
    obtain ⟨m, n, cs, hd, hl, lc, m0, m1⟩ := D.ex
    refine ⟨_, 
      (pss_cons (ps_dput (hu_of hr) (pv 0) pe_str (pe_op op_add (pe_dget (hu_of hr) (pv 0) pe_str (fun _ _ => rfl)) pe_int) rfl)
      (pss_cons (ps_set (i := 2) sc__law_draw.nd rfl (Or.inl rfl) (pe_op op_add (pe_dget (hu_of hr) (pv 0) pe_str (fun _ _ => rfl)) (pe_op op_mul pe_int (pe_dget (hu_of hr) (pv 0) pe_str (fun _ _ => rfl)))))
      (pss_cons (ps_if (pt_cmpR (op_neD hr.units) (pe_dget (hu_of hr) (pv 0) pe_str (fun _ _ => rfl)) (pe_lst pa_nil) (nomark _)) (pss_cons (ps_set (i := 3) sc__law_draw.nd rfl (Or.inl rfl) (pe_bm0 PySem.F.plainAttrs_list PySem.F.slot_list_pop PySem.F.type_list_pop mt_pop (pe_dget (hu_of hr) (pv 0) pe_str (fun _ _ => rfl))))
      (pss_cons (ps_if (pt_cmpR op_ge (pv 3) (pe_op op_pow pe_int pe_int) (nomark _)) (pss_cons (ps_expr (pe_bm PySem.F.plainAttrs_list PySem.F.slot_list_append PySem.F.type_list_append mt_append (pe_dget (hu_of hr) (pv 0) pe_str (fun _ _ => rfl)) (pa_cons (pe_op op_fdivW (pv 3) (pe_callB (call_max2 rfl) (by rfl) T.m_max (by decide +kernel) (pa_cons pe_int (pa_cons (pv 1) pa_nil)))) pa_nil)))
      (pss_one (ps_ret (pe_op op_modN (pe_callTy call_int1 (by rfl) T.m_int (by decide +kernel) (pa_cons (pv 3) pa_nil)) (pv 1))))) pss_nil)
      (pss_one (ps_set (i := 2) sc__law_draw.nd rfl (Or.inl rfl) (pe_op op_add (pv 2) (pe_op op_mod (pe_callTy call_int1 (by rfl) T.m_int (by decide +kernel) (pa_cons (pv 3) pa_nil)) pe_int)))))) pss_nil)
      (pss_cons (ps_set (i := 2) sc__law_draw.nd rfl (Or.inl rfl) (pe_op op_mod (pe_callTy call_int1 (by rfl) T.m_int (by decide +kernel) (pa_cons (pe_op op_add (pe_op op_mul (pv 2) pe_int) pe_int) pa_nil)) pe_int))
      (pss_cons (ps_set (i := 2) sc__law_draw.nd rfl (Or.inl rfl) (pe_op op_mod (pe_callTy call_int1 (by rfl) T.m_int (by decide +kernel) (pa_cons (pe_op op_add (pe_op op_add (pe_op op_mulW (pv 2) (pv 2)) (pe_op op_mul pe_int (pe_dget (hu_of hr) (pv 0) pe_str (fun _ _ => rfl)))) pe_int) pa_nil)) pe_int))
      (pss_cons (ps_set (i := 2) sc__law_draw.nd rfl (Or.inl rfl) (pe_op op_mod (pe_callTy call_int1 (by rfl) T.m_int (by decide +kernel) (pa_cons (pe_op op_mul (pv 2) pe_int) pa_nil)) pe_int))
      (pss_one (ps_ret (pe_op op_modN (pe_callTy call_int1 (by rfl) T.m_int (by decide +kernel) (pa_cons (pe_op op_fdiv (pv 2) pe_int) pa_nil)) (pv 1)))))))))), ?_⟩
    refine ⟨_, rfl, d, _, rfl, get_draws hd, _, _, rfl, rfl, _, rfl, d, _, rfl, DPut.k (k := Sum.inr ("draws" : Str)) hd (line_le (by decide : 3 ≤ 100000)), ?_⟩
    rw [dk_put kOk]
    have hd1 : (upd H d (.dK (dk kL l m (n + 1)))) d = some (.dK (dk kL l m (n + 1))) := upd_same
    have hl1 : (upd H d (.dK (dk kL l m (n + 1)))) l = some (.lst (cs.map V.int)) := (upd_ne hne.symm).trans hl
    have e1 : But d l H (upd H d (.dK (dk kL l m (n + 1)))) := fun b o h h1 _ => (upd_ne h1).trans h
    have D1 : Deck kL (upd H d (.dK (dk kL l m (n + 1)))) d l := ⟨m, n + 1, cs, hd1, hl1, lc, m0, m1⟩
    refine ⟨_, rfl, d, _, rfl, get_mixed hd1, _, rfl, d, _, rfl, get_draws hd1, _, _, rfl, rfl, .inl (by decide), _, _, rfl, rfl, ?_⟩
    refine ⟨_, rfl, d, _, rfl, get_left hd1, (by decide : 0 ≤ sizeLine), fun p hp => ?_⟩
    have s2 := same_upd (o := .lst []) hp
    refine ne_nil_rd (SqL.of (s2 _ _ hl1)) (SqL.of upd_same) ⟨_, rfl, ?_⟩
    generalize hH2 : upd (upd H d (.dK (dk kL l m (n + 1)))) p (.lst []) = H2
    rw [hH2] at s2
    have hd2 := s2 _ _ hd1
    have hl2 := s2 _ _ hl1
    have e2 : But d l H H2 := e1.same s2
    have D2 : Deck kL H2 d l := D1.same s2
    clear hH2 s2 hp e1 D1 hd1 hl1
    cases hcs : cs with
    | nil =>
      refine iteF ?_
      have bnd : ∀ x : Int, (x % 2147483563).natAbs < 2 ^ 32 := fun x => by
        have h1 := Int.emod_nonneg x (by decide : (2147483563 : Int) ≠ 0)
        have h2 := Int.emod_lt_of_pos x (by decide : (0 : Int) < 2147483563)
        omega
      refine ⟨_, rfl, _, _, rfl, rfl, .inr (by decide), _, _, rfl, rfl, .inl ⟨_, rfl, ?_⟩⟩
      refine ⟨_, _, rfl, rfl, (by decide : (0 : Int) < 2147483563), ?_⟩
      refine ⟨_, rfl, _, rfl, _, _, rfl, rfl, wide_mul (bnd _) (bnd _) (by decide) (by decide) (by decide), _, rfl, d, _, rfl, get_draws hd2, _, _, rfl, rfl, .inl (by decide), _, _, rfl, rfl, _, _, rfl, rfl, .inl ⟨_, rfl, ?_⟩⟩
      refine ⟨_, _, rfl, rfl, (by decide : (0 : Int) < 2147483399), ?_⟩
      refine ⟨_, rfl, _, _, rfl, rfl, .inr (by decide), .inl ⟨_, rfl, ?_⟩⟩
      refine ⟨_, _, rfl, rfl, (by decide : (0 : Int) < 2147483647), ?_⟩
      refine ⟨_, rfl, _, _, rfl, rfl, ⟨by decide, by decide⟩, .inl ⟨_, rfl, ?_⟩⟩
      refine ⟨_, rfl, _, _, rfl, rfl, (by omega : k ≠ 0), ?_⟩
      exact q _ _ (Int.fmod_nonneg_of_pos _ k0) (Int.fmod_lt_of_pos _ k0) e2 D2
    | cons c0 cr =>
      refine iteT ?_
      obtain ⟨ys, c, hys⟩ : ∃ ys c, cs = ys ++ [c] := ⟨cs.dropLast, cs.getLast (by rw [hcs]; simp), (List.dropLast_concat_getLast _).symm⟩
      clear hcs
      subst hys
      rw [List.length_append, List.length_singleton] at lc
      rw [List.map_append] at hl2
      refine ⟨_, rfl, d, _, rfl, get_left hd2, .inl ⟨rfl, _, SqL.of hl2⟩, l, _, .int c, rfl, rfl, hl2, ?_, ?_⟩
      · simp
      have edl : (ys.map V.int ++ [c].map V.int).dropLast = ys.map V.int := by
        show (ys.map V.int ++ [V.int c]).dropLast = _
        rw [List.dropLast_concat]
      rw [edl]
      have hd3 : (upd H2 l (.lst (ys.map V.int))) d = some (.dK (dk kL l m (n + 1))) := (upd_ne hne).trans hd2
      have hl3 : (upd H2 l (.lst (ys.map V.int))) l = some (.lst (ys.map V.int)) := upd_same
      have e3 : But d l H (upd H2 l (.lst (ys.map V.int))) := fun b o h h1 h2 => (upd_ne h2).trans (e2 b o h h1 h2)
      have D3 : Deck kL (upd H2 l (.lst (ys.map V.int))) d l := ⟨m, n + 1, ys, hd3, hl3, by omega, m0, m1⟩
      generalize upd H2 l (.lst (ys.map V.int)) = H3 at hd3 hl3 e3 D3
      clear e2 D2 hd2 hl2
      refine ⟨_, rfl, _, _, rfl, rfl, ⟨by decide, by decide, by decide⟩, _, _, rfl, rfl, _, rfl, ?_⟩
      refine ite2 (fun _ => ?_) (fun _ => ?_)
      ·
        have dv : CDivW c (if k > 2 then k else 2) := by
          split
          · exact wide_div k0 kb (by decide) (by decide)
          · exact wide_div (by decide) (b := 8) (by decide) (by decide) (by decide)
        refine ⟨_, rfl, d, _, rfl, get_left hd3, .inl ⟨rfl, _, SqL.of hl3⟩, _, rfl, _, rfl, _, _, rfl, _, _, rfl, rfl, dv, l, _, _, rfl, rfl, hl3, ?_, ?_⟩
        · rw [List.length_map]
          exact line_le (by omega)
        refine ⟨_, rfl, .inl ⟨_, rfl, ?_⟩⟩
        refine ⟨_, rfl, _, _, rfl, rfl, (by omega : k ≠ 0), ?_⟩
        refine q _ _ (Int.fmod_nonneg_of_pos _ k0) (Int.fmod_lt_of_pos _ k0) (fun b o h h1 h2 => (upd_ne h2).trans (e3 b o h h1 h2)) ?_
        refine ⟨m, n + 1, ys ++ [c / (if k > 2 then k else 2)], (upd_ne hne).trans hd3, ?_, by rw [List.length_append]; simp; omega, m0, m1⟩
        rw [upd_same, List.map_append]
        rfl
      ·
        refine ⟨_, rfl, _, rfl, .inl ⟨_, rfl, ?_⟩⟩
        refine ⟨_, _, rfl, rfl, (by decide : (0 : Int) < 2147483629), _, _, rfl, rfl, ?_⟩
        have bnd : ∀ x : Int, (x % 2147483563).natAbs < 2 ^ 32 := fun x => by
          have h1 := Int.emod_nonneg x (by decide : (2147483563 : Int) ≠ 0)
          have h2 := Int.emod_lt_of_pos x (by decide : (0 : Int) < 2147483563)
          omega
        refine ⟨_, rfl, _, _, rfl, rfl, .inr (by decide), _, _, rfl, rfl, .inl ⟨_, rfl, ?_⟩⟩
        refine ⟨_, _, rfl, rfl, (by decide : (0 : Int) < 2147483563), ?_⟩
        refine ⟨_, rfl, _, rfl, _, _, rfl, rfl, wide_mul (bnd _) (bnd _) (by decide) (by decide) (by decide), _, rfl, d, _, rfl, get_draws hd3, _, _, rfl, rfl, .inl (by decide), _, _, rfl, rfl, _, _, rfl, rfl, .inl ⟨_, rfl, ?_⟩⟩
        refine ⟨_, _, rfl, rfl, (by decide : (0 : Int) < 2147483399), ?_⟩
        refine ⟨_, rfl, _, _, rfl, rfl, .inr (by decide), .inl ⟨_, rfl, ?_⟩⟩
        refine ⟨_, _, rfl, rfl, (by decide : (0 : Int) < 2147483647), ?_⟩
        refine ⟨_, rfl, _, _, rfl, rfl, ⟨by decide, by decide⟩, .inl ⟨_, rfl, ?_⟩⟩
        refine ⟨_, rfl, _, _, rfl, rfl, (by omega : k ≠ 0), ?_⟩
        exact q _ _ (Int.fmod_nonneg_of_pos _ k0) (Int.fmod_lt_of_pos _ k0) e3 D3
end
end K28
end
section
set_option maxRecDepth 100000
set_option maxHeartbeats 4000000
namespace K28
open PySem PySem.Spec PyProof.Rows L2 MB PM
open LamX hiding takes0
section
variable {w : World} {K : PySem.W.Frag} {mg : Str → Option Value} {base : Heap}
def spInt (K : PySem.W.Frag) : Sp := fun vs H Q _ => ∃ (v : V) (o : Option Int), vs = [v] ∧ IntQ K H v o ∧ Q (.bl o.isSome) H
theorem ok_is_integer (T : Txt K mg) : FnOk P w K mg base CX0 1 T.a_is_integer T.d_is_integer P_is_integer (spInt K) := by
  refine T.F_is_integer.ok sc_is_integer (fun vs H Q E h => ?_) (fun cdv A outer s H vs Q E hr h => ?_)
  · obtain ⟨v, o, rfl, _⟩ := h
    rfl
  · obtain ⟨v, o, rfl, hv, q⟩ := h
    refine ⟨_, 
      (pss_one (ps_ret (pe_and (pe_callB (id := "isinstance") (r := rIsi K) call_isi (by rfl) T.m_isinstance (by decide +kernel) (pa_cons (pv 0) (pa_cons (pe_bltn (by rfl) T.m_int (v := .ty "int") (by decide +kernel) rfl) pa_nil))) (pe_one (pe_not (pe_callB (id := "isinstance") (r := rIsi K) call_isi (by rfl) T.m_isinstance (by decide +kernel) (pa_cons (pv 0) (pa_cons (pe_bltn (by rfl) T.m_bool (v := .ty "bool") (by decide +kernel) rfl) pa_nil)))))))), ?_⟩
    cases o with
    | some i =>
      obtain rfl : v = .int i := hv
      refine ⟨_, rfl, _, _, _, _, _, rfl, .ty "int", .base (.int i), kit_ty (r := true) (by decide +kernel), true, rfl, ?_⟩
      refine iteT ?_
      exact ⟨_, rfl, _, _, _, _, _, rfl, .ty "bool", .base (.int i), kit_ty (r := false) (by decide +kernel), false, rfl, q⟩
    | none =>
      rcases hv with ⟨b, rfl⟩ | ⟨t, ht, hk⟩
      · refine ⟨_, rfl, _, _, _, _, _, rfl, .ty "int", .base (.bl b), kit_ty (r := true) (by decide +kernel), true, rfl, ?_⟩
        refine iteT ?_
        exact ⟨_, rfl, _, _, _, _, _, rfl, .ty "bool", .base (.bl b), kit_ty (r := true) (by decide +kernel), true, rfl, q⟩
      · refine ⟨_, rfl, _, _, _, _, _, rfl, .ty "int", ht, hk, false, rfl, ?_⟩
        exact iteF q
def Lev (K : PySem.W.Frag) (H : Hp) (v : V) : Option (List (Option Int)) → Prop
  | none => TupQ K H v none
  | some os => ∃ xs, TupQ K H v (some xs) ∧ Paired (IntQ K H) xs os ∧ xs.length ≤ 1000
def allInt : Option (List (Option Int)) → Bool
  | none => false
  | some os => os.all (·.isSome)
theorem paired_at {α β : Type} {R : α → β → Prop} {xs : List α} {ys : List β} (h : Paired R xs ys) {i : Nat} {x : α} (e : xs[i]? = some x) : ∃ y, ys[i]? = some y ∧ R x y := by
  induction h generalizing i with
  | nil => simp at e
  | cons r rs ih =>
    cases i with
    | zero =>
      obtain rfl := Option.some.inj e
      exact ⟨_, rfl, r⟩
    | succ i => exact ih e
theorem take_map_add {α β : Type} (f : α → β) {l : List α} {i : Nat} {x : α} (e : l[i]? = some x) : (l.take (i + 1)).map f = (l.take i).map f ++ [f x] := by
  rw [List.take_add_one, e]
  simp
def spInts (K : PySem.W.Frag) : Sp := fun vs H Q _ => ∃ (v : V) (o : Option (List (Option Int))), vs = [v] ∧ Lev K H v o ∧ ∀ H', Same H H' → Q (.bl (allInt o)) H'
theorem ok_are_integers (T : Txt K mg) : FnOk P w K mg base CX0 2 T.a_are_integers T.d_are_integers P_are_integers (spInts K) := by
  refine T.F_are_integers.ok sc_are_integers (fun vs H Q E h => ?_) (fun cdv A outer s H vs Q E hr h => ?_)
  · obtain ⟨v, o, rfl, _⟩ := h
    rfl
  · obtain ⟨v, o, rfl, hv, q⟩ := h
    refine ⟨_, 
      (pss_one (ps_ret (pe_and (pe_callB (id := "isinstance") (r := rIsi K) call_isi (by rfl) T.m_isinstance (by decide +kernel) (pa_cons (pv 0) (pa_cons (pe_bltn (by rfl) T.m_tuple (v := .ty "tuple") (by decide +kernel) rfl) pa_nil))) (pe_one (pe_callB (cr_all rfl) (by rfl) T.m_all (by decide +kernel) (pa_cons (pe_lc (own := [("item", 1)]) (g := gName 1) (tt := tYes) rfl sc_are_integers.nd (pi_tup (pv 0)) (blkOk_by (own := [("item", 1)]) (N := N_are_integers) (sc := defScope s_are_integers) (by decide +kernel)) (fun _ _ _ _ _ => (pg_name (i := 1) sc_are_integers.nd rfl (Or.inl rfl))) (fun _ _ _ _ _ => pts_nil) (fun _ _ _ _ _ => (pe_call (ok_is_integer T) (hr.mono (by decide)) rfl T.m_is_integer T.F_is_integer.kp T.b_is_integer .nil pass0 (pa_cons (pv 1) pa_nil)))) pa_nil)))))), ?_⟩
    cases o with
    | none =>
      obtain ⟨t, ht, hk⟩ := hv
      refine ⟨_, rfl, _, _, _, _, _, rfl, .ty "tuple", ht, hk, false, rfl, ?_⟩
      exact iteF (q H (Same.refl _))
    | some os =>
      obtain ⟨xs, ⟨a, rfl, ha⟩, hp, hl⟩ := hv
      refine ⟨_, rfl, _, _, _, _, _, rfl, .ty "tuple", tyx_tup ha, kit_ty (r := true) (by decide +kernel), true, rfl, ?_⟩
      refine iteT ?_
      refine ⟨_, rfl, a, rfl, ⟨_, ha⟩, fun D hD => lc_it (walk_tup (K := K) (a := a) (xs := xs))
        (fun i H' => ∃ H0, Same H H0 ∧ H' = upd H0 D (.lst ((os.take i).map fun o => V.bl o.isSome))) ⟨H, Same.refl _, rfl⟩ ?_ ?_ ?_⟩
      · rintro i _ _ ⟨H0, e, rfl⟩
        exact (same_set hD e).tup ha
      · rintro i x _ _ hi ⟨H0, e, rfl⟩ ⟨rfl, hx⟩
        obtain ⟨y, hy, r⟩ := paired_at hp hx
        refine ⟨rfl, ?_⟩
        refine ⟨_, rfl, x, y, rfl, r.same (same_set hD e), _, upd_same, by rw [List.length_map, List.length_take]; exact line_le (by omega), H0, e, ?_⟩
        rw [upd_upd, take_map_add _ hy]
      · rintro _ ⟨H0, e, rfl⟩
        have hle : os.length = xs.length := hp.length.symm
        refine ⟨D, os.map (·.isSome), rfl, SqL.of (by rw [upd_same, ← hle, List.take_length, List.map_map]; rfl), ?_⟩
        have z := q _ (same_set (o := .lst ((os.take xs.length).map fun o => V.bl o.isSome)) hD e)
        rw [List.all_map]
        exact z
end
end K28
end
section
set_option maxRecDepth 100000
set_option maxHeartbeats 4000000
namespace K28
open PySem PySem.Spec PyProof.Rows L2 MB PM
open LamX hiding takes0
theorem all_ints {K : PySem.W.Frag} {H : Hp} {xs : List V} {os : List (Option Int)} (h : Paired (IntQ K H) xs os) (e : os.all (·.isSome) = true) : ∃ ns : List Int, os = ns.map some ∧ xs = ns.map V.int := by
  induction h with
  | nil => exact ⟨[], rfl, rfl⟩
  | @cons x o xs os r rs ih =>
    rw [List.all_cons, Bool.and_eq_true] at e
    obtain ⟨ns, e1, e2⟩ := ih e.2
    cases o with
    | none => exact absurd e.1 (by decide)
    | some i =>
      obtain rfl : x = .int i := r
      exact ⟨i :: ns, by rw [e1]; rfl, by rw [e2]; rfl⟩
theorem poly_snoc (ys : List Int) (c : Int) : isPoly (ys ++ [c]) = (c != 0) := by
  unfold isPoly
  rw [List.getLast?_concat]
  cases e : (c != 0) <;> simp_all
theorem dec_int (a b : Int) : decide (V.int a = V.int b) = decide (a = b) := by
  by_cases h : a = b
  · subst h
    simp
  · rw [decide_eq_false h, decide_eq_false (fun e => h (V.int.inj e))]
theorem snoc_of {α : Type} {l : List α} (h : l ≠ []) : ∃ ys c, l = ys ++ [c] := ⟨l.dropLast, l.getLast h, (List.dropLast_concat_getLast h).symm⟩
def polyQ : Option (List (Option Int)) → Bool
  | none => false
  | some os => os.all (·.isSome) && isPoly (os.filterMap id)
theorem polyQ_ints (ns : List Int) : polyQ (some (ns.map some)) = isPoly ns := by
  have e1 : (ns.map some).all (fun o : Option Int => o.isSome) = true := by
    rw [List.all_map]
    exact List.all_eq_true.mpr fun _ _ => rfl
  have e2 : (ns.map some).filterMap (id : Option Int → Option Int) = ns := by
    rw [List.filterMap_map]
    exact List.filterMap_some
  show ((ns.map some).all (fun o : Option Int => o.isSome) && isPoly ((ns.map some).filterMap (id : Option Int → Option Int))) = _
  rw [e1, e2, Bool.true_and]
section
variable {w : World} {K : PySem.W.Frag} {mg : Str → Option Value} {base : Heap}
def spPoly (K : PySem.W.Frag) : Sp := fun vs H Q _ => ∃ (v : V) (o : Option (List (Option Int))), vs = [v] ∧ Lev K H v o ∧ ∀ H', Same H H' → Q (.bl (polyQ o)) H'
theorem ok_is_polynomial (T : Txt K mg) : FnOk P w K mg base CX0 3 T.a_is_polynomial T.d_is_polynomial P_is_polynomial (spPoly K) := by
  refine T.F_is_polynomial.ok sc_is_polynomial (fun vs H Q E h => ?_) (fun cdv A outer s H vs Q E hr h => ?_)
  · obtain ⟨v, o, rfl, _⟩ := h
    rfl
  · obtain ⟨v, o, rfl, hv, q⟩ := h
    refine ⟨_, 
      (pss_one (ps_ret (pe_and (pe_call (ok_are_integers T) (hr.mono (by decide)) rfl T.m_are_integers T.F_are_integers.kp T.b_are_integers .nil pass0 (pa_cons (pv 0) pa_nil)) (pe_one (pe_or (pe_cmpR op_eq (pe_callB call_len_seq (by rfl) T.m_len (by decide +kernel) (pa_cons (pv 0) pa_nil)) pe_int (nomark _)) (pe_one (pe_cmpR op_ne (pe_ix (r := rIxT K) ix_tup (pv 0) (pe_un un_neg pe_int) (fun _ _ => rfl)) pe_int (nomark _)))))))), ?_⟩
    refine ⟨_, rfl, _, o, rfl, hv, fun H1 s1 => ⟨allInt o, rfl, ?_⟩⟩
    cases o with
    | none => exact iteF (q H1 s1)
    | some os =>
      refine ite2 (fun e => ?_) (fun e => ?_)
      · obtain ⟨xs, ⟨a, rfl, ha⟩, hp, hl⟩ := hv
        obtain ⟨ns, rfl, rfl⟩ := all_ints hp e
        rw [polyQ_ints] at q
        have h1 := s1.tup ha
        refine ⟨_, rfl, a, _, rfl, .inr h1, rfl, _, rfl, ?_⟩
        rw [dec_int]
        refine ite2 (fun e => ?_) (fun e => ?_)
        · have e' := of_decide_eq_true e
          rw [List.length_map] at e'
          obtain rfl : ns = [] := List.eq_nil_of_length_eq_zero (by omega)
          exact q H1 s1
        · obtain ⟨ys, c, rfl⟩ : ∃ ys c, ns = ys ++ [c] := snoc_of (by rintro rfl; exact e rfl)
          refine ⟨_, rfl, 1, rfl, a, _, _, .int c, rfl, rfl, h1, ?_, rfl, ?_⟩
          · rw [List.map_append]
            exact atI_last _ _
          · rw [dec_int]
            have z := q H1 s1
            rw [poly_snoc] at z
            have e2 : (!decide (c = 0)) = (c != 0) := by
              cases h : (c != 0) <;> simp_all
            rw [e2]
            exact z
      · have z := q H1 s1
        have e' : os.all (·.isSome) = false := by
          have : allInt (some os) = os.all (·.isSome) := rfl
          rw [← this]
          simpa using e
        have z2 : polyQ (some os) = false := by
          show (os.all (·.isSome) && isPoly (os.filterMap id)) = false
          rw [e', Bool.false_and]
        rw [z2] at z
        exact z
theorem allInt_ints (ns : List Int) : allInt (some (ns.map some)) = true := by
  show (ns.map some).all (fun o : Option Int => o.isSome) = true
  rw [List.all_map]
  exact List.all_eq_true.mpr fun _ _ => rfl
end
theorem line_s {n : Nat} (h : n ≤ 100000) : n ≤ sizeLine := Nat.le_of_lt (line_le h)
def Flies (E : XK) (C : Addr) (v : V) (H : Hp) : Prop := ∀ d, H d = none → E (.ref C) (some d) (upd H d (.xd [("thing", v)]))
theorem poly_of {o : Option (List (Option Int))} (h : polyQ o = true) : ∃ ns : List Int, o = some (ns.map some) ∧ isPoly ns = true := by
  cases o with
  | none => cases h
  | some os =>
    have h' : (os.all (·.isSome) && isPoly (os.filterMap id)) = true := h
    rw [Bool.and_eq_true] at h'
    obtain ⟨h1, h2⟩ := h'
    have : ∃ ns : List Int, os = ns.map some ∧ os.filterMap id = ns := by
      clear h h2
      induction os with
      | nil => exact ⟨[], rfl, rfl⟩
      | cons d r ih =>
        rw [List.all_cons, Bool.and_eq_true] at h1
        obtain ⟨ns, e1, e2⟩ := ih h1.2
        cases d with
        | none => exact absurd h1.1 (by decide)
        | some c => exact ⟨c :: ns, by rw [e1]; rfl, by rw [← e2]; rfl⟩
    obtain ⟨ns, e1, e2⟩ := this
    exact ⟨ns, by rw [e1], by rw [← e2]; exact h2⟩
theorem some_inj : ∀ {as bs : List Int}, as.map some = bs.map some → as = bs
  | [], [], _ => rfl
  | [], _ :: _, h => by cases h
  | _ :: _, [], h => by cases h
  | a :: as, b :: bs, h => by
    rw [List.map_cons, List.map_cons, List.cons.injEq] at h
    rw [Option.some.inj h.1, some_inj h.2]
theorem lev_ti {K : PySem.W.Frag} {H : Hp} {v : V} {ns : List Int} (h : Lev K H v (some (ns.map some))) : TI K H v ns ∧ ns.length ≤ 1000 := by
  obtain ⟨xs, ⟨a, rfl, ha⟩, hp, hl⟩ := h
  obtain ⟨ms, e1, e2⟩ := all_ints hp (by rw [List.all_map]; exact List.all_eq_true.mpr fun _ _ => rfl)
  obtain rfl := some_inj e1
  rw [e2] at ha hl
  exact ⟨⟨a, rfl, ha⟩, by rw [List.length_map] at hl; exact hl⟩
theorem ti_lev {K : PySem.W.Frag} {H : Hp} {v : V} {ns : List Int} (h : TI K H v ns) (hl : ns.length ≤ 1000) : Lev K H v (some (ns.map some)) := by
  obtain ⟨a, rfl, ha⟩ := h
  refine ⟨ns.map V.int, ⟨a, rfl, ha⟩, ?_, by rw [List.length_map]; exact hl⟩
  clear ha hl
  induction ns with
  | nil => exact .nil
  | cons c r ih => exact .cons rfl ih
theorem Lev.same {K : PySem.W.Frag} {H H' : Hp} {v : V} {o : Option (List (Option Int))} (h : Lev K H v o) (e : Same H H') : Lev K H' v o := by
  cases o with
  | none => exact TupQ.same (o := none) h e
  | some os =>
    obtain ⟨xs, h1, h2, h3⟩ := h
    refine ⟨xs, TupQ.same h1 e, ?_, h3⟩
    clear h1 h3
    induction h2 with
    | nil => exact .nil
    | cons r _ ih => exact .cons (r.same e) ih
section
variable {w : World} {K : PySem.W.Frag} {mg : Str → Option Value} {base : Heap}
def spChk (K : PySem.W.Frag) (C : Addr) : Sp := fun vs H Q E => ∃ (v : V) (o : Option (List (Option Int))), vs = [v] ∧ Lev K H v o ∧ (polyQ o = false → ∀ H', Same H H' → Flies E C v H') ∧ (polyQ o = true → ∀ H', Same H H' → Q .non H')
theorem ok_check_polynomial (T : Txt K mg) : FnOk P w K mg base (L2.CX P w) 4 T.a_check_polynomial T.d_check_polynomial P_check_polynomial (spChk K T.C_BadPolynomial) := by
  refine T.F_check_polynomial.okX sc_check_polynomial (fun vs H Q E h => ?_) (fun cdv A outer s H vs Q E hr h => ?_)
  · obtain ⟨v, o, rfl, _⟩ := h
    rfl
  · obtain ⟨v, o, rfl, hv, bad, q⟩ := h
    refine ⟨_, 
      (pss_one (ps_if (pt_not (pt_val (pe_call (ok_is_polynomial T) (hr.mono (by decide)) rfl T.m_is_polynomial T.F_is_polynomial.kp T.b_is_polynomial .nil pass0 (pa_cons (pv 0) pa_nil)))) (pss_one (ps_raiseErr rfl T.e_BadPolynomial hr (takes_of rfl rfl rfl rfl) (by exact (pa_cons (pv 0) pa_nil)) rfl)) pss_nil)), ?_⟩
    refine ⟨_, rfl, v, o, rfl, hv, fun H1 s1 => ⟨_, rfl, ?_⟩⟩
    rcases Bool.eq_false_or_eq_true (polyQ o) with e | e
    · rw [e]
      exact iteF (q e H1 s1)
    · rw [e]
      exact iteT ⟨_, rfl, v, rfl, fun d hd => bad e H1 s1 d hd⟩
end
end K28
end
section
set_option maxRecDepth 100000
set_option maxHeartbeats 4000000
set_option exponentiation.threshold 9000
namespace K28
open PySem PySem.Spec PyProof.Rows L2 MB PM
open LamX hiding takes0
section
variable {w : World} {K : PySem.W.Frag} {mg : Str → Option Value} {base : Heap}
def spPick (K : PySem.W.Frag) : Sp := fun vs H Q _ => ∃ (d l a : Addr) (xs : List V), vs = [.ref d, .ref a] ∧ SqAny K (hide d l H) a xs ∧ xs ≠ [] ∧ xs.length ≤ 1000 ∧ Deck kL H d l ∧
  ∀ (x : V) H', x ∈ xs → But d l H H' → Deck kL H' d l → Q x H'
theorem small_bits {k : Int} (h0 : 0 ≤ k) (h : k ≤ 1000000) : k.natAbs < 2 ^ 8000 :=
  Nat.lt_of_le_of_lt (show k.natAbs ≤ 2 ^ 20 by have : (2 : Nat) ^ 20 = 1048576 := rfl; omega) (Nat.pow_lt_pow_right (by decide) (by decide))
theorem ok__law_pick (T : Txt K mg) : FnOk P w K mg base CX0 2 T.a__law_pick T.d__law_pick P__law_pick (spPick K) := by
  refine T.F__law_pick.ok sc__law_pick (fun vs H Q E h => ?_) (fun cdv A outer s H vs Q E hr h => ?_)
  · obtain ⟨d, l, a, xs, rfl, _⟩ := h
    rfl
  · obtain ⟨d, l, a, xs, rfl, ha, hne, hl, D, q⟩ := h
    refine ⟨_, 
      (pss_one (ps_ret (pe_ix (r := rIx K) ix_seq (pv 1) (pe_call (ok__law_draw T) (hr.mono (by decide)) rfl T.m__law_draw T.F__law_draw.kp T.b__law_draw .nil pass0 (pa_cons (pv 0) (pa_cons (pe_callB call_len_seq (by rfl) T.m_len (by decide +kernel) (pa_cons (pv 1) pa_nil)) pa_nil))) (fun _ _ => rfl)))), ?_⟩
    have hp : 0 < xs.length := List.length_pos_iff.mpr hne
    have h0 : SqL K H a xs ∨ SqT K H a xs := (ha.same hide_sub).symm
    refine ⟨_, rfl, _, rfl, _, rfl, a, _, rfl, h0, d, l, _, rfl, ?_, ?_, D, fun r H1 r0 r1 e D1 => ?_⟩
    · omega
    · exact small_bits (by omega) (by omega)
    obtain ⟨k, rfl⟩ : ∃ k : Nat, r = (k : Int) := ⟨r.toNat, by omega⟩
    have hk : k < xs.length := by omega
    have ha1 : SqAny K H1 a xs := (ha.same e.hide).same hide_sub
    have fin := q _ _ (List.getElem_mem hk) e D1
    have ix : atI xs (k : Int) = some xs[k] := atI_nat (List.getElem?_eq_getElem hk)
    rcases ha1 with h | h
    · exact .inr (.inl ⟨a, _, _, xs[k], rfl, rfl, h, ix, fin⟩)
    · exact .inl ⟨a, _, _, xs[k], rfl, rfl, h, ix, fin⟩
theorem mil_le : ∀ i : Nat, i ≤ 6 → (1000000 : Int) ^ i ≤ 1000000000000000000000000000000000000 := by
  intro i h
  have : i = 0 ∨ i = 1 ∨ i = 2 ∨ i = 3 ∨ i = 4 ∨ i = 5 ∨ i = 6 := by omega
  rcases this with rfl | rfl | rfl | rfl | rfl | rfl | rfl <;> decide
theorem sign_abs {r x : Int} (r0 : 0 ≤ r) (r1 : r < 2) : ((1 - 2 * r) * x).natAbs = x.natAbs := by
  rw [Int.natAbs_mul]
  have : (1 - 2 * r).natAbs = 1 := by omega
  rw [this, Nat.one_mul]
theorem sign_bits {r : Int} (r0 : 0 ≤ r) (r1 : r < 2) : (1 - 2 * r).natAbs < 2 ^ 1 := by
  have : (1 - 2 * r).natAbs = 1 := by omega
  omega
def spFig : Sp := fun vs H Q _ => ∃ (d l : Addr), vs = [.ref d] ∧ Deck kL H d l ∧ ∀ (r : Int) H', r.natAbs < 10 ^ 40 → But d l H H' → Deck kL H' d l → Q (.int r) H'
theorem ok__law_figures (T : Txt K mg) : FnOk P w K mg base CX0 2 T.a__law_figures T.d__law_figures P__law_figures spFig := by
  refine T.F__law_figures.ok sc__law_figures (fun vs H Q E h => ?_) (fun cdv A outer s H vs Q E hr h => ?_)
  · obtain ⟨d, l, rfl, _⟩ := h
    rfl
  · obtain ⟨d, l, rfl, D, q⟩ := h
    refine ⟨_, 
      (pss_cons (ps_par3 (i := 1) (j := 2) (l := 3) (by rfl) sc__law_figures.nd rfl rfl rfl (by decide) (by decide) (by decide) rfl rfl rfl (pa_cons (pe_call (ok__law_draw T) (hr.mono (by decide)) rfl T.m__law_draw T.F__law_draw.kp T.b__law_draw .nil pass0 (pa_cons (pv 0) (pa_cons pe_int pa_nil))) (pa_cons (pe_op op_sub pe_int (pe_op op_mul pe_int (pe_call (ok__law_draw T) (hr.mono (by decide)) rfl T.m__law_draw T.F__law_draw.kp T.b__law_draw .nil pass0 (pa_cons (pv 0) (pa_cons pe_int pa_nil))))) (pa_cons pe_int pa_nil))) (by rfl))
      (pss_cons (ps_if (pt_cmpR op_eq (pv 1) pe_int (nomark _)) (pss_one (ps_ret pe_int)) pss_nil)
      (pss_cons (ps_if (pt_cmpR op_eq (pv 1) pe_int (nomark _)) (pss_one (ps_ret (pe_op op_mulW (pv 2) (pe_op op_sub (pe_op op_sub (pe_op op_pow pe_int pe_int) pe_int) (pe_call (ok__law_draw T) (hr.mono (by decide)) rfl T.m__law_draw T.F__law_draw.kp T.b__law_draw .nil pass0 (pa_cons (pv 0) (pa_cons pe_int pa_nil))))))) pss_nil)
      (pss_cons (ps_if (pt_cmpR op_lt (pv 1) pe_int (nomark _)) (pss_one (ps_ret (pe_op op_mulW (pv 2) (pe_call (ok__law_draw T) (hr.mono (by decide)) rfl T.m__law_draw T.F__law_draw.kp T.b__law_draw .nil pass0 (pa_cons (pv 0) (pa_cons (pe_ix (r := rIxT K) ix_tup (pe_tup (pa_cons pe_int (pa_cons pe_int (pa_cons pe_int (pa_cons pe_int (pa_cons pe_int pa_nil)))))) (pv 1) (fun _ _ => rfl)) pa_nil)))))) pss_nil)
      (pss_cons (ps_for PassesOwn.never rfl (pi_range1 rfl T.m_range (pa_cons (pe_op op_add pe_int (pe_call (ok__law_draw T) (hr.mono (by decide)) rfl T.m__law_draw T.F__law_draw.kp T.b__law_draw .nil pass0 (pa_cons (pv 0) (pa_cons pe_int pa_nil)))) pa_nil)) (pg_name (i := 4) sc__law_figures.nd rfl (Or.inl rfl)) (pss_one (ps_set (i := 3) sc__law_figures.nd rfl (Or.inl rfl) (pe_op op_add (pe_op op_mulW (pv 3) (pe_op op_pow pe_int pe_int)) (pe_call (ok__law_draw T) (hr.mono (by decide)) rfl T.m__law_draw T.F__law_draw.kp T.b__law_draw .nil pass0 (pa_cons (pv 0) (pa_cons (pe_op op_pow pe_int pe_int) pa_nil)))))))
      (pss_one (ps_ret (pe_op op_mulW (pv 2) (pv 3))))))))), ?_⟩
    refine ⟨_, rfl, d, l, 7, rfl, by decide, by decide, D, fun way H1 w0 w1 e1 D1 => ?_⟩
    refine ⟨_, rfl, d, l, 2, rfl, by decide, by decide, D1, fun sg H2 g0 g1 e2 D2 => ?_⟩
    have e12 := e1.trans e2
    have sb := sign_bits g0 g1
    refine ⟨_, _, rfl, rfl, .inl (by decide), _, _, rfl, rfl, _, _, _, rfl, ?_⟩
    refine ⟨_, rfl, rfl, _, rfl, ?_⟩
    rw [dec_int]
    refine ite2 (fun _ => q 0 _ (by decide) e12 D2) (fun h0 => ?_)
    refine ⟨_, rfl, rfl, _, rfl, ?_⟩
    rw [dec_int]
    refine ite2 (fun _ => ?_) (fun h1 => ?_)
    · refine ⟨_, rfl, _, _, rfl, rfl, ⟨by decide, by decide, by decide⟩, _, _, rfl, rfl, _, rfl, d, l, 50, rfl, by decide, by decide, D2, fun r H3 r0 r1 e3 D3 => ?_⟩
      have hb : ((10 : Int) ^ (40 : Int).toNat - 1 - r).natAbs < 10 ^ 40 := by
        have z : (10 : Int) ^ (40 : Int).toNat = 10000000000000000000000000000000000000000 := rfl
        rw [z]
        omega
      refine ⟨_, _, rfl, rfl, _, _, rfl, rfl, wide_mul sb (b := 140) (Nat.lt_trans hb (by decide)) (by decide) (by decide) (by decide), ?_⟩
      refine q _ _ ?_ (e12.trans e3) D3
      show ((1 - 2 * sg) * _).natAbs < _
      rw [sign_abs g0 g1]
      exact hb
    refine ⟨_, rfl, _, _, rfl, rfl, _, rfl, ?_⟩
    refine ite2 (fun h2 => ?_) (fun h2 => ?_)
    · have w2 : 2 ≤ way ∧ way < 5 := by
        have a0 : ¬ way = 0 := fun z => h0 (decide_eq_true z)
        have a1 : ¬ way = 1 := fun z => h1 (decide_eq_true z)
        have a2 := of_decide_eq_true h2
        omega
      refine ⟨_, rfl, _, rfl, (by decide : 5 ≤ sizeLine), fun p hp => ?_⟩
      have e3 := same_upd (o := .tup [.int 0, .int 0, .int 4, .int 13, .int 1000]) hp
      have D3 := D2.same e3
      obtain ⟨m, hm, hm0, hm1⟩ : ∃ m : Int, atI ([.int 0, .int 0, .int 4, .int 13, .int 1000] : List V) way = some (.int m) ∧ 0 < m ∧ m ≤ 1000 := by
        have : way = 2 ∨ way = 3 ∨ way = 4 := by omega
        rcases this with rfl | rfl | rfl
        · exact ⟨4, rfl, by decide, by decide⟩
        · exact ⟨13, rfl, by decide, by decide⟩
        · exact ⟨1000, rfl, by decide, by decide⟩
      refine ⟨_, rfl, p, _, _, _, rfl, rfl, SqT.of upd_same, hm, d, l, m, rfl, hm0, small_bits (by omega) (by omega), D3, fun r H4 r0 r1 e4 D4 => ?_⟩
      refine ⟨_, _, rfl, rfl, wide_mul sb (b := 20) (by omega) (by decide) (by decide) (by decide), ?_⟩
      refine q _ _ ?_ ((e12.same e3).trans e4) D4
      show ((1 - 2 * sg) * r).natAbs < _
      rw [sign_abs g0 g1]
      omega
    refine ⟨_, rfl, d, l, 6, rfl, by decide, by decide, D2, fun r H3 r0 r1 e3 D3 => ?_⟩
    refine ⟨_, _, rfl, rfl, _, rfl, by omega, by omega, for_range (lo := 0) (n := (1 + r).toNat)
      (fun i σ H' => ∃ (f : Int) (u : Option V), σ = [some (.ref d), some (.int way), some (.int (1 - 2 * sg)), some (.int f), u] ∧ But d l H H' ∧ Deck kL H' d l ∧ 0 ≤ f ∧ f < 1000000 ^ i)
      ⟨0, none, rfl, e12.trans e3, D3, by decide, by decide⟩ ?_ ?_⟩
    · rintro i _ H' hi ⟨f, u, rfl, e, D', f0, f1⟩
      have hi6 : i < 6 := by omega
      have f2 : f.natAbs < 2 ^ 120 := by
        have z := mil_le i (by omega)
        have z3 : (2 : Nat) ^ 120 = 1329227995784915872903807060280344576 := rfl
        omega
      refine ⟨_, rfl, _, _, rfl, rfl, ⟨by decide, by decide, by decide⟩, _, _, rfl, rfl, wide_mul f2 (b := 20) (by decide) (by decide) (by decide) (by decide), _, rfl, _, _, rfl, rfl, ⟨by decide, by decide, by decide⟩, d, l, _, rfl, by decide, by decide, D', fun x H4 x0 x1 e4 D4 => ?_⟩
      refine ⟨_, _, rfl, rfl, _, _, rfl, e.trans e4, D4, ?_, ?_⟩
      · show 0 ≤ f * 1000000 + x
        omega
      · show f * 1000000 + x < 1000000 ^ (i + 1)
        have x1' : x < 1000000 := x1
        rw [Int.pow_succ]
        omega
    · rintro _ H' ⟨f, u, rfl, e, D', f0, f1⟩
      have z := mil_le (1 + r).toNat (by omega)
      have fb : f.natAbs < 10 ^ 40 := by
        have z3 : (10 : Nat) ^ 40 = 10000000000000000000000000000000000000000 := rfl
        omega
      refine ⟨_, rfl, _, rfl, _, _, rfl, rfl, wide_mul sb (b := 140) (Nat.lt_trans fb (by decide)) (by decide) (by decide) (by decide), ?_⟩
      refine q _ _ ?_ e D'
      rw [sign_abs g0 g1]
      exact fb
end
end K28
end
section
set_option maxRecDepth 100000
set_option maxHeartbeats 4000000
set_option exponentiation.threshold 9000
namespace K28
open PySem PySem.Spec PyProof.Rows L2 MB PM
open LamX hiding takes0
section
variable {w : World} {K : PySem.W.Frag} {mg : Str → Option Value} {base : Heap}
def spPol (K : PySem.W.Frag) : Sp := fun vs H Q _ => ∃ (d l : Addr) (mo : Int), vs = [.ref d, .int mo] ∧ 0 ≤ mo ∧ mo ≤ 20 ∧ Deck kL H d l ∧
  ∀ (v : V) (ns : List Int) H', But d l H H' → Deck kL H' d l → TI K H' v ns → isPoly ns = true → ns.length ≤ 20 → (∀ c ∈ ns, c.natAbs < 10 ^ 40) → Q v H'
theorem ok__law_polynomial (T : Txt K mg) : FnOk P w K mg base CX0 3 T.a__law_polynomial T.d__law_polynomial P__law_polynomial (spPol K) := by
  refine T.F__law_polynomial.ok sc__law_polynomial (fun vs H Q E h => ?_) (fun cdv A outer s H vs Q E hr h => ?_)
  · obtain ⟨d, l, mo, rfl, _⟩ := h
    rfl
  · obtain ⟨d, l, mo, rfl, mo0, mo1, D, q⟩ := h
    refine ⟨_, 
      (pss_cons (ps_setLc (i := 2) (own := [("_law_turn", 3)]) (g := gName 3) (tt := tYes) rfl sc__law_polynomial.nd rfl rfl (sw_true rfl rfl rfl (by decide +kernel)) (pi_range1 rfl T.m_range (pa_cons (pe_callB (call_min2 rfl) (by rfl) T.m_min (by decide +kernel) (pa_cons (pv 1) (pa_cons (pe_call (ok__law_pick T) (hr.mono (by decide)) rfl T.m__law_pick T.F__law_pick.kp T.b__law_pick .nil pass0 (pa_cons (pv 0) (pa_cons (pe_tup (pa_cons pe_int (pa_cons pe_int (pa_cons pe_int (pa_cons pe_int (pa_cons pe_int (pa_cons pe_int (pa_cons pe_int (pa_cons pe_int (pa_cons pe_int (pa_cons pe_int pa_nil))))))))))) pa_nil))) pa_nil))) pa_nil)) (blkOk_by (own := [("_law_turn", 3)]) (N := N__law_polynomial) (sc := defScope s__law_polynomial) (by decide +kernel)) (fun _ _ _ _ _ => (pg_name (i := 3) sc__law_polynomial.nd rfl (Or.inl rfl))) (fun _ _ _ _ _ => pts_nil) (fun _ _ _ _ _ => (pe_call (ok__law_figures T) (hr.mono (by decide)) rfl T.m__law_figures T.F__law_figures.kp T.b__law_figures .nil pass0 (pa_cons (pv 0) pa_nil))))
      (pss_cons (ps_if (PW.pt (pw_and (pt_cmpR (op_neD hr.units) (pv 2) (pe_lst pa_nil) (nomark _)) (pw_and1 (pt_cmpR op_eq (pe_ix (r := rIxL K) ix_list (pv 2) (pe_un un_neg pe_int) (fun _ _ => rfl)) pe_int (nomark _))))) (pss_one (ps_asg (pe_op op_sub pe_int (pe_op op_mul pe_int (pe_call (ok__law_draw T) (hr.mono (by decide)) rfl T.m__law_draw T.F__law_draw.kp T.b__law_draw .nil pass0 (pa_cons (pv 0) (pa_cons pe_int pa_nil))))) (pg_sub (pv 2) (pe_un un_neg pe_int) set_list))) pss_nil)
      (pss_one (ps_ret (pe_callTy call_tuple_of (by rfl) T.m_tuple (by decide +kernel) (pa_cons (pv 2) pa_nil)))))), ?_⟩
    refine ⟨_, rfl, _, rfl, (by decide : 10 ≤ sizeLine), fun p hp => ?_⟩
    have e1 := same_upd (o := .tup [.int 3, .int 2, .int 4, .int 1, .int 5, .int 0, .int 8, .int 20, .int 2, .int 6]) hp
    have D1 := D.same e1
    refine ⟨d, l, p, [.int 3, .int 2, .int 4, .int 1, .int 5, .int 0, .int 8, .int 20, .int 2, .int 6], rfl, .inl (SqT.of (D.at_new hp)), by simp, by decide, D1, fun x H2 hx e2 D2 => ?_⟩
    obtain ⟨r, rfl, rb⟩ : ∃ r : Int, x = .int r ∧ 0 ≤ r ∧ r ≤ 20 := by
      simp only [List.mem_cons, List.not_mem_nil, or_false] at hx
      rcases hx with rfl | rfl | rfl | rfl | rfl | rfl | rfl | rfl | rfl | rfl <;> exact ⟨_, rfl, by decide, by decide⟩
    refine ⟨_, _, rfl, _, rfl, by split <;> omega, by split <;> omega, fun L hL => ?_⟩
    obtain ⟨L1, L2⟩ := D2.off hL
    have e12 : But d l H H2 := (But.of e1).trans e2
    refine lc_it (walk_range (lo := 0) (n := (if r < mo then r else mo).toNat))
      (fun i H' => But d l H2 H' ∧ Deck kL H' d l ∧ ∃ ns : List Int, ns.length = i ∧ (∀ c ∈ ns, c.natAbs < 10 ^ 40) ∧ H' L = some (.lst (ns.map V.int)))
      ⟨(But.refl (d := d) (l := l)).upd hL, D2.upd L1 L2, [], rfl, by simp, upd_same⟩ (fun _ _ _ _ => trivial) ?_ ?_
    · rintro i x H' _ hi ⟨e, D', ns, hn, hb, hN⟩ ⟨rfl, rfl⟩
      have hi20 : i < 20 := by split at hi <;> omega
      refine ⟨rfl, ?_⟩
      refine ⟨_, rfl, d, l, rfl, D', fun c H4 hc e4 D4 => ?_⟩
      have hN4 := e4 _ _ hN L1 L2
      refine ⟨_, hN4, ?_, (e.trans e4).upd hL, D4.upd L1 L2, ns ++ [c], by rw [List.length_append, hn]; rfl, ?_, ?_⟩
      · rw [List.length_map, hn]
        exact line_le (by omega)
      · intro z hz
        rcases List.mem_append.mp hz with hz | hz
        · exact hb z hz
        · rw [List.mem_singleton.mp hz]
          exact hc
      · rw [upd_same, List.map_append]
        rfl
    · rintro H' ⟨e, D', ns, hn, hb, hN⟩
      have hn20 : ns.length ≤ 20 := by
        rw [hn]
        split <;> omega
      refine ⟨_, rfl, (by decide : 0 ≤ sizeLine), fun p3 hp3 => ?_⟩
      have e3 := same_upd (o := .lst []) hp3
      have hN3 := e3 _ _ hN
      have D3 := D'.same e3
      refine ne_nil_rd (SqL.of hN3) (SqL.of upd_same) ⟨_, rfl, ?_⟩
      have eAll : But d l H (upd H' p3 (.lst [])) := (e12.trans e).same e3
      cases hns : ns with
      | nil =>
        refine iteF ?_
        refine ⟨_, rfl, L, _, rfl, .inl ⟨SqL.of hN3, fun p4 hp4 => ?_⟩⟩
        refine q _ ns _ (eAll.same (same_upd hp4)) (D3.same (same_upd hp4)) ⟨p4, rfl, SqT.of upd_same⟩ ?_ hn20 hb
        rw [hns]
        rfl
      | cons c0 cr =>
        refine iteT ?_
        obtain ⟨ys, c, hys⟩ : ∃ ys c, ns = ys ++ [c] := snoc_of (by rw [hns]; simp)
        clear hns
        subst hys
        have eN : (ys ++ [c]).map V.int = ys.map V.int ++ [V.int c] := by rw [List.map_append]; rfl
        refine ⟨_, rfl, 1, rfl, L, _, _, .int c, rfl, rfl, SqL.of hN3, by rw [eN]; exact atI_last _ _, rfl, _, rfl, ?_⟩
        rw [dec_int]
        refine ite2 (fun _ => ?_) (fun hc => ?_)
        ·
          refine ⟨_, rfl, d, l, 2, rfl, by decide, by decide, D3, fun g H5 g0 g1 e5 D5 => ?_⟩
          have hN5 := e5 _ _ hN3 L1 L2
          have LH : H L = none := by
            have : H2 L = none := hL
            exact e12.free D2 this
          refine ⟨_, _, rfl, rfl, .inl (by decide), _, _, rfl, rfl, _, rfl, 1, rfl, L, _, _, ys.length, rfl, rfl, hN5, ?_, ?_⟩
          · rw [eN]
            show ixN (ys.map V.int ++ [V.int c]).length (-1) = _
            unfold ixN
            rw [if_neg (by decide), List.length_append, List.length_map, List.length_singleton, if_pos (by omega)]
            congr 1
            omega
          · have eS : ((ys ++ [c]).map V.int).set ys.length (.int (1 - 2 * g)) = (ys ++ [1 - 2 * g]).map V.int := by
              rw [eN, List.set_append_right _ _ (by rw [List.length_map]; omega), List.length_map, Nat.sub_self]
              simp
            have hN6 : (upd H5 L (.lst (((ys ++ [c]).map V.int).set ys.length (.int (1 - 2 * g))))) L = some (.lst ((ys ++ [1 - 2 * g]).map V.int)) := by
              rw [upd_same, eS]
            refine ⟨_, rfl, L, _, rfl, .inl ⟨SqL.of hN6, fun p4 hp4 => ?_⟩⟩
            refine q _ (ys ++ [1 - 2 * g]) _ ?_ ((D5.upd L1 L2).same (same_upd hp4)) ⟨p4, rfl, SqT.of upd_same⟩ ?_ ?_ ?_
            · exact ((eAll.trans e5).upd LH).same (same_upd hp4)
            · rw [poly_snoc]
              have : 1 - 2 * g ≠ 0 := by omega
              simpa using this
            · rw [List.length_append] at hn20 ⊢
              exact hn20
            · intro z hz
              rcases List.mem_append.mp hz with hz | hz
              · exact hb z (List.mem_append_left _ hz)
              · rw [List.mem_singleton.mp hz]
                have : (1 - 2 * g).natAbs = 1 := by omega
                rw [this]
                decide
        · refine ⟨_, rfl, L, _, rfl, .inl ⟨SqL.of hN3, fun p4 hp4 => ?_⟩⟩
          refine q _ (ys ++ [c]) _ (eAll.same (same_upd hp4)) (D3.same (same_upd hp4)) ⟨p4, rfl, SqT.of upd_same⟩ ?_ hn20 hb
          rw [poly_snoc]
          have : c ≠ 0 := fun z => hc (decide_eq_true z)
          simpa using this
end
end K28
end
section
set_option maxRecDepth 100000
set_option maxHeartbeats 4000000
namespace K28
open PySem PySem.Spec PyProof.Rows L2 MB PM
open LamX hiding takes0
section
variable {w : World} {K : PySem.W.Frag} {mg : Str → Option Value} {base : Heap}
def spSame (K : PySem.W.Frag) : Sp := fun vs H Q _ => ∃ (u v : V) (dd : PyData), vs = [u, v] ∧ Dq K H u dd ∧ Dq K H v dd ∧ TellW dd ∧ Q (.bl true) H
theorem ok__law_same (T : Txt K mg) (sm : SM base) : FnG P w K mg base 1 T.a__law_same T.d__law_same P__law_same (spSame K) := by
  refine fnG T.F__law_same sc__law_same (fun vs H Q E h => ?_) (fun cdv A outer s H vs Q E hr hgu h => ?_)
  · obtain ⟨u, v, dd, rfl, _⟩ := h
    rfl
  · obtain ⟨u, v, dd, rfl, hu, hv, ht, q⟩ := h
    refine ⟨_, 
      (pss_one (ps_ret (pe_cmpR op_eq (pe_callB (call_tellW sm hgu hr.units) (by rfl) T.m_repr (by decide +kernel) (pa_cons (pv 0) pa_nil)) (pe_callB (call_tellW sm hgu hr.units) (by rfl) T.m_repr (by decide +kernel) (pa_cons (pv 1) pa_nil)) (nomark _)))), ?_⟩
    refine ⟨_, rfl, _, dd, rfl, hu, ht, _, rfl, _, dd, rfl, hv, ht, rfl, ?_⟩
    rw [decide_eq_true rfl]
    exact q
def bads (os : List (Option Int)) : Nat := (os.filter (·.isNone)).length
theorem bads_add {os : List (Option Int)} {i : Nat} {y : Option Int} (h : os[i]? = some y) : bads (os.take (i + 1)) = bads (os.take i) + (if y.isNone then 1 else 0) := by
  unfold bads
  rw [List.take_add_one, h, List.filter_append, List.length_append]
  cases y <;> rfl
theorem bads_le (os : List (Option Int)) (i : Nat) : bads (os.take i) ≤ os.length := by
  unfold bads
  exact Nat.le_trans (List.length_filter_le _ _) (by rw [List.length_take]; omega)
theorem bads_all : ∀ os : List (Option Int), (List.replicate (bads os) (1 : Int)).isEmpty = os.all (·.isSome)
  | [] => rfl
  | none :: r => rfl
  | some z :: r => by
    have ih := bads_all r
    have e : bads (some z :: r) = bads r := by
      unfold bads
      rw [List.filter_cons_of_neg (by simp)]
    rw [e, ih]
    rfl
def spIsPoly (K : PySem.W.Frag) : Sp := fun vs H Q _ => ∃ (v : V) (o : Option (List (Option Int))), vs = [v] ∧ Lev K H v o ∧ ∀ H', Same H H' → Q (.bl (polyQ o)) H'
theorem ok__law_is_polynomial (T : Txt K mg) : FnOk P w K mg base CX0 1 T.a__law_is_polynomial T.d__law_is_polynomial P__law_is_polynomial (spIsPoly K) := by
  refine T.F__law_is_polynomial.ok sc__law_is_polynomial (fun vs H Q E h => ?_) (fun cdv A outer s H vs Q E hr h => ?_)
  · obtain ⟨v, o, rfl, _⟩ := h
    rfl
  · obtain ⟨v, o, rfl, hv, q⟩ := h
    refine ⟨_, 
      (pss_cons (ps_if (pt_not (pt_val (pe_callB (id := "isinstance") (r := rIsi K) call_isi (by rfl) T.m_isinstance (by decide +kernel) (pa_cons (pv 0) (pa_cons (pe_bltn (by rfl) T.m_tuple (v := .ty "tuple") (by decide +kernel) rfl) pa_nil))))) (pss_one (ps_ret pe_bl)) pss_nil)
      (pss_cons (ps_if (pt_cmpR (op_neD hr.units) (pe_lc (own := [("_law_it", 1)]) (g := gName 1)  rfl sc__law_is_polynomial.nd (pi_tup (pv 0)) (blkOk_by (own := [("_law_it", 1)]) (N := N__law_is_polynomial) (sc := defScope s__law_is_polynomial) (by decide +kernel)) (fun _ _ _ _ _ => (pg_name (i := 1) sc__law_is_polynomial.nd rfl (Or.inl rfl))) (fun _ _ _ _ _ => (pts_one (PW.pt (pw_or (pt_not (pt_val (pe_callB (id := "isinstance") (r := rIsi K) call_isi (by rfl) T.m_isinstance (by decide +kernel) (pa_cons (pv 1) (pa_cons (pe_bltn (by rfl) T.m_int (v := .ty "int") (by decide +kernel) rfl) pa_nil))))) (pw_or1 (pt_val (pe_callB (id := "isinstance") (r := rIsi K) call_isi (by rfl) T.m_isinstance (by decide +kernel) (pa_cons (pv 1) (pa_cons (pe_bltn (by rfl) T.m_bool (v := .ty "bool") (by decide +kernel) rfl) pa_nil))))))))) (fun _ _ _ _ _ => pe_int)) (pe_lst pa_nil) (nomark _)) (pss_one (ps_ret pe_bl)) pss_nil)
      (pss_one (ps_ret (pe_or (pe_cmpR (op_eqD hr.units) (pv 0) (pe_tup pa_nil) (nomark _)) (pe_one (pe_cmpR op_ne (pe_ix (r := rIxT K) ix_tup (pv 0) (pe_un un_neg pe_int) (fun _ _ => rfl)) pe_int (nomark _)))))))), ?_⟩
    cases o with
    | none =>
      obtain ⟨t, ht, hk⟩ := hv
      refine ⟨_, rfl, _, _, _, _, _, rfl, .ty "tuple", ht, hk, false, rfl, ?_⟩
      exact iteT (q H (Same.refl _))
    | some os =>
      obtain ⟨xs, ⟨a, rfl, ha⟩, hp, hl⟩ := hv
      refine ⟨_, rfl, _, _, _, _, _, rfl, .ty "tuple", tyx_tup ha, kit_ty (r := true) (by decide +kernel), true, rfl, ?_⟩
      refine iteF ?_
      refine ⟨_, rfl, a, rfl, ⟨_, ha⟩, fun D hD => lc_it (walk_tup (K := K) (a := a) (xs := xs))
        (fun i H' => ∃ H0, Same H H0 ∧ H' = upd H0 D (.lst ((List.replicate (bads (os.take i)) (1 : Int)).map V.int))) ⟨H, Same.refl _, rfl⟩ ?_ ?_ ?_⟩
      · rintro i _ _ ⟨H0, e, rfl⟩
        exact (same_set hD e).tup ha
      · rintro i x _ _ hi ⟨H0, e, rfl⟩ ⟨rfl, hx⟩
        obtain ⟨y, hy, r⟩ := paired_at hp hx
        have r1 := r.same (same_set (o := .lst ((List.replicate (bads (os.take i)) (1 : Int)).map V.int)) hD e)
        have tk := bads_add hy
        refine ⟨rfl, ?_⟩
        have le := bads_le os i
        have hlo : os.length = xs.length := hp.length.symm
        have put : y.isNone = true → ∃ H0', Same H H0' ∧ upd (upd H0 D (.lst ((List.replicate (bads (os.take i)) (1 : Int)).map V.int))) D (.lst ((List.replicate (bads (os.take i)) (1 : Int)).map V.int ++ [V.int 1])) =
            upd H0' D (.lst ((List.replicate (bads (os.take (i + 1))) (1 : Int)).map V.int)) := fun z => by
          refine ⟨H0, e, ?_⟩
          rw [upd_upd, tk, z, if_pos rfl, List.replicate_succ', List.map_append]
          rfl
        have sz : ((List.replicate (bads (os.take i)) (1 : Int)).map V.int).length < sizeLine := by
          rw [List.length_map, List.length_replicate]
          exact line_le (by omega)
        cases y with
        | some z =>
          obtain rfl : x = .int z := r
          refine ⟨_, rfl, _, _, _, _, _, rfl, .ty "int", .base (.int z), kit_ty (r := true) (by decide +kernel), true, rfl, ?_⟩
          refine iteF ⟨_, rfl, _, _, _, _, _, rfl, .ty "bool", .base (.int z), kit_ty (r := false) (by decide +kernel), false, rfl, iteF ⟨H0, e, ?_⟩⟩
          rw [tk]
          rfl
        | none =>
          rcases r1 with ⟨b, rfl⟩ | ⟨t, ht, hk⟩
          · refine ⟨_, rfl, _, _, _, _, _, rfl, .ty "int", .base (.bl b), kit_ty (r := true) (by decide +kernel), true, rfl, ?_⟩
            refine iteF ⟨_, rfl, _, _, _, _, _, rfl, .ty "bool", .base (.bl b), kit_ty (r := true) (by decide +kernel), true, rfl, iteT ?_⟩
            exact ⟨_, upd_same, sz, put rfl⟩
          · refine ⟨_, rfl, _, _, _, _, _, rfl, .ty "int", ht, hk, false, rfl, ?_⟩
            refine iteT (iteT ?_)
            exact ⟨_, upd_same, sz, put rfl⟩
      · rintro _ ⟨H0, e, rfl⟩
        refine ⟨(by decide : 0 ≤ sizeLine), fun p hp2 => ?_⟩
        have e2 := same_upd (o := .lst []) hp2
        have hle : os.length = xs.length := hp.length.symm
        have ev : (List.replicate (bads (os.take xs.length)) (1 : Int)).isEmpty = os.all (·.isSome) := by
          rw [← hle, List.take_length]
          exact bads_all os
        refine ne_nil_rd (SqL.of (e2 _ _ upd_same)) (SqL.of upd_same) ⟨_, rfl, ?_⟩
        rw [ev]
        have s2 := (same_set (o := .lst ((List.replicate (bads (os.take xs.length)) (1 : Int)).map V.int)) hD e).trans e2
        generalize upd (upd H0 D (.lst ((List.replicate (bads (os.take xs.length)) (1 : Int)).map V.int))) p (.lst []) = H2 at s2
        cases hall : os.all (·.isSome) with
        | false =>
          refine iteT ?_
          have z := q H2 s2
          have z2 : polyQ (some os) = false := by
            show (os.all (·.isSome) && isPoly (os.filterMap id)) = false
            rw [hall, Bool.false_and]
          rw [z2] at z
          exact z
        | true =>
          refine iteF ?_
          obtain ⟨ns, rfl, rfl⟩ := all_ints hp hall
          rw [polyQ_ints] at q
          have h1 := s2.tup ha
          refine ⟨_, rfl, (by decide : 0 ≤ sizeLine), fun p3 hp3 => ?_⟩
          have e0 := same_upd (o := .tup []) hp3
          have h1' := sqT_same e0 h1
          refine ⟨.tuple (ns.map PyData.int), .tuple [], .tup h1' (dp_ints ns), .tup (SqT.of upd_same) .nil, tup_shaped ns, tup_shaped [], ?_⟩
          rw [eqv_tnil]
          refine ⟨ns.isEmpty, rfl, ?_⟩
          cases hns : ns.isEmpty with
          | true =>
            obtain rfl : ns = [] := List.isEmpty_iff.mp hns
            exact iteT (q _ (s2.trans e0))
          | false =>
            obtain ⟨ys, c, rfl⟩ : ∃ ys c, ns = ys ++ [c] := snoc_of (by rintro rfl; cases hns)
            refine iteF ⟨_, rfl, 1, rfl, a, _, _, .int c, rfl, rfl, h1', by rw [List.map_append]; exact atI_last _ _, rfl, ?_⟩
            rw [dec_int]
            have z := q _ (s2.trans e0)
            rw [poly_snoc] at z
            have e2 : (!decide (c = 0)) = (c != 0) := by
              cases h : (c != 0) <;> simp_all
            rw [e2]
            exact z
end
end K28
end
section
set_option maxRecDepth 100000
set_option maxHeartbeats 4000000
namespace K28
open PySem PySem.Spec PyProof.Rows L2 MB PM
open LamX hiding takes0
def odd1 : List PyData := [.none, .bool true, .bool false, .int 0, .int 1, .int (-1), .int 2, .str "", .str "0", .tuple [], .tuple [.tuple []], .list [], .dict [], .tuple [.int 0], .tuple [.int 0, .int 1], .list [.int 0, .int 1],
  .tuple [.int 1, .int 0], .int (10 ^ (39 : Int).toNat), .str "a b\n~"]
def odd2 : List PyData := [.dict [(.str "a", .tuple [.int 1, .int 2])], .tuple [.tuple [.int 0, .int 1], .int 1], .tuple [.int 0, .int 0, .int 0, .int 1], .tuple [.int 0, .int 1, .int 1, .int 1], .tuple [.none, .int 0], .int (-(10 ^ (39 : Int).toNat)),
  .tuple [.str "0", .int 1], .tuple [.int 0, .int 2]]
def odd3 (es : List PyData) : List PyData := [.list es, .tuple (es ++ [.int 0]), .tuple (MB.cutD es (some 1) none), .tuple (MB.cutD es none (some (-1))), .tuple es.reverse, .tuple (es ++ MB.cutD es none (some 1)), .tuple [.tuple es], .tuple (MB.cutD es none (some 1) ++ es)]
def odd4 (i : Int) : List PyData := [.int (i + 1), .int (i - 1), .int (-i), .bool (decide (i = 1)), .list [.int i], .tuple [.int i], .str (Str.ofString (toString i)), .int (i + 256)]
theorem cp39 : CPow 10 39 := ⟨by decide, by decide, by decide⟩
def OddOf : PyData → Prop
  | .none => True
  | .int i => i.natAbs < 10 ^ 40
  | .tuple es => ∃ ns : List Int, es = ns.map PyData.int ∧ ns.length ≤ 25 ∧ ∀ c ∈ ns, c.natAbs < 10 ^ 40
  | _ => False
theorem odd12_sz : ∀ dd ∈ odd1 ++ odd2, Sz 80 4 dd := by
  unfold odd1 odd2
  intro dd hm
  simp only [List.cons_append, List.nil_append, List.mem_cons, List.not_mem_nil, or_false] at hm
  rcases hm with rfl | rfl | rfl | rfl | rfl | rfl | rfl | rfl | rfl | rfl | rfl | rfl | rfl | rfl | rfl | rfl | rfl | rfl | rfl | rfl | rfl | rfl | rfl | rfl | rfl | rfl | rfl <;>
    exact ⟨by decide +kernel, by decide +kernel, by decide +kernel, by decide +kernel⟩
theorem rep_mem {n : Nat} {ds : List PyData} {dd : PyData} (h : dd ∈ (List.replicate n ds).flatten) : dd ∈ ds := by
  obtain ⟨l, h1, h2⟩ := List.mem_flatten.mp h
  rw [List.eq_of_mem_replicate h1] at h2
  exact h2
theorem big_int {i j : Int} (h : i.natAbs < 10 ^ 40) (h2 : j.natAbs ≤ i.natAbs + 300) : j.natAbs < 10 ^ 42 := by
  have e : (10 : Nat) ^ 40 + 300 < 10 ^ 42 := by decide
  exact Nat.lt_trans (Nat.lt_of_le_of_lt h2 (Nat.add_lt_add_right h 300)) e
theorem odd4_sz {i : Int} (h : i.natAbs < 10 ^ 40) : ∀ dd ∈ odd4 i, Sz 80 4 dd := by
  intro dd hm
  have one : SzAll 1 0 [PyData.int i] := (szAll_cons (b := 0) (k := 0) (sz_int (Nat.lt_trans h (by decide))) (szAll_nil (b := 0) (k := 0))).mono (by decide) (by decide)
  simp only [odd4, List.mem_cons, List.not_mem_nil, or_false] at hm
  rcases hm with rfl | rfl | rfl | rfl | rfl | rfl | rfl | rfl
  · exact sz_int (big_int h (by omega))
  · exact sz_int (big_int h (by omega))
  · exact sz_int (big_int h (by omega))
  · exact sz_bool
  · exact (sz_lst one).mono
  · exact (sz_tup one).mono
  · refine sz_text ?_
    have := int_text_length_le10 (k := 40) (by decide) h
    omega
  · exact sz_int (big_int h (by omega))
theorem sz_ints {ms : List Int} (hl : ms.length ≤ 60) (hb : ∀ c ∈ ms, c.natAbs < 10 ^ 40) : SzAll 60 0 (ms.map PyData.int) :=
  (szAll_ints (k := 0) ms fun c hc => Nat.lt_trans (hb c hc) (by decide)).mono hl (by decide)
theorem cut_ints (ns : List Int) (lo hi : Option Int) : ∃ ms : List Int, MB.cutD (ns.map PyData.int) lo hi = ms.map PyData.int ∧ ms.length ≤ ns.length ∧ ∀ c ∈ ms, c ∈ ns := by
  refine ⟨(ns.drop (HT.sIx ns.length 0 lo)).take (HT.sIx ns.length ns.length hi - HT.sIx ns.length 0 lo), ?_, ?_, ?_⟩
  · unfold MB.cutD
    rw [List.length_map, List.map_take, List.map_drop]
  · rw [List.length_take, List.length_drop]
    omega
  · intro c hc
    exact List.mem_of_mem_drop (List.mem_of_mem_take hc)
theorem odd3_sz {ns : List Int} (hl : ns.length ≤ 25) (hb : ∀ c ∈ ns, c.natAbs < 10 ^ 40) : ∀ dd ∈ odd3 (ns.map PyData.int), Sz 80 4 dd := by
  intro dd hm
  have z0 : SzAll 60 0 (ns.map PyData.int) := sz_ints (by omega) hb
  simp only [odd3, List.mem_cons, List.not_mem_nil, or_false] at hm
  rcases hm with rfl | rfl | rfl | rfl | rfl | rfl | rfl | rfl
  · exact (sz_lst z0).mono
  · have e : ns.map PyData.int ++ [PyData.int 0] = (ns ++ [0]).map PyData.int := by rw [List.map_append]; rfl
    rw [e]
    refine (sz_tup (sz_ints (by rw [List.length_append]; simp; omega) fun c hc => ?_)).mono
    rcases List.mem_append.mp hc with hc | hc
    · exact hb c hc
    · rw [List.mem_singleton.mp hc]
      decide
  · obtain ⟨ms, e, l1, m1⟩ := cut_ints ns (some 1) none
    rw [e]
    exact (sz_tup (sz_ints (by omega) fun c hc => hb c (m1 c hc))).mono
  · obtain ⟨ms, e, l1, m1⟩ := cut_ints ns none (some (-1))
    rw [e]
    exact (sz_tup (sz_ints (by omega) fun c hc => hb c (m1 c hc))).mono
  · rw [← List.map_reverse]
    exact (sz_tup (sz_ints (by rw [List.length_reverse]; omega) fun c hc => hb c (List.mem_reverse.mp hc))).mono
  · obtain ⟨ms, e, l1, m1⟩ := cut_ints ns none (some 1)
    rw [e, ← List.map_append]
    refine (sz_tup (sz_ints (by rw [List.length_append]; omega) fun c hc => ?_)).mono
    rcases List.mem_append.mp hc with hc | hc
    · exact hb c hc
    · exact hb c (m1 c hc)
  · have z := szAll_cons (sz_tup z0) (szAll_nil (b := 0) (k := 1))
    exact (sz_tup z).mono
  · obtain ⟨ms, e, l1, m1⟩ := cut_ints ns none (some 1)
    rw [e, ← List.map_append]
    refine (sz_tup (sz_ints (by rw [List.length_append]; omega) fun c hc => ?_)).mono
    rcases List.mem_append.mp hc with hc | hc
    · exact hb c (m1 c hc)
    · exact hb c hc
def Cnt (dd : PyData) : Prop := ∀ ds, dd = .tuple ds → ds.length ≤ 26
theorem odd12_cnt : ∀ dd ∈ odd1 ++ odd2, Cnt dd := by
  unfold odd1 odd2
  intro dd hm ds e
  subst e
  simp only [List.cons_append, List.nil_append, List.mem_cons, List.not_mem_nil, or_false, PyData.tuple.injEq, reduceCtorEq, false_or] at hm
  rcases hm with rfl | rfl | rfl | rfl | rfl | rfl | rfl | rfl | rfl | rfl | rfl <;> exact Nat.le_of_ble_eq_true rfl
theorem odd4_cnt (i : Int) : ∀ dd ∈ odd4 i, Cnt dd := by
  intro dd hm ds e
  subst e
  simp only [odd4, List.mem_cons, List.not_mem_nil, or_false, PyData.tuple.injEq, reduceCtorEq, false_or] at hm
  subst hm
  exact Nat.le_of_ble_eq_true rfl
theorem cut_len (ds : List PyData) (lo hi : Option Int) : (MB.cutD ds lo hi).length ≤ ds.length := by
  unfold MB.cutD
  rw [List.length_take, List.length_drop]
  omega
theorem cut_one (ds : List PyData) : (MB.cutD ds none (some 1)).length ≤ 1 := by
  unfold MB.cutD
  have e : HT.sIx ds.length ds.length (some (1 : Int)) = min 1 ds.length := HT.sIx_nat _ _ 1
  rw [List.length_take, e]
  omega
theorem odd3_cnt {ns : List Int} (ln : ns.length ≤ 25) : ∀ dd ∈ odd3 (ns.map PyData.int), Cnt dd := by
  intro dd hm ds e
  subst e
  have l0 : (ns.map PyData.int).length ≤ 25 := by rw [List.length_map]; exact ln
  have l1 := cut_len (ns.map PyData.int)
  have l2 := cut_one (ns.map PyData.int)
  simp only [odd3, List.mem_cons, List.not_mem_nil, or_false, PyData.tuple.injEq, reduceCtorEq, false_or] at hm
  rcases hm with rfl | rfl | rfl | rfl | rfl | rfl | rfl
  · rw [List.length_append, List.length_singleton]
    omega
  · exact Nat.le_trans (l1 _ _) (by omega)
  · exact Nat.le_trans (l1 _ _) (by omega)
  · rw [List.length_reverse]
    omega
  · rw [List.length_append]
    omega
  · exact Nat.le_of_ble_eq_true rfl
  · rw [List.length_append]
    omega
section
variable {w : World} {K : PySem.W.Frag} {mg : Str → Option Value} {base : Heap}
def spOdd (K : PySem.W.Frag) : Sp := fun vs H Q _ => ∃ (d l : Addr) (v : V) (dv : PyData), vs = [.ref d, v] ∧ Deck kL H d l ∧ Dq K (hide d l H) v dv ∧ OddOf dv ∧
  ∀ (x : V) (dd : PyData) H', But d l H H' → Deck kL H' d l → Dq K (hide d l H') x dd → Sz 80 4 dd → Cnt dd → Q x H'
theorem ok__law_odd (T : Txt K mg) : FnOk P w K mg base CX0 3 T.a__law_odd T.d__law_odd P__law_odd (spOdd K) := by
  refine T.F__law_odd.ok sc__law_odd (fun vs H Q E h => ?_) (fun cdv A outer s H vs Q E hr h => ?_)
  · obtain ⟨d, l, v, dv, rfl, _⟩ := h
    rfl
  · obtain ⟨d, l, v, dv, rfl, D, hv, ho, q⟩ := h
    refine ⟨_, 
      (pss_cons (ps_set (i := 2) sc__law_odd.nd rfl (Or.inl rfl) (pe_lst (pa_cons pe_non (pa_cons pe_bl (pa_cons pe_bl (pa_cons pe_int (pa_cons pe_int (pa_cons (pe_un un_neg pe_int) (pa_cons pe_int (pa_cons pe_str (pa_cons pe_str (pa_cons (pe_tup pa_nil) (pa_cons (pe_tup (pa_cons (pe_tup pa_nil) pa_nil)) (pa_cons (pe_lst pa_nil) (pa_cons pe_dnewK (pa_cons (pe_tup (pa_cons pe_int pa_nil)) (pa_cons (pe_tup (pa_cons pe_int (pa_cons pe_int pa_nil))) (pa_cons (pe_lst (pa_cons pe_int (pa_cons pe_int pa_nil))) (pa_cons (pe_tup (pa_cons pe_int (pa_cons pe_int pa_nil))) (pa_cons (pe_op op_pow pe_int pe_int) (pa_cons pe_str pa_nil)))))))))))))))))))))
      (pss_cons (ps_set (i := 2) sc__law_odd.nd rfl (Or.inl rfl) (pe_op op_cat (pv 2) (pe_lst (pa_cons (pe_disp (pps_cons pe_str (pe_tup (pa_cons pe_int (pa_cons pe_int pa_nil))) pps_nil) (by rfl) (by rfl) (fun z => by cases z) (by decide)) (pa_cons (pe_tup (pa_cons (pe_tup (pa_cons pe_int (pa_cons pe_int pa_nil))) (pa_cons pe_int pa_nil))) (pa_cons (pe_tup (pa_cons pe_int (pa_cons pe_int (pa_cons pe_int (pa_cons pe_int pa_nil))))) (pa_cons (pe_tup (pa_cons pe_int (pa_cons pe_int (pa_cons pe_int (pa_cons pe_int pa_nil))))) (pa_cons (pe_tup (pa_cons pe_non (pa_cons pe_int pa_nil))) (pa_cons (pe_un un_neg (pe_op op_pow pe_int pe_int)) (pa_cons (pe_tup (pa_cons pe_str (pa_cons pe_int pa_nil))) (pa_cons (pe_tup (pa_cons pe_int (pa_cons pe_int pa_nil))) pa_nil)))))))))))
      (pss_cons (ps_if (pt_val (pe_callB (id := "isinstance") (r := rIsi K) call_isi (by rfl) T.m_isinstance (by decide +kernel) (pa_cons (pv 1) (pa_cons (pe_bltn (by rfl) T.m_tuple (v := .ty "tuple") (by decide +kernel) rfl) pa_nil)))) (pss_one (ps_set (i := 2) sc__law_odd.nd rfl (Or.inl rfl) (pe_op op_cat (pv 2) (pe_op op_rep (pe_lst (pa_cons (pe_callTy call_list_of (by rfl) T.m_list (by decide +kernel) (pa_cons (pv 1) pa_nil)) (pa_cons (pe_op op_catA (pv 1) (pe_tup (pa_cons pe_int pa_nil))) (pa_cons (pe_slice sl_tupA (pv 1) (po_some pe_int) po_none) (pa_cons (pe_slice sl_tupA (pv 1) po_none (po_some (pe_un un_neg pe_int))) (pa_cons (pe_revT (pv 1)) (pa_cons (pe_op op_catA (pv 1) (pe_slice sl_tupA (pv 1) po_none (po_some pe_int))) (pa_cons (pe_tup (pa_cons (pv 1) pa_nil)) (pa_cons (pe_op op_catA (pe_slice sl_tupA (pv 1) po_none (po_some pe_int)) (pv 1)) pa_nil))))))))) pe_int)))) (pss_one (ps_if (PW.pt (pw_and (pt_val (pe_callB (id := "isinstance") (r := rIsi K) call_isi (by rfl) T.m_isinstance (by decide +kernel) (pa_cons (pv 1) (pa_cons (pe_bltn (by rfl) T.m_int (v := .ty "int") (by decide +kernel) rfl) pa_nil)))) (pw_and1 (pt_cmpR op_lt (pe_callB call_abs (by rfl) T.m_abs (by decide +kernel) (pa_cons (pv 1) pa_nil)) (pe_op op_pow pe_int pe_int) (nomark _))))) (pss_one (ps_set (i := 2) sc__law_odd.nd rfl (Or.inl rfl) (pe_op op_cat (pv 2) (pe_op op_rep (pe_lst (pa_cons (pe_op op_add (pv 1) pe_int) (pa_cons (pe_op op_sub (pv 1) pe_int) (pa_cons (pe_un un_neg (pv 1)) (pa_cons (pe_cmpR op_eq (pv 1) pe_int (nomark _)) (pa_cons (pe_lst (pa_cons (pv 1) pa_nil)) (pa_cons (pe_tup (pa_cons (pv 1) pa_nil)) (pa_cons (pe_callTy call_str_int (by rfl) T.m_str (by decide +kernel) (pa_cons (pv 1) pa_nil)) (pa_cons (pe_op op_add (pv 1) pe_int) pa_nil))))))))) pe_int)))) pss_nil)))
      (pss_one (ps_ret (pe_call (ok__law_pick T) (hr.mono (by decide)) rfl T.m__law_pick T.F__law_pick.kp T.b__law_pick .nil pass0 (pa_cons (pv 0) (pa_cons (pv 2) pa_nil)))))))), ?_⟩
    refine seq_tl (tl_lst (K := K) D (ds := odd1) ?_ (by decide)) (Same.refl _) (fun L1 xs1 H1 s1 a1 b1 h1 x1 => ?_)
    · unfold odd1
      (repeat (first | exact tds_nil | refine tds_cons ?_ ?_ | exact td_none | exact td_bool | exact td_int | exact td_str | exact td_neg | exact td_pow cp39 | exact td_npow cp39 | exact td_dict0 D | exact td_dict1 D | refine td_tup D ?_ | refine td_lst D ?_))
    have D1 := D.same s1
    have hv1 := Dq.same (same_hide s1) _ _ hv
    refine seq_tl (tl_cat (K := K) D1 (tl_var (i := 2) rfl a1 b1 h1 x1) (tl_lst D1 (ds := odd2) ?_ (by decide)) (by decide)) (Same.refl _) (fun L2 xs2 H2 s2 a2 b2 h2 x2 => ?_)
    · unfold odd2
      (repeat (first | exact tds_nil | refine tds_cons ?_ ?_ | exact td_none | exact td_bool | exact td_int | exact td_str | exact td_neg | exact td_pow cp39 | exact td_npow cp39 | exact td_dict0 D1 | exact td_dict1 D1 | refine td_tup D1 ?_ | refine td_lst D1 ?_))
    have D2 := D1.same s2
    have hv2 := Dq.same (same_hide s2) _ _ hv1
    have fin : ∀ L xs H3 ds, Same H H3 → L ≠ d → L ≠ l → H3 L = some (.lst xs) → DqAll K (hide d l H3) xs ds → ds ≠ [] → ds.length ≤ 1000 → (∀ dd ∈ ds, Sz 80 4 dd ∧ Cnt dd) →
        (tRet (tCall (spPick K) [] E0 (tCons (tVar 0) (tCons (tVar 2) tNil))) : TS) { nx := fun _ H' => Q .non H', rt := Q } [some (.ref d), some v, some (.ref L)] H3 := by
      intro L xs H3 ds s3 n1 n2 h3 x3 ne le all
      refine ⟨_, rfl, _, rfl, d, l, L, xs, rfl, .inr (SqL.of ((hide_off n1 n2).trans h3)), ?_, ?_, D.same s3, fun x H4 hx e4 D4 => ?_⟩
      · rintro rfl
        cases x3
        exact ne rfl
      · rw [x3.length]
        exact le
      · obtain ⟨dd, hm, hd⟩ := x3.mem hx
        exact q x dd H4 ((But.of s3).trans e4) D4 (Dq.same e4.hide _ _ hd) (all dd hm).1 (all dd hm).2
    have s12 := s1.trans s2
    cases dv with
    | none =>
      cases hv
      refine ⟨_, rfl, _, _, _, _, _, rfl, .ty "tuple", .base .non, kit_ty (r := false) (by decide +kernel), false, rfl, iteF ?_⟩
      refine ⟨_, rfl, _, _, _, _, _, rfl, .ty "int", .base .non, kit_ty (r := false) (by decide +kernel), false, rfl, iteF ?_⟩
      exact fin L2 xs2 H2 _ s12 a2 b2 h2 x2 (by simp [odd1]) (by decide) fun dd hm => ⟨odd12_sz dd hm, odd12_cnt dd hm⟩
    | int i =>
      cases hv
      have hi : i.natAbs < 10 ^ 40 := ho
      refine ⟨_, rfl, _, _, _, _, _, rfl, .ty "tuple", .base (.int i), kit_ty (r := false) (by decide +kernel), false, rfl, iteF ?_⟩
      refine ⟨_, rfl, _, _, _, _, _, rfl, .ty "int", .base (.int i), kit_ty (r := true) (by decide +kernel), true, rfl, iteT ?_⟩
      refine ⟨_, rfl, i, rfl, _, _, rfl, rfl, ⟨by decide, by decide, by decide⟩, _, _, rfl, rfl, _, rfl, ?_⟩
      refine ite2 (fun _ => ?_) (fun _ => ?_)
      · have tv : TD K d l H2 [some (.ref d), some (.int i), some (.ref L2)] (tVar 1) (.int i) := td_var rfl (.int i)
        refine asg_tl (tl_cat (K := K) D2 (tl_var (i := 2) rfl a2 b2 h2 x2) (tl_rep D2 (tl_lst D2 (ds := odd4 i) ?_ (Nat.le_of_ble_eq_true rfl)) (by decide) (by decide) (Nat.le_of_ble_eq_true rfl)) (Nat.le_of_ble_eq_true rfl)) (Same.refl _) (fun L3 xs3 H3 s3 a3 b3 h3 x3 => ?_)
        · refine tds_cons (td_pure (fun _ _ q => ⟨_, rfl, _, _, rfl, rfl, q⟩) fun _ => .int _) (tds_cons (td_pure (fun _ _ q => ⟨_, rfl, _, _, rfl, rfl, q⟩) fun _ => .int _)
            (tds_cons (td_pure (fun _ _ q => ⟨_, rfl, _, rfl, q⟩) fun _ => .int _) (tds_cons (td_pure (fun _ _ q => ⟨_, rfl, rfl, by rw [dec_int]; exact q⟩) fun _ => .bl _)
            (tds_cons (td_lst D2 (tds_cons tv tds_nil) (Nat.le_of_ble_eq_true rfl)) (tds_cons (td_tup D2 (tds_cons tv tds_nil) (Nat.le_of_ble_eq_true rfl)) (tds_cons (td_pure (fun _ _ q => ⟨_, rfl, i, rfl, ?_, q⟩) fun _ => .str _)
            (tds_cons (td_pure (fun _ _ q => ⟨_, rfl, _, _, rfl, rfl, q⟩) fun _ => .int _) tds_nil)))))))
          have z := (sz_int (b := 0) (k := 0) (Nat.lt_trans hi (by decide))).sh
          simpa only [PyData.showable, decide_eq_true_eq] using z
        · refine fin L3 xs3 H3 _ (s12.trans s3) a3 b3 h3 x3 (by simp [odd1]) (Nat.le_of_ble_eq_true rfl) fun dd hm => ?_
          rcases List.mem_append.mp hm with hm | hm
          · exact ⟨odd12_sz dd hm, odd12_cnt dd hm⟩
          · exact ⟨odd4_sz hi dd (rep_mem hm), odd4_cnt i dd (rep_mem hm)⟩
      · exact fin L2 xs2 H2 _ s12 a2 b2 h2 x2 (by simp [odd1]) (by decide) fun dd hm => ⟨odd12_sz dd hm, odd12_cnt dd hm⟩
    | tuple es =>
      obtain ⟨ns, rfl, ln, bn⟩ := ho
      cases hv with
      | @tup a xs _ ht hx =>
        refine ⟨_, rfl, _, _, _, _, _, rfl, .ty "tuple", tyx_tpl (sqT_same s12 (sqT_same hide_sub ht)), kit_ty (r := true) (by decide +kernel), true, rfl, iteT ?_⟩
        have tv : TD K d l H2 [some (.ref d), some (.ref a), some (.ref L2)] (tVar 1) (.tuple (ns.map PyData.int)) := td_var rfl hv2
        have le : (ns.map PyData.int).length ≤ 25 := by rw [List.length_map]; exact ln
        have lc : ∀ lo hi, (MB.cutD (ns.map PyData.int) lo hi).length ≤ 25 := fun lo hi => by
          unfold MB.cutD
          rw [List.length_take, List.length_drop]
          omega
        refine asg_tl (tl_cat (K := K) D2 (tl_var (i := 2) rfl a2 b2 h2 x2) (tl_rep D2 (tl_lst D2 (ds := odd3 (ns.map PyData.int)) ?_ (Nat.le_of_ble_eq_true rfl)) (by decide) (by decide) (Nat.le_of_ble_eq_true rfl)) (Nat.le_of_ble_eq_true rfl)) (Same.refl _) (fun L3 xs3 H3 s3 a3 b3 h3 x3 => ?_)
        · refine tds_cons (td_listOf D2 tv) (tds_cons (td_catT D2 tv (td_tup D2 (tds_cons td_int tds_nil)) ?_) (tds_cons (td_slice D2 tv to_int to_no) (tds_cons (td_slice D2 tv to_no to_neg)
            (tds_cons (td_revT D2 tv) (tds_cons (td_catT D2 tv (td_slice D2 tv to_no to_int) ?_) (tds_cons (td_tup D2 (tds_cons tv tds_nil) (Nat.le_of_ble_eq_true rfl)) (tds_cons (td_catT D2 (td_slice D2 tv to_no to_int) tv ?_) tds_nil)))))))
          · show _ + 1 ≤ 100000
            omega
          · have := lc none (some 1)
            omega
          · have := lc none (some 1)
            omega
        · refine fin L3 xs3 H3 _ (s12.trans s3) a3 b3 h3 x3 (by simp [odd1]) (Nat.le_of_ble_eq_true rfl) fun dd hm => ?_
          rcases List.mem_append.mp hm with hm | hm
          · exact ⟨odd12_sz dd hm, odd12_cnt dd hm⟩
          · exact ⟨odd3_sz ln bn dd (rep_mem hm), odd3_cnt ln dd (rep_mem hm)⟩
    | bool b => exact ho.elim
    | str x => exact ho.elim
    | list es => exact ho.elim
    | dict es => exact ho.elim
end
end K28
end
section
set_option maxRecDepth 100000
set_option maxHeartbeats 4000000
set_option exponentiation.threshold 9000
namespace K28
open PySem PySem.Spec PyProof.Rows L2 MB PM
open LamX hiding takes0
theorem cat_val {K : PySem.W.Frag} {d l : Addr} {H : Hp} {v u : V} {ds es : List PyData} {Q : VK} (D : Deck kL H d l) (hv : Dq K (hide d l H) v (.tuple ds)) (hu : Dq K (hide d l H) u (.tuple es)) (hl : ds.length + es.length ≤ 100000)
    (q : ∀ x H', Same H H' → Dq K (hide d l H') x (.tuple (ds ++ es)) → Q x H') : rCatA K v u H Q := by
  obtain ⟨_, e1, _, e2, h⟩ := (td_catT D (σ := [some v, some u]) (td_var (i := 0) rfl hv) (td_var (i := 1) rfl hu) hl) H Q (Same.refl _) q
  obtain rfl := Option.some.inj (Option.some.inj e1)
  obtain rfl := Option.some.inj (Option.some.inj e2)
  exact h
theorem ints_eq {K : PySem.W.Frag} {H : Hp} : ∀ {xs : List V} {ns : List Int}, DqAll K H xs (ns.map PyData.int) → xs = ns.map V.int
  | _, [], h => by cases h; rfl
  | _, c :: r, h => by
    cases h with
    | cons h1 h2 =>
      cases h1
      rw [ints_eq h2]
      rfl
theorem cut_split (ns : List Int) (k : Nat) (hk : k < ns.length) (ln : ns.length ≤ 25) : (MB.cutD (ns.map PyData.int) none (some (k : Int))).length + 1 + (MB.cutD (ns.map PyData.int) (some ((k : Int) + 1)) none).length ≤ 26 := by
  unfold MB.cutD
  have e1 : HT.sIx (ns.map PyData.int).length (ns.map PyData.int).length (some (k : Int)) = min k (ns.map PyData.int).length := HT.sIx_nat _ _ k
  have e2 : HT.sIx (ns.map PyData.int).length 0 (some ((k : Int) + 1)) = min (k + 1) (ns.map PyData.int).length := HT.sIx_nat _ _ (k + 1)
  rw [e1, e2, HT.sIx_none, HT.sIx_none, List.length_take, List.length_take, List.length_drop, List.length_drop, List.length_map]
  omega
section
variable {w : World} {K : PySem.W.Frag} {mg : Str → Option Value} {base : Heap}
theorem ok_bentF (T : Txt K mg) : FnOk P w K mg base CX0 1 T.a__law_bent T.d__law_bent P__law_bent (fun _ _ _ _ => False) where
  len := fun _ _ _ _ h => h.elim
  run := by
    intros
    rename_i h
    exact h.elim
def spBent (K : PySem.W.Frag) (leaf : Bool) : Sp := fun vs H Q _ => ∃ (d l : Addr) (v : V) (dv : PyData), vs = [.ref d, v] ∧ Deck kL H d l ∧ Dq K (hide d l H) v dv ∧ OddOf dv ∧ (leaf = true → asTuple dv = none) ∧
  ∀ (x : V) (dd : PyData) H', But d l H H' → Deck kL H' d l → Dq K (hide d l H') x dd → Sz (if leaf then 80 else 200) (if leaf then 4 else 8) dd → Cnt dd → Q x H'
theorem ok_bent0 (T : Txt K mg) : FnOk P w K mg base CX0 (3 + 1) T.a__law_bent T.d__law_bent P__law_bent (spBent K true) := by
  refine T.F__law_bent.ok sc__law_bent (fun vs H Q E h => ?_) (fun cdv A outer s H vs Q E hr h => ?_)
  · obtain ⟨d, l, v, dv, rfl, _⟩ := h
    rfl
  · obtain ⟨d, l, v, dv, rfl, D, hv, ho, lf, q⟩ := h
    refine ⟨_, 
      (pss_cons (ps_if (PW.pt (pw_or (pt_not (pt_val (pe_callB (id := "isinstance") (r := rIsi K) call_isi (by rfl) T.m_isinstance (by decide +kernel) (pa_cons (pv 1) (pa_cons (pe_bltn (by rfl) T.m_tuple (v := .ty "tuple") (by decide +kernel) rfl) pa_nil))))) (pw_or (pt_cmpR (op_eqD hr.units) (pv 1) (pe_tup pa_nil) (nomark _)) (pw_or1 (pt_cmpR op_eq (pe_call (ok__law_draw T) (hr.mono (by decide)) rfl T.m__law_draw T.F__law_draw.kp T.b__law_draw .nil pass0 (pa_cons (pv 0) (pa_cons pe_int pa_nil))) pe_int (nomark _)))))) (pss_one (ps_ret (pe_call (ok__law_odd T) (hr.mono (by decide)) rfl T.m__law_odd T.F__law_odd.kp T.b__law_odd .nil pass0 (pa_cons (pv 0) (pa_cons (pv 1) pa_nil))))) pss_nil)
      (pss_cons (ps_set (i := 2) sc__law_bent.nd rfl (Or.inl rfl) (pe_call (ok__law_draw T) (hr.mono (by decide)) rfl T.m__law_draw T.F__law_draw.kp T.b__law_draw .nil pass0 (pa_cons (pv 0) (pa_cons (pe_callB call_len_seq (by rfl) T.m_len (by decide +kernel) (pa_cons (pv 1) pa_nil)) pa_nil))))
      (pss_one (ps_ret (pe_op op_catA (pe_op op_catA (pe_slice sl_tupA (pv 1) po_none (po_some (pv 2))) (pe_tup (pa_cons (pe_call (ok_bentF T) (hr.mono (by decide)) rfl T.m__law_bent T.F__law_bent.kp T.b__law_bent .nil pass0 (pa_cons (pv 0) (pa_cons (pe_ix (r := rIxT K) ix_tup (pv 1) (pv 2) (fun _ _ => rfl)) pa_nil))) pa_nil))) (pe_slice sl_tupA (pv 1) (po_some (pe_op op_add (pv 2) pe_int)) po_none)))))), ?_⟩
    obtain ⟨t, ht, hk⟩ := Dq.noTuple (Dq.same hide_sub _ _ hv) (lf rfl)
    refine ⟨_, rfl, _, _, _, _, _, rfl, .ty "tuple", ht, hk, false, rfl, iteT (iteT ?_)⟩
    exact ⟨_, rfl, _, rfl, d, l, v, dv, rfl, D, hv, ho, fun x dd H' e2 D2 hx sz cn => q x dd H' e2 D2 hx sz cn⟩
theorem ok__law_bent (T : Txt K mg) : FnOk P w K mg base CX0 (3 + 2) T.a__law_bent T.d__law_bent P__law_bent (spBent K false) := by
  refine T.F__law_bent.ok sc__law_bent (fun vs H Q E h => ?_) (fun cdv A outer s H vs Q E hr h => ?_)
  · obtain ⟨d, l, v, dv, rfl, _⟩ := h
    rfl
  · obtain ⟨d, l, v, dv, rfl, D, hv, ho, lf, q⟩ := h
    refine ⟨_, 
      (pss_cons (ps_if (PW.pt (pw_or (pt_not (pt_val (pe_callB (id := "isinstance") (r := rIsi K) call_isi (by rfl) T.m_isinstance (by decide +kernel) (pa_cons (pv 1) (pa_cons (pe_bltn (by rfl) T.m_tuple (v := .ty "tuple") (by decide +kernel) rfl) pa_nil))))) (pw_or (pt_cmpR (op_eqD hr.units) (pv 1) (pe_tup pa_nil) (nomark _)) (pw_or1 (pt_cmpR op_eq (pe_call (ok__law_draw T) (hr.mono (by decide)) rfl T.m__law_draw T.F__law_draw.kp T.b__law_draw .nil pass0 (pa_cons (pv 0) (pa_cons pe_int pa_nil))) pe_int (nomark _)))))) (pss_one (ps_ret (pe_call (ok__law_odd T) (hr.mono (by decide)) rfl T.m__law_odd T.F__law_odd.kp T.b__law_odd .nil pass0 (pa_cons (pv 0) (pa_cons (pv 1) pa_nil))))) pss_nil)
      (pss_cons (ps_set (i := 2) sc__law_bent.nd rfl (Or.inl rfl) (pe_call (ok__law_draw T) (hr.mono (by decide)) rfl T.m__law_draw T.F__law_draw.kp T.b__law_draw .nil pass0 (pa_cons (pv 0) (pa_cons (pe_callB call_len_seq (by rfl) T.m_len (by decide +kernel) (pa_cons (pv 1) pa_nil)) pa_nil))))
      (pss_one (ps_ret (pe_op op_catA (pe_op op_catA (pe_slice sl_tupA (pv 1) po_none (po_some (pv 2))) (pe_tup (pa_cons (pe_call (ok_bent0 T) (hr.mono (by decide)) rfl T.m__law_bent T.F__law_bent.kp T.b__law_bent .nil pass0 (pa_cons (pv 0) (pa_cons (pe_ix (r := rIxT K) ix_tup (pv 1) (pv 2) (fun _ _ => rfl)) pa_nil))) pa_nil))) (pe_slice sl_tupA (pv 1) (po_some (pe_op op_add (pv 2) pe_int)) po_none)))))), ?_⟩
    have odd : ∀ H1, But d l H H1 → Deck kL H1 d l → (tRet (tCall (spOdd K) [] E0 (tCons (tVar 0) (tCons (tVar 1) tNil))) : TS) { nx := fun _ H' => Q .non H', rt := Q } [some (.ref d), some v, none] H1 := fun H1 e1 D1 =>
      ⟨_, rfl, _, rfl, d, l, v, dv, rfl, D1, Dq.same e1.hide _ _ hv, ho, fun x dd H' e2 D2 hx sz cn => q x dd H' (e1.trans e2) D2 hx sz.mono cn⟩
    cases hat : asTuple dv with
    | none =>
      obtain ⟨t, ht, hk⟩ := Dq.noTuple (Dq.same hide_sub _ _ hv) hat
      refine ⟨_, rfl, _, _, _, _, _, rfl, .ty "tuple", ht, hk, false, rfl, iteT (iteT ?_)⟩
      exact odd H But.refl D
    | some es =>
      obtain rfl : dv = .tuple es := by
        cases dv <;> first | (cases hat; rfl) | cases hat
      obtain ⟨ns, rfl, ln, bn⟩ := ho
      cases hv with
      | @tup a xs _ ha hx =>
        have haH := sqT_same hide_sub ha
        refine ⟨_, rfl, _, _, _, _, _, rfl, .ty "tuple", tyx_tpl haH, kit_ty (r := true) (by decide +kernel), true, rfl, iteF ?_⟩
        obtain rfl := ints_eq hx
        refine ⟨_, rfl, (by decide : 0 ≤ sizeLine), fun p hp => ?_⟩
        have e0 := same_upd (o := .tup []) hp
        have b0 : But d l H (upd H p (.tup [])) := But.of e0
        have D0 := D.same e0
        refine ⟨.tuple (ns.map PyData.int), .tuple [], .tup (sqT_same e0 haH) (dp_ints ns), .tup (SqT.of upd_same) .nil, tup_shaped ns, tup_shaped [], ?_⟩
        rw [eqv_tnil]
        refine ⟨_, rfl, ?_⟩
        generalize upd H p (.tup []) = H0 at e0 b0 D0
        cases hns : ns.isEmpty with
        | true => exact iteT (iteT (odd H0 b0 D0))
        | false =>
          have hn : 0 < ns.length := by
            rw [List.isEmpty_eq_false_iff] at hns
            exact List.length_pos_iff.mpr hns
          refine iteF ?_
          refine ⟨_, rfl, d, l, 4, rfl, by decide, by decide, D0, fun r H1 r0 r1 e1 D1 => ?_⟩
          refine ⟨rfl, _, rfl, ?_⟩
          rw [dec_int]
          have b1 := b0.trans e1
          refine ite2 (fun _ => odd H1 b1 D1) (fun _ => ?_)
          have ha1 := sqT_same b1.hide ha
          have hv1 : Dq K (hide d l H1) (.ref a) (.tuple (ns.map PyData.int)) := .tup ha1 (DqAll.same b1.hide _ _ hx)
          refine ⟨_, rfl, _, rfl, a, _, rfl, .inr (sqT_same hide_sub ha1), d, l, _, rfl, by rw [List.length_map]; omega, by rw [List.length_map]; exact small_bits (by omega) (by omega), D1, fun at_ H2 t0 t1 e2 D2 => ?_⟩
          rw [List.length_map] at t1
          obtain ⟨k, rfl⟩ : ∃ k : Nat, at_ = (k : Int) := ⟨at_.toNat, by omega⟩
          have hk : k < ns.length := by omega
          have ha2 := sqT_same e2.hide ha1
          have hv2 := Dq.same e2.hide _ _ hv1
          refine (td_slice (K := K) D2 (td_var (i := 1) rfl hv2) to_no (hi := some (k : Int)) (fun _ _ q => ⟨_, rfl, _, rfl, q⟩)) H2 _ (Same.refl _) (fun v3 H3 s3 hv3 => ?_)
          have D3 := D2.same s3
          have ha3 := sqT_same (same_hide s3) ha2
          have b3 := (b1.trans e2).same s3
          refine ⟨_, rfl, _, rfl, _, rfl, a, _, _, .int ns[k], rfl, rfl, sqT_same hide_sub ha3, atI_nat (by rw [List.getElem?_map, List.getElem?_eq_getElem hk]; rfl), d, l, .int ns[k], .int ns[k], rfl, D3, .int _, bn _ (List.getElem_mem hk), fun _ => rfl,
            fun x dd H4 e4 D4 hx4 sz4 _ => ?_⟩
          refine ⟨(by rw [sizeLine_eq]; exact (by decide : 1 ≤ 16777216)), fun p5 hp5 => ?_⟩
          have b4 := b3.trans e4
          have n5 := D4.same_new (o := .tup [x]) hp5
          have D5 := D4.same (same_upd (o := .tup [x]) hp5)
          have b5 := b4.same (same_upd (o := .tup [x]) hp5)
          have lc : ∀ lo hi, (MB.cutD (ns.map PyData.int) lo hi).length ≤ 25 := fun lo hi => by
            obtain ⟨ms, e, l1, _⟩ := cut_ints ns lo hi
            rw [e, List.length_map]
            omega
          refine cat_val D5 (Dq.same n5 _ _ (Dq.same e4.hide _ _ hv3)) (.tup (SqT.of (D4.at_new hp5)) (.cons (Dq.same n5 _ _ hx4) .nil)) (by have := lc none (some (k : Int)); simp; omega) (fun y H6 s6 hy => ?_)
          have D6 := D5.same s6
          have b6 := b5.same s6
          have hv6 : Dq K (hide d l H6) (.ref a) (.tuple (ns.map PyData.int)) := .tup (sqT_same b6.hide ha) (DqAll.same b6.hide _ _ hx)
          refine (td_slice (K := K) D6 (td_var (i := 1) rfl hv6) (lo := some ((k : Int) + 1)) (fun _ _ q => ⟨_, rfl, _, _, rfl, rfl, _, rfl, q⟩) to_no) H6 _ (Same.refl _) (fun v7 H7 s7 hv7 => ?_)
          have D7 := D6.same s7
          have b7 := b6.same s7
          refine cat_val D7 (Dq.same (same_hide s7) _ _ hy) hv7 (by have := lc none (some (k : Int)); have := lc (some ((k : Int) + 1)) none; simp; omega) (fun z H8 s8 hz => ?_)
          refine q z _ H8 (b7.same s8) (D7.same s8) hz ?_ (fun ds e => by
            rw [← PyData.tuple.inj e, List.length_append, List.length_append, List.length_singleton]
            exact cut_split ns k hk ln)
          obtain ⟨m1, c1, l1, i1⟩ := cut_ints ns none (some (k : Int))
          obtain ⟨m2, c2, l2, i2⟩ := cut_ints ns (some ((k : Int) + 1)) none
          rw [c1, c2]
          have z1 : SzAll 60 4 (m1.map PyData.int) := (sz_ints (by omega) fun c hc => bn c (i1 c hc)).mono (by decide) (by decide)
          have z2 : SzAll 58 4 (m2.map PyData.int) := ((szAll_ints (k := 4) m2 fun c hc => Nat.lt_trans (bn c (i2 c hc)) (by decide))).mono (by omega) (by decide)
          exact (sz_tup (szAll_app (szAll_app z1 (szAll_cons sz4 (szAll_nil (b := 0)))) z2)).mono
end
end K28
end
section
set_option maxRecDepth 100000
set_option maxHeartbeats 4000000
namespace K28
open PySem PySem.Spec PyProof.Rows L2 MB PM
open LamX hiding takes0
theorem dq_ints {K : PySem.W.Frag} {H : Hp} : ∀ ns : List Int, DqAll K H (ns.map V.int) (ns.map PyData.int)
  | [] => .nil
  | c :: r => .cons (.int c) (dq_ints r)
theorem TI.dq {K : PySem.W.Frag} {d l : Addr} {H : Hp} {v : V} {ns : List Int} (D : Deck kL H d l) (h : TI K H v ns) : Dq K (hide d l H) v (.tuple (ns.map PyData.int)) := by
  obtain ⟨a, rfl, ha⟩ := h
  exact .tup (sqT_hide D ha) (dq_ints ns)
theorem TI.dq0 {K : PySem.W.Frag} {H : Hp} {v : V} {ns : List Int} (h : TI K H v ns) : Dq K H v (.tuple (ns.map PyData.int)) := by
  obtain ⟨a, rfl, ha⟩ := h
  exact .tup ha (dq_ints ns)
end K28
end
section
set_option maxRecDepth 100000
set_option maxHeartbeats 4000000
namespace K28
open PySem PySem.Spec PyProof.Rows L2 MB PM
open LamX hiding takes0
def lsum (q a b : Int) : Int := if q = 4 then Builtin.bitXor a b else (a + b).fmod q
def lneg (q a : Int) : Int := if q = 4 then a else (0 - a).fmod q
def ltim (q a b : Int) : Int := if q = 4 then (four.getD a.toNat []).getD b.toNat 0 else (a * b).fmod q
structure LetQ (q : Int) : Prop where
  lo : 2 ≤ q
  hi : q ≤ 5
section
variable {w : World} {K : PySem.W.Frag} {mg : Str → Option Value} {base : Heap}
def spLsum : Sp := fun vs H Q _ => ∃ q a b : Int, vs = [.int q, .int a, .int b] ∧ LetQ q ∧ Q (.int (lsum q a b)) H
theorem ok_letter_sum (T : Txt K mg) : FnOk P w K mg base CX0 1 T.a_letter_sum T.d_letter_sum P_letter_sum spLsum := by
  refine T.F_letter_sum.ok sc_letter_sum (fun vs H Q E h => ?_) (fun cdv A outer s H vs Q E hr h => ?_)
  · obtain ⟨q, a, b, rfl, _⟩ := h
    rfl
  · obtain ⟨q, a, b, rfl, hq, k⟩ := h
    refine ⟨_, 
      (pss_cons (ps_if (pt_cmpR op_eq (pv 0) pe_int (nomark _)) (pss_one (ps_ret (pe_op op_xor (pv 1) (pv 2)))) pss_nil)
      (pss_one (ps_ret (pe_op op_modN (pe_op op_add (pv 1) (pv 2)) (pv 0))))), ?_⟩
    have := hq.lo
    refine ⟨_, rfl, rfl, _, rfl, ?_⟩
    rw [dec_int]
    unfold lsum at k
    refine ite2 (fun e => ?_) (fun e => ?_)
    · rw [if_pos (of_decide_eq_true e)] at k
      exact ⟨_, rfl, _, rfl, _, _, rfl, rfl, k⟩
    · rw [if_neg (fun z => e (decide_eq_true z))] at k
      exact ⟨_, rfl, _, rfl, _, _, rfl, rfl, _, rfl, _, _, rfl, rfl, by omega, k⟩
def spLneg : Sp := fun vs H Q _ => ∃ q a : Int, vs = [.int q, .int a] ∧ LetQ q ∧ Q (.int (lneg q a)) H
theorem ok_letter_negative (T : Txt K mg) : FnOk P w K mg base CX0 1 T.a_letter_negative T.d_letter_negative P_letter_negative spLneg := by
  refine T.F_letter_negative.ok sc_letter_negative (fun vs H Q E h => ?_) (fun cdv A outer s H vs Q E hr h => ?_)
  · obtain ⟨q, a, rfl, _⟩ := h
    rfl
  · obtain ⟨q, a, rfl, hq, k⟩ := h
    refine ⟨_, 
      (pss_cons (ps_if (pt_cmpR op_eq (pv 0) pe_int (nomark _)) (pss_one (ps_ret (pv 1))) pss_nil)
      (pss_one (ps_ret (pe_op op_modN (pe_op op_sub pe_int (pv 1)) (pv 0))))), ?_⟩
    have := hq.lo
    refine ⟨_, rfl, rfl, _, rfl, ?_⟩
    rw [dec_int]
    unfold lneg at k
    refine ite2 (fun e => ?_) (fun e => ?_)
    · rw [if_pos (of_decide_eq_true e)] at k
      exact ⟨_, rfl, k⟩
    · rw [if_neg (fun z => e (decide_eq_true z))] at k
      exact ⟨_, rfl, _, _, rfl, rfl, _, rfl, _, _, rfl, rfl, by omega, k⟩
def spLtim : Sp := fun vs H Q _ => ∃ q a b : Int, vs = [.int q, .int a, .int b] ∧ LetQ q ∧ (0 ≤ a ∧ a < q) ∧ (0 ≤ b ∧ b < q) ∧ Q (.int (ltim q a b)) H
theorem ok_letter_times (T : Txt K mg) : FnOk P w K mg base CX0 1 T.a_letter_times T.d_letter_times P_letter_times spLtim := by
  refine T.F_letter_times.ok sc_letter_times (fun vs H Q E h => ?_) (fun cdv A outer s H vs Q E hr h => ?_)
  · obtain ⟨q, a, b, rfl, _⟩ := h
    rfl
  · obtain ⟨q, a, b, rfl, hq, ⟨a0, a1⟩, ⟨b0, b1⟩, k⟩ := h
    refine ⟨_, 
      (pss_cons (ps_if (pt_cmpR op_eq (pv 0) pe_int (nomark _)) (pss_one (ps_ret (pe_ix (r := rIxT K) ix_tup (pe_ix (r := rIxT K) ix_tup (pe_glob (v := .ref T.t_four) rfl T.m_four rfl) (pv 1) (fun _ _ => rfl)) (pv 2) (fun _ _ => rfl)))) pss_nil)
      (pss_one (ps_ret (pe_op op_modN (pe_op op_mulW (pv 1) (pv 2)) (pv 0))))), ?_⟩
    have := hq.lo
    have := hq.hi
    refine ⟨_, rfl, rfl, _, rfl, ?_⟩
    rw [dec_int]
    unfold ltim at k
    refine ite2 (fun e => ?_) (fun e => ?_)
    · have e4 := of_decide_eq_true e
      rw [if_pos e4] at k
      obtain ⟨rs, rl, rt, rr⟩ := T.four
      obtain ⟨i, rfl⟩ : ∃ i : Nat, a = (i : Int) := ⟨a.toNat, by omega⟩
      obtain ⟨j, rfl⟩ : ∃ j : Nat, b = (j : Int) := ⟨b.toNat, by omega⟩
      have hi : i < 4 := by omega
      have hj : j < 4 := by omega
      have hir : i < rs.length := by omega
      have hrow := rr i rs[i] H (List.getElem?_eq_getElem hir)
      refine ⟨_, rfl, T.t_four, _, _, .ref rs[i], rfl, rfl, rt H, atI_nat (by rw [List.getElem?_map, List.getElem?_eq_getElem hir]; rfl), _, rfl, rs[i], _, _, .int ((four.getD i []).getD j 0), rfl, rfl, hrow, atI_nat ?_, ?_⟩
      · have : ∀ i < 4, ∀ j < 4, ((four.getD i []).map V.int)[j]? = some (.int ((four.getD i []).getD j 0)) := by decide
        exact this i hi j hj
      · simpa using k
    · rw [if_neg (fun z => e (decide_eq_true z))] at k
      exact ⟨_, rfl, _, rfl, _, _, rfl, rfl, wide_mul (a := 3) (b := 3) (by omega) (by omega) (by decide) (by decide) (by decide), _, rfl, _, _, rfl, rfl, by omega, k⟩
def linv (q a : Int) : Int := (((List.range q.toNat).map (fun n : Nat => (n : Int))).find? fun x => decide (ltim q a x = 1)).getD 0
def IsLet (q a : Int) : Prop := 0 ≤ a ∧ a < q
theorem invs_next (q a : Int) (i : Nat) : (((List.range (i + 1)).map (fun n : Nat => (n : Int))).filter fun x => decide (ltim q a x = 1)) =
    (((List.range i).map (fun n : Nat => (n : Int))).filter fun x => decide (ltim q a x = 1)) ++ (if decide (ltim q a (i : Int) = 1) = true then [(i : Int)] else []) := by
  rw [List.range_succ, List.map_append, List.filter_append]
  congr 1
  by_cases c : ltim q a (i : Int) = 1
  · simp [c]
  · simp [c]
theorem linv_some {q a : Int} (hq : LetQ q) (ha : IsLet q a) (a0 : a ≠ 0) : (((List.range q.toNat).map (fun n : Nat => (n : Int))).find? fun x => decide (ltim q a x = 1)).isSome = true := by
  obtain ⟨h1, h2⟩ := hq
  obtain ⟨h3, h4⟩ := ha
  have hc : q = 2 ∨ q = 3 ∨ q = 4 ∨ q = 5 := by omega
  have ac : a = 1 ∨ a = 2 ∨ a = 3 ∨ a = 4 := by omega
  rcases hc with rfl | rfl | rfl | rfl <;> rcases ac with rfl | rfl | rfl | rfl <;> first | (exfalso; omega) | decide
def spLinv : Sp := fun vs H Q _ => ∃ q a : Int, vs = [.int q, .int a] ∧ LetQ q ∧ IsLet q a ∧ a ≠ 0 ∧ ∀ H', Same H H' → Q (.int (linv q a)) H'
theorem ok_letter_inverse (T : Txt K mg) : FnOk P w K mg base CX0 2 T.a_letter_inverse T.d_letter_inverse P_letter_inverse spLinv := by
  refine T.F_letter_inverse.ok sc_letter_inverse (fun vs H Q E h => ?_) (fun cdv A outer s H vs Q E hr h => ?_)
  · obtain ⟨q, a, rfl, _⟩ := h
    rfl
  · obtain ⟨q, a, rfl, hq, ha, a0, k⟩ := h
    refine ⟨_, 
      (pss_one (ps_ret (pe_ix (r := rIxL K) ix_list (pe_lc (own := [("other", 2)]) (g := gName 2)  rfl sc_letter_inverse.nd (pi_range1 rfl T.m_range (pa_cons (pv 0) pa_nil)) (blkOk_by (own := [("other", 2)]) (N := N_letter_inverse) (sc := defScope s_letter_inverse) (by decide +kernel)) (fun _ _ _ _ _ => (pg_name (i := 2) sc_letter_inverse.nd rfl (Or.inl rfl))) (fun _ _ _ _ _ => (pts_one (pt_cmpR op_eq (pe_call (ok_letter_times T) (hr.mono (by decide)) rfl T.m_letter_times T.F_letter_times.kp T.b_letter_times .nil pass0 (pa_cons (pv 0) (pa_cons (pv 1) (pa_cons (pv 2) pa_nil)))) pe_int (nomark _)))) (fun _ _ _ _ _ => (pv 2))) pe_int (fun _ _ => rfl)))), ?_⟩
    have := hq.lo
    have := hq.hi
    refine ⟨_, rfl, _, rfl, by omega, by omega, fun D hD => ?_⟩
    have nat : ∀ n : Nat, ((List.range n).map (fun n : Nat => (n : Int))).length = n := fun n => by rw [List.length_map, List.length_range]
    refine lc_it (walk_range (lo := 0) (n := q.toNat))
      (fun i H' => Same H H' ∧ H' D = some (.lst ((((List.range i).map (fun n : Nat => (n : Int))).filter fun x => decide (ltim q a x = 1)).map V.int)))
      ⟨same_upd hD, upd_same⟩ (fun _ _ _ _ => trivial) ?_ ?_
    · rintro i x H' _ hi ⟨e, hN⟩ ⟨rfl, rfl⟩
      refine ⟨rfl, ?_⟩
      refine ⟨_, rfl, _, rfl, _, rfl, q, a, _, rfl, hq, ha, ⟨by omega, by omega⟩, rfl, _, rfl, ?_⟩
      rw [dec_int]
      have z0 : (0 : Int) + (i : Int) = (i : Int) := Int.zero_add _
      rw [z0]
      have sz : ((((List.range i).map (fun n : Nat => (n : Int))).filter fun x => decide (ltim q a x = 1)).map V.int).length < sizeLine := by
        rw [List.length_map]
        exact line_le (Nat.le_trans (List.length_filter_le _ _) (by rw [nat]; omega))
      refine ite2 (fun c => ?_) (fun c => ?_)
      · refine ⟨_, rfl, _, hN, sz, same_set hD e, ?_⟩
        rw [upd_same, invs_next, if_pos c, List.map_append]
        show some (HO.lst (_ ++ [V.int (0 + (i : Int))])) = _
        rw [z0]
        rfl
      · refine ⟨e, ?_⟩
        rw [invs_next, if_neg c, List.append_nil]
        exact hN
    · rintro H' ⟨e, hN⟩
      refine ⟨D, _, 0, .int (linv q a), rfl, rfl, SqL.of hN, atI_nat (j := 0) ?_, k H' e⟩
      rw [List.getElem?_map, ← List.head?_eq_getElem?, List.head?_filter]
      have hs := linv_some hq ha a0
      unfold linv
      cases hf : ((List.range q.toNat).map (fun n : Nat => (n : Int))).find? fun x => decide (ltim q a x = 1) with
      | none =>
        rw [hf] at hs
        cases hs
      | some x => rfl
def IsRow (q : Int) (ns : List Int) : Prop := ∀ c ∈ ns, IsLet q c
def spRsum (K : PySem.W.Frag) : Sp := fun vs H Q _ => ∃ (q : Int) (u v : V) (ns ms : List Int), vs = [.int q, u, v] ∧ LetQ q ∧ TI K H u ns ∧ TI K H v ms ∧ ns.length ≤ 1000 ∧
  ∀ z H', Same H H' → TI K H' z (List.zipWith (lsum q) ns ms) → Q z H'
theorem ok_row_sum (T : Txt K mg) : FnOk P w K mg base CX0 2 T.a_row_sum T.d_row_sum P_row_sum (spRsum K) := by
  refine T.F_row_sum.ok sc_row_sum (fun vs H Q E h => ?_) (fun cdv A outer s H vs Q E hr h => ?_)
  · obtain ⟨q, u, v, ns, ms, rfl, _⟩ := h
    rfl
  · obtain ⟨q, _, _, ns, ms, rfl, hq, ⟨a, rfl, ha⟩, ⟨b, rfl, hb⟩, hl, k⟩ := h
    refine ⟨_, 
      (pss_one (ps_ret (pe_callTy call_tuple_of (by rfl) T.m_tuple (by decide +kernel) (pa_cons (pe_lc (own := [("left", 3), ("right", 4)]) (g := gTup K 2 (gCons (gName 3) (gCons (gName 4) gNil))) (tt := tYes) rfl sc_row_sum.nd (RZ.pi_zipA (by rfl) T.m_zip (pa_cons (pv 1) (pa_cons (pv 2) pa_nil))) (blkOk_by (own := [("left", 3), ("right", 4)]) (N := N_row_sum) (sc := defScope s_row_sum) (by decide +kernel)) (fun _ _ _ _ _ => (pg_tup rfl (pgs_cons (pg_name (i := 3) sc_row_sum.nd rfl (Or.inl rfl)) (pgs_cons (pg_name (i := 4) sc_row_sum.nd rfl (Or.inl rfl)) pgs_nil)))) (fun _ _ _ _ _ => pts_nil) (fun _ _ _ _ _ => (pe_call (ok_letter_sum T) (hr.mono (by decide)) rfl T.m_letter_sum T.F_letter_sum.kp T.b_letter_sum .nil pass0 (pa_cons (pv 0) (pa_cons (pv 3) (pa_cons (pv 4) pa_nil)))))) pa_nil)))), ?_⟩
    refine ⟨_, rfl, _, rfl, a, b, _, _, rfl, .inr ⟨ha, hb, ?_⟩⟩
    refine fun D hD => lc_it (walk_zipT (K := K) (a := a) (b := b) (xs := ns.map V.int) (ys := ms.map V.int) rfl)
      (fun i H' => Same H H' ∧ H' D = some (.lst (((List.zipWith (lsum q) ns ms).take i).map V.int)))
      ⟨same_upd hD, by rw [upd_same]; simp⟩ (fun i H' _ ⟨e, _⟩ => ⟨e.tup ha, e.tup hb⟩) ?_ ?_
    · rintro i v H' H'' hi ⟨e, hacc⟩ ⟨T0, x, y, rfl, hT0, rfl, hx, hy⟩
      obtain ⟨c, hc, rfl⟩ := int_at hx
      obtain ⟨d, hd, rfl⟩ := int_at hy
      have hiL : i < ns.length := (List.getElem?_eq_some_iff.mp hc).1
      refine ⟨T0, _, rfl, SqT.of upd_same, rfl, _, _, rfl, _, _, rfl, rfl, rfl, ?_⟩
      refine ⟨_, rfl, _, rfl, _, rfl, q, c, d, rfl, hq, _, (upd_ne (ne_of_none hacc hT0)).trans hacc, ?_, ?_, ?_⟩
      · rw [List.length_map, List.length_take]
        exact line_le (by omega)
      · exact same_set hD (e.trans (same_upd hT0))
      · rw [upd_same, List.take_add_one, List.getElem?_zipWith, hc, hd]
        simp
    · rintro H' ⟨e, hacc⟩
      rw [List.length_map, List.length_map, List.take_of_length_le (by rw [List.length_zipWith]; exact Nat.le_refl _)] at hacc
      refine ⟨D, _, rfl, .inl ⟨SqL.of hacc, fun p8 hp8 => ?_⟩⟩
      exact k _ _ (e.trans (same_upd hp8)) ⟨p8, rfl, SqT.of upd_same⟩
def spRtim (K : PySem.W.Frag) : Sp := fun vs H Q _ => ∃ (q c : Int) (v : V) (ns : List Int), vs = [.int q, .int c, v] ∧ LetQ q ∧ IsLet q c ∧ TI K H v ns ∧ IsRow q ns ∧ ns.length ≤ 1000 ∧
  ∀ z H', Same H H' → TI K H' z (ns.map (ltim q c)) → Q z H'
theorem ok_row_times (T : Txt K mg) : FnOk P w K mg base CX0 2 T.a_row_times T.d_row_times P_row_times (spRtim K) := by
  refine T.F_row_times.ok sc_row_times (fun vs H Q E h => ?_) (fun cdv A outer s H vs Q E hr h => ?_)
  · obtain ⟨q, c, v, ns, rfl, _⟩ := h
    rfl
  · obtain ⟨q, c, _, ns, rfl, hq, hc, ⟨a, rfl, ha⟩, hr', hl, k⟩ := h
    refine ⟨_, 
      (pss_one (ps_ret (pe_callTy call_tuple_of (by rfl) T.m_tuple (by decide +kernel) (pa_cons (pe_lc (own := [("item", 3)]) (g := gName 3) (tt := tYes) rfl sc_row_times.nd (pi_tup (pv 2)) (blkOk_by (own := [("item", 3)]) (N := N_row_times) (sc := defScope s_row_times) (by decide +kernel)) (fun _ _ _ _ _ => (pg_name (i := 3) sc_row_times.nd rfl (Or.inl rfl))) (fun _ _ _ _ _ => pts_nil) (fun _ _ _ _ _ => (pe_call (ok_letter_times T) (hr.mono (by decide)) rfl T.m_letter_times T.F_letter_times.kp T.b_letter_times .nil pass0 (pa_cons (pv 0) (pa_cons (pv 1) (pa_cons (pv 3) pa_nil)))))) pa_nil)))), ?_⟩
    refine ⟨_, rfl, a, rfl, ⟨_, ha⟩, fun D hD => lc_it (walk_tup (K := K) (a := a) (xs := ns.map V.int))
      (fun i H' => Same H H' ∧ H' D = some (.lst (((ns.map (ltim q c)).take i).map V.int))) ⟨same_upd hD, by rw [upd_same]; simp⟩ (fun i H' _ ⟨e, _⟩ => e.tup ha) ?_ ?_⟩
    · rintro i x H' _ hi ⟨e, hacc⟩ ⟨rfl, hx⟩
      obtain ⟨z, hz, rfl⟩ := int_at hx
      have hiL : i < ns.length := (List.getElem?_eq_some_iff.mp hz).1
      refine ⟨rfl, ?_⟩
      refine ⟨_, rfl, _, rfl, _, rfl, q, c, z, rfl, hq, hc, hr' z (List.mem_of_getElem? hz), _, hacc, ?_, same_set hD e, ?_⟩
      · rw [List.length_map, List.length_take]
        exact line_le (by omega)
      · rw [upd_same, List.take_add_one, List.getElem?_map, hz]
        simp
    · rintro H' ⟨e, hacc⟩
      rw [List.take_of_length_le (by rw [List.length_map, List.length_map]; exact Nat.le_refl _)] at hacc
      refine ⟨D, _, rfl, .inl ⟨SqL.of hacc, fun p8 hp8 => ?_⟩⟩
      exact k _ _ (e.trans (same_upd hp8)) ⟨p8, rfl, SqT.of upd_same⟩
def supp (ns : List Int) : List Int := ((List.range ns.length).filter fun i => ns.getD i 0 != 0).map fun i : Nat => (i : Int)
def spRsup (K : PySem.W.Frag) : Sp := fun vs H Q _ => ∃ (v : V) (ns : List Int), vs = [v] ∧ TI K H v ns ∧ ns.length ≤ 1000 ∧ ∀ z H', Same H H' → TI K H' z (supp ns) → Q z H'
theorem ok_row_support (T : Txt K mg) : FnOk P w K mg base CX0 1 T.a_row_support T.d_row_support P_row_support (spRsup K) := by
  refine T.F_row_support.ok sc_row_support (fun vs H Q E h => ?_) (fun cdv A outer s H vs Q E hr h => ?_)
  · obtain ⟨v, ns, rfl, _⟩ := h
    rfl
  · obtain ⟨_, ns, rfl, ⟨a, rfl, ha⟩, hl, k⟩ := h
    refine ⟨_, 
      (pss_one (ps_ret (pe_callTy call_tuple_of (by rfl) T.m_tuple (by decide +kernel) (pa_cons (pe_lc (own := [("place", 1)]) (g := gName 1)  rfl sc_row_support.nd (pi_range1 rfl T.m_range (pa_cons (pe_callB call_len_seq (by rfl) T.m_len (by decide +kernel) (pa_cons (pv 0) pa_nil)) pa_nil)) (blkOk_by (own := [("place", 1)]) (N := N_row_support) (sc := defScope s_row_support) (by decide +kernel)) (fun _ _ _ _ _ => (pg_name (i := 1) sc_row_support.nd rfl (Or.inl rfl))) (fun _ _ _ _ _ => (pts_one (pt_cmpR op_ne (pe_ix (r := rIxT K) ix_tup (pv 0) (pv 1) (fun _ _ => rfl)) pe_int (nomark _)))) (fun _ _ _ _ _ => (pv 1))) pa_nil)))), ?_⟩
    refine ⟨_, rfl, a, _, rfl, .inr ha, _, rfl, ?_, ?_, fun D hD => ?_⟩
    · rw [List.length_map]; omega
    · rw [List.length_map]; omega
    refine lc_it (walk_range (lo := 0) (n := ((ns.map V.int).length : Int).toNat))
      (fun i H' => Same H H' ∧ H' D = some (.lst ((((List.range i).filter fun j => ns.getD j 0 != 0).map fun j : Nat => (j : Int)).map V.int))) ⟨same_upd hD, upd_same⟩ (fun _ _ _ _ => trivial) ?_ ?_
    · rintro i x H' _ hi ⟨e, hN⟩ ⟨rfl, rfl⟩
      rw [List.length_map] at hi
      have hi' : i < ns.length := by omega
      refine ⟨rfl, ?_⟩
      refine ⟨_, rfl, _, rfl, a, _, _, .int ns[i], rfl, rfl, e.tup ha, ?_, rfl, _, rfl, ?_⟩
      · rw [show (0 : Int) + (i : Int) = (i : Int) from Int.zero_add _]
        exact atI_nat (by rw [List.getElem?_map, List.getElem?_eq_getElem hi']; rfl)
      · rw [dec_int]
        have gd : ns.getD i 0 = ns[i] := by rw [List.getD_eq_getElem?_getD, List.getElem?_eq_getElem hi']; rfl
        have sz : ((((List.range i).filter fun j => ns.getD j 0 != 0).map fun j : Nat => (j : Int)).map V.int).length < sizeLine := by
          rw [List.length_map, List.length_map]
          exact line_le (Nat.le_trans (List.length_filter_le _ _) (by rw [List.length_range]; omega))
        refine ite2 (fun c => ?_) (fun c => ?_)
        · refine ⟨_, rfl, _, hN, sz, same_set hD e, ?_⟩
          have c' : (ns.getD i 0 != 0) = true := by
            rw [gd]
            simpa using c
          rw [upd_same, List.range_succ, List.filter_append, List.map_append, List.map_append]
          show some (HO.lst (_ ++ [V.int (0 + (i : Int))])) = _
          rw [Int.zero_add, List.filter_cons_of_pos (by exact c')]
          rfl
        · refine ⟨e, ?_⟩
          have c' : ¬ ((ns.getD i 0 != 0) = true) := by
            rw [gd]
            simpa using c
          rw [List.range_succ, List.filter_append, List.filter_cons_of_neg (by exact c'), List.filter_nil, List.append_nil]
          exact hN
    · rintro H' ⟨e, hN⟩
      refine ⟨D, _, rfl, .inl ⟨SqL.of hN, fun p8 hp8 => ?_⟩⟩
      refine k _ _ (e.trans (same_upd hp8)) ⟨p8, rfl, ?_⟩
      have z : ((ns.map V.int).length : Int).toNat = ns.length := by rw [List.length_map]; omega
      unfold supp
      rw [← z]
      exact SqT.of upd_same
end
end K28
end
section
set_option maxRecDepth 100000
set_option maxHeartbeats 4000000
namespace K28
open PySem PySem.Spec PyProof.Rows L2 MB PM
open LamX hiding takes0
theorem four_cases {q a : Int} (e : q = 4) (h : IsLet q a) : a = 0 ∨ a = 1 ∨ a = 2 ∨ a = 3 := by
  obtain ⟨h1, h2⟩ := h
  omega
theorem let_fmod {q : Int} (hq : LetQ q) (x : Int) : IsLet q (x.fmod q) := by
  have := hq.lo
  exact ⟨Int.fmod_nonneg_of_pos _ (by omega), Int.fmod_lt_of_pos _ (by omega)⟩
theorem let_sum {q a b : Int} (hq : LetQ q) (ha : IsLet q a) (hb : IsLet q b) : IsLet q (lsum q a b) := by
  unfold lsum
  split
  · rename_i e
    rcases four_cases e ha with rfl | rfl | rfl | rfl <;> rcases four_cases e hb with rfl | rfl | rfl | rfl <;> subst e <;> exact ⟨by decide, by decide⟩
  · exact let_fmod hq _
theorem let_neg {q a : Int} (hq : LetQ q) (ha : IsLet q a) : IsLet q (lneg q a) := by
  unfold lneg
  split
  · exact ha
  · exact let_fmod hq _
theorem let_tim {q a b : Int} (hq : LetQ q) (ha : IsLet q a) (hb : IsLet q b) : IsLet q (ltim q a b) := by
  unfold ltim
  split
  · rename_i e
    rcases four_cases e ha with rfl | rfl | rfl | rfl <;> rcases four_cases e hb with rfl | rfl | rfl | rfl <;> subst e <;> exact ⟨by decide, by decide⟩
  · exact let_fmod hq _
theorem let_inv {q a : Int} (hq : LetQ q) (ha : IsLet q a) (a0 : a ≠ 0) : IsLet q (linv q a) := by
  have hs := linv_some hq ha a0
  unfold linv
  cases hf : ((List.range q.toNat).map (fun n : Nat => (n : Int))).find? fun x => decide (ltim q a x = 1) with
  | none =>
    rw [hf] at hs
    cases hs
  | some x =>
    obtain ⟨n, hn, rfl⟩ := List.mem_map.mp (List.mem_of_find?_eq_some hf)
    rw [List.mem_range] at hn
    exact ⟨by simp, by simp; omega⟩
def wza (q : Int) (p : Nat) (row head : List Int) : List Int := List.zipWith (lsum q) row (head.map (ltim q (lneg q (row.getD p 0))))
theorem row_at {q : Int} {ns : List Int} (h : IsRow q ns) {p : Nat} (hp : p < ns.length) : IsLet q (ns.getD p 0) := by
  rw [List.getD_eq_getElem?_getD, List.getElem?_eq_getElem hp]
  exact h _ (List.getElem_mem hp)
theorem row_wza {q : Int} (hq : LetQ q) {p : Nat} {row head : List Int} (hr : IsRow q row) (hh : IsRow q head) (hp : p < row.length) : IsRow q (wza q p row head) := by
  intro c hc
  unfold wza at hc
  obtain ⟨i, hi, rfl⟩ := List.mem_iff_getElem.mp hc
  rw [List.getElem_zipWith, List.getElem_map]
  exact let_sum hq (hr _ (List.getElem_mem _)) (let_tim hq (let_neg hq (row_at hr hp)) (hh _ (List.getElem_mem _)))
section
variable {w : World} {K : PySem.W.Frag} {mg : Str → Option Value} {base : Heap}
def spWza (K : PySem.W.Frag) : Sp := fun vs H Q _ => ∃ (q : Int) (p : Nat) (u v : V) (row head : List Int), vs = [.int q, .int (p : Int), u, v] ∧ LetQ q ∧ TI K H u row ∧ TI K H v head ∧ IsRow q row ∧ IsRow q head ∧ p < row.length ∧ row.length ≤ 1000 ∧ head.length ≤ 1000 ∧
  ∀ z H', Same H H' → TI K H' z (wza q p row head) → Q z H'
theorem ok_with_zero_at (T : Txt K mg) : FnOk P w K mg base CX0 3 T.a_with_zero_at T.d_with_zero_at P_with_zero_at (spWza K) := by
  refine T.F_with_zero_at.ok sc_with_zero_at (fun vs H Q E h => ?_) (fun cdv A outer s H vs Q E hr h => ?_)
  · obtain ⟨q, p, u, v, row, head, rfl, _⟩ := h
    rfl
  · obtain ⟨q, p, _, v, row, head, rfl, hq, ⟨a, rfl, ha⟩, hv, hrow, hhead, hp, hl, hl2, k⟩ := h
    refine ⟨_, 
      (pss_one (ps_ret (pe_call (ok_row_sum T) (hr.mono (by decide)) rfl T.m_row_sum T.F_row_sum.kp T.b_row_sum .nil pass0 (pa_cons (pv 0) (pa_cons (pv 2) (pa_cons (pe_call (ok_row_times T) (hr.mono (by decide)) rfl T.m_row_times T.F_row_times.kp T.b_row_times .nil pass0 (pa_cons (pv 0) (pa_cons (pe_call (ok_letter_negative T) (hr.mono (by decide)) rfl T.m_letter_negative T.F_letter_negative.kp T.b_letter_negative .nil pass0 (pa_cons (pv 0) (pa_cons (pe_ix (r := rIxT K) ix_tup (pv 2) (pv 1) (fun _ _ => rfl)) pa_nil))) (pa_cons (pv 3) pa_nil)))) pa_nil)))))), ?_⟩
    refine ⟨_, rfl, _, rfl, _, rfl, _, rfl, _, rfl, _, rfl, a, _, _, .int (row.getD p 0), rfl, rfl, ha, atI_nat ?_, q, _, rfl, hq, _, rfl, q, _, v, head, rfl, hq, let_neg hq (row_at hrow hp), hv, hhead, hl2, fun z H1 s1 hz => ?_⟩
    · rw [List.getElem?_map, List.getD_eq_getElem?_getD, List.getElem?_eq_getElem hp]
      rfl
    · exact ⟨q, _, _, row, _, rfl, hq, ⟨a, rfl, s1.tup ha⟩, hz, hl, fun y H2 s2 hy => k y H2 (s1.trans s2) hy⟩
end
end K28
end
section
set_option maxRecDepth 100000
set_option maxHeartbeats 4000000
namespace K28
open PySem PySem.Spec PyProof.Rows L2 MB PM
open LamX hiding takes0
def gstep (q : Int) (s : List (List Int) × List (List Int)) (p : Nat) : List (List Int) × List (List Int) :=
  match s.1.filter (fun r => r.getD p 0 != 0) with
  | [] => s
  | h :: _ => (s.1.map fun r => wza q p r (h.map (ltim q (linv q (h.getD p 0)))), (s.2.map fun r => wza q p r (h.map (ltim q (linv q (h.getD p 0))))) ++ [h.map (ltim q (linv q (h.getD p 0)))])
def gauss (q : Int) (n : Nat) (rows : List (List Int)) : List (List Int) := ((List.range n).foldl (gstep q) (rows, [])).2
def AllR (q : Int) (n : Nat) (Ls : List (List Int)) : Prop := ∀ r ∈ Ls, IsRow q r ∧ r.length = n
def RowsAt (K : PySem.W.Frag) (H : Hp) (L : Addr) (Ls : List (List Int)) : Prop := ∃ vs, H L = some (.lst vs) ∧ Paired (TI K H) vs Ls
def TupRows (K : PySem.W.Frag) (H : Hp) (v : V) (Ls : List (List Int)) : Prop := ∃ a vs, v = .ref a ∧ SqT K H a vs ∧ Paired (TI K H) vs Ls
theorem rows_same {K : PySem.W.Frag} {H H' : Hp} {vs : List V} {Ls : List (List Int)} (e : Same H H') (h : Paired (TI K H) vs Ls) : Paired (TI K H') vs Ls := by
  induction h with
  | nil => exact .nil
  | cons r _ ih => exact .cons (r.same e) ih
theorem ti_updl {K : PySem.W.Frag} {H : Hp} {L : Addr} {us : List V} {o : List V} {v : V} {ns : List Int} (hL : H L = some (.lst us)) (h : TI K H v ns) : TI K (upd H L (.lst o)) v ns := by
  obtain ⟨t, rfl, ht⟩ := h
  refine ⟨t, rfl, ?_⟩
  rcases ht with (q | ⟨ob, q⟩) | q
  · have ne : t ≠ L := ne_of q hL (by intro z; cases z)
    exact .inl (.inl ((upd_ne ne).trans q))
  · have ne : t ≠ L := ne_of q hL (by intro z; cases z)
    exact .inl (.inr ⟨ob, (upd_ne ne).trans q⟩)
  · exact .inr q
theorem rows_updl {K : PySem.W.Frag} {H : Hp} {L : Addr} {us o vs : List V} {Ls : List (List Int)} (hL : H L = some (.lst us)) (h : Paired (TI K H) vs Ls) : Paired (TI K (upd H L (.lst o))) vs Ls := by
  induction h with
  | nil => exact .nil
  | cons r _ ih => exact .cons (ti_updl hL r) ih
theorem paired_snoc {α β : Type} {R : α → β → Prop} {xs : List α} {ys : List β} {x : α} {y : β} (h : Paired R xs ys) (r : R x y) : Paired R (xs ++ [x]) (ys ++ [y]) := by
  induction h with
  | nil => exact .cons r .nil
  | cons a _ ih => exact .cons a ih
section
variable {w : World} {K : PySem.W.Frag} {mg : Str → Option Value} {base : Heap}
def spRed (K : PySem.W.Frag) : Sp := fun vs H Q _ => ∃ (q : Int) (n : Nat) (v : V) (Ls : List (List Int)), vs = [.int q, .int (n : Int), v] ∧ LetQ q ∧ n ≤ 8 ∧ TupRows K H v Ls ∧ AllR q n Ls ∧ Ls.length ≤ 1000 ∧
  ∀ z H', Same H H' → TupRows K H' z (gauss q n Ls) → Q z H'
theorem ok_reduced_rows (T : Txt K mg) : FnOk P w K mg base CX0 4 T.a_reduced_rows T.d_reduced_rows P_reduced_rows (spRed K) := by
  refine T.F_reduced_rows.ok sc_reduced_rows (fun vs H Q E h => ?_) (fun cdv A outer s H vs Q E hr h => ?_)
  · obtain ⟨q, n, v, Ls, rfl, _⟩ := h
    rfl
  · obtain ⟨q, n, _, Ls, rfl, hq, hn, ⟨a, vs, rfl, ha, hp⟩, hall, hl, k⟩ := h
    refine ⟨_, 
      (pss_cons (ps_set (i := 3) sc_reduced_rows.nd rfl (Or.inl rfl) (pe_callTy call_list_of (by rfl) T.m_list (by decide +kernel) (pa_cons (pv 2) pa_nil)))
      (pss_cons (ps_set (i := 4) sc_reduced_rows.nd rfl (Or.inl rfl) (pe_lst pa_nil))
      (pss_cons (ps_for PassesOwn.never rfl (pi_range1 rfl T.m_range (pa_cons (pv 1) pa_nil)) (pg_name (i := 5) sc_reduced_rows.nd rfl (Or.inr rfl)) (pss_cons (ps_setLc (i := 6) (own := [("row", 8)]) (g := gName 8)  rfl sc_reduced_rows.nd rfl rfl (sw_true rfl rfl rfl (by decide +kernel)) (pi_list (pv 3)) (blkOk_by (own := [("row", 8)]) (N := N_reduced_rows) (sc := defScope s_reduced_rows) (by decide +kernel)) (fun _ _ _ _ _ => (pg_name (i := 8) sc_reduced_rows.nd rfl (Or.inl rfl))) (fun _ _ _ _ _ => (pts_one (pt_cmpR op_ne (pe_ix (r := rIxT K) ix_tup (pv 8) (pv 5) (fun _ _ => rfl)) pe_int (nomark _)))) (fun _ _ _ _ _ => (pv 8)))
      (pss_one (ps_if (pt_truth (pv 6) (by intro _; rfl)) (pss_cons (ps_set (i := 7) sc_reduced_rows.nd rfl (Or.inr rfl) (pe_call (ok_row_times T) (hr.mono (by decide)) rfl T.m_row_times T.F_row_times.kp T.b_row_times .nil pass0 (pa_cons (pv 0) (pa_cons (pe_call (ok_letter_inverse T) (hr.mono (by decide)) rfl T.m_letter_inverse T.F_letter_inverse.kp T.b_letter_inverse .nil pass0 (pa_cons (pv 0) (pa_cons (pe_ix (r := rIxT K) ix_tup (pe_ix (r := rIxL K) ix_list (pv 6) pe_int (fun _ _ => rfl)) (pv 5) (fun _ _ => rfl)) pa_nil))) (pa_cons (pe_ix (r := rIxL K) ix_list (pv 6) pe_int (fun _ _ => rfl)) pa_nil)))))
      (pss_cons (ps_setLc (i := 3) (own := [("row", 8)]) (g := gName 8) (tt := tYes) rfl sc_reduced_rows.nd rfl rfl (sw_true rfl rfl rfl (by decide +kernel)) (pi_list (pv 3)) (blkOk_by (own := [("row", 8)]) (N := N_reduced_rows) (sc := defScope s_reduced_rows) (by decide +kernel)) (fun _ _ _ _ _ => (pg_name (i := 8) sc_reduced_rows.nd rfl (Or.inl rfl))) (fun _ _ _ _ _ => pts_nil) (fun _ _ _ _ _ => (pe_call (ok_with_zero_at T) (hr.mono (by decide)) rfl T.m_with_zero_at T.F_with_zero_at.kp T.b_with_zero_at .nil pass0 (pa_cons (pv 0) (pa_cons (pv 5) (pa_cons (pv 8) (pa_cons (pv 7) pa_nil)))))))
      (pss_cons (ps_setLc (i := 4) (own := [("row", 8)]) (g := gName 8) (tt := tYes) rfl sc_reduced_rows.nd rfl rfl (sw_true rfl rfl rfl (by decide +kernel)) (pi_list (pv 4)) (blkOk_by (own := [("row", 8)]) (N := N_reduced_rows) (sc := defScope s_reduced_rows) (by decide +kernel)) (fun _ _ _ _ _ => (pg_name (i := 8) sc_reduced_rows.nd rfl (Or.inl rfl))) (fun _ _ _ _ _ => pts_nil) (fun _ _ _ _ _ => (pe_call (ok_with_zero_at T) (hr.mono (by decide)) rfl T.m_with_zero_at T.F_with_zero_at.kp T.b_with_zero_at .nil pass0 (pa_cons (pv 0) (pa_cons (pv 5) (pa_cons (pv 8) (pa_cons (pv 7) pa_nil)))))))
      (pss_one (ps_expr (pe_bm PySem.F.plainAttrs_list PySem.F.slot_list_append PySem.F.type_list_append mt_append (pv 4) (pa_cons (pv 7) pa_nil))))))) pss_nil))))
      (pss_one (ps_ret (pe_callTy call_tuple_of (by rfl) T.m_tuple (by decide +kernel) (pa_cons (pv 4) pa_nil))))))), ?_⟩
    refine ⟨_, rfl, a, _, rfl, .inr ha, fun L0 hL0 => ?_⟩
    refine ⟨Nat.zero_le _, fun D0 hD0 => ?_⟩
    have sD : Same H (upd (upd H L0 (.lst vs)) D0 (.lst [])) := (same_upd hL0).trans (same_upd hD0)
    refine ⟨_, rfl, _, rfl, by omega, by omega, for_range (lo := 0) (n := (n : Int).toNat)
      (fun i σ H' => ∃ L D o5 o6 o7, σ = [some (.int q), some (.int (n : Int)), some (.ref a), some (.ref L), some (.ref D), o5, o6, o7, none] ∧ Same H H' ∧
        RowsAt K H' L ((List.range i).foldl (gstep q) (Ls, [])).1 ∧ RowsAt K H' D ((List.range i).foldl (gstep q) (Ls, [])).2 ∧
        AllR q n ((List.range i).foldl (gstep q) (Ls, [])).1 ∧ AllR q n ((List.range i).foldl (gstep q) (Ls, [])).2 ∧
        ((List.range i).foldl (gstep q) (Ls, [])).1.length ≤ 1000 ∧ ((List.range i).foldl (gstep q) (Ls, [])).2.length ≤ i)
      ⟨L0, D0, none, none, none, rfl, sD, ⟨vs, (same_upd hD0) _ _ upd_same, rows_same sD hp⟩, ⟨[], upd_same, .nil⟩, hall, (fun r hr => by cases hr), hl, Nat.le_refl _⟩ ?_ ?_⟩
    · rintro i _ H1 hi ⟨L, D, o5, o6, o7, rfl, s1, hL, hD, aL, aD, lL, lD⟩
      rw [List.range_succ, List.foldl_append, List.foldl_cons, List.foldl_nil]
      generalize (List.range i).foldl (gstep q) (Ls, []) = st at hL hD aL aD lL lD
      have hin : i < n := by omega
      obtain ⟨vL, hLl, pL⟩ := hL
      refine ⟨_, rfl, _, rfl, ⟨_, SqL.of hLl⟩, fun G0 hG0 => ?_⟩
      refine lc_it (walk_list (K := K) (a := L) (xs := vL))
        (fun i2 G => Same H1 G ∧ ∃ ws, G G0 = some (.lst ws) ∧ Paired (TI K G) ws ((st.1.take i2).filter fun r => r.getD i 0 != 0))
        ⟨same_upd hG0, [], upd_same, .nil⟩ (fun i2 G _ ⟨e, _⟩ => SqL.of (e _ _ hLl)) ?_ ?_
      · rintro i2 x G _ hi2 ⟨e, ws, hw, pw⟩ ⟨rfl, hx⟩
        obtain ⟨r, hr2, ti⟩ := paired_at pL hx
        have hm : r ∈ st.1 := List.mem_of_getElem? hr2
        obtain ⟨ir, lr⟩ := aL r hm
        obtain ⟨t, rfl, ht⟩ := TI.same ti e
        refine ⟨rfl, ?_⟩
        have hir : i < r.length := by omega
        have gd : r.getD i 0 = r[i] := by rw [List.getD_eq_getElem?_getD, List.getElem?_eq_getElem hir]; rfl
        refine ⟨_, rfl, _, rfl, t, _, _, .int r[i], rfl, rfl, ht, ?_, rfl, _, rfl, ?_⟩
        · rw [show (0 : Int) + (i : Int) = (i : Int) from Int.zero_add _]
          exact atI_nat (by rw [List.getElem?_map, List.getElem?_eq_getElem hir]; rfl)
        · rw [dec_int]
          have hwl : ws.length ≤ i2 := by
            rw [pw.length]
            exact Nat.le_trans (List.length_filter_le _ _) (by rw [List.length_take]; omega)
          have lM : st.1.length = vL.length := pL.length.symm
          refine ite2 (fun c => ?_) (fun c => ?_)
          · have c' : (r.getD i 0 != 0) = true := by
              rw [gd]
              simpa using c
            refine ⟨_, rfl, ws, hw, line_le (by omega), same_set hG0 e, ws ++ [.ref t], upd_same, ?_⟩
            rw [List.take_add_one, hr2, List.filter_append]
            show Paired _ _ (_ ++ List.filter _ [r])
            rw [List.filter_cons_of_pos (by exact c'), List.filter_nil]
            exact paired_snoc (rows_updl hw pw) (ti_updl hw ⟨t, rfl, ht⟩)
          · have c' : ¬ ((r.getD i 0 != 0) = true) := by
              rw [gd]
              simpa using c
            refine ⟨e, ws, hw, ?_⟩
            rw [List.take_add_one, hr2, List.filter_append]
            show Paired _ _ (_ ++ List.filter _ [r])
            rw [List.filter_cons_of_neg (by exact c'), List.filter_nil, List.append_nil]
            exact pw
      rintro H2 ⟨e2, ws, hw, pw⟩
      rw [pL.length, List.take_length] at pw
      have hLr2 : RowsAt K H2 L st.1 := ⟨vL, e2 _ _ hLl, rows_same e2 pL⟩
      have hDr2 : RowsAt K H2 D st.2 := let ⟨vD, h1, h2⟩ := hD; ⟨vD, e2 _ _ h1, rows_same e2 h2⟩
      have s2 := s1.trans e2
      unfold gstep
      cases hf : st.1.filter (fun r => r.getD i 0 != 0) with
      | nil =>
        rw [hf] at pw
        cases pw
        refine ⟨_, rfl, false, ?_, ?_⟩
        · exact .inl ⟨[], SqL.of hw, rfl⟩
        · refine iteF ?_
          exact ⟨L, D, _, _, _, rfl, s2, hLr2, hDr2, aL, aD, lL, Nat.le_succ_of_le lD⟩
      | cons h hs =>
        rw [hf] at pw
        refine ⟨_, rfl, true, ?_, ?_⟩
        · exact .inl ⟨ws, SqL.of hw, by cases pw; rfl⟩
        · refine iteT ?_
          cases pw with
          | @cons v0 _ vr _ t0 tr =>
            obtain ⟨a0, rfl, ha0⟩ := t0
            have hmem : h ∈ st.1.filter (fun r => r.getD i 0 != 0) := by rw [hf]; exact List.mem_cons_self
            obtain ⟨hm1, hm2⟩ := List.mem_filter.mp hmem
            obtain ⟨ih0, lh0⟩ := aL h hm1
            have hih : i < h.length := by omega
            have c0 : h.getD i 0 ≠ 0 := by simpa using hm2
            have lti := row_at ih0 hih
            have gd : (h.map V.int)[i]? = some (.int (h.getD i 0)) := by
              rw [List.getElem?_map, List.getD_eq_getElem?_getD, List.getElem?_eq_getElem hih]
              rfl
            refine ⟨_, rfl, _, rfl, _, rfl, G0, _, 0, .ref a0, rfl, rfl, SqL.of hw, atI_nat (j := 0) rfl, _, rfl, a0, _, _, .int (h.getD i 0), rfl, rfl, ha0, ?_, q, _, rfl, hq, lti, c0, fun H2' s2' => ?_⟩
            · rw [show (0 : Int) + (i : Int) = (i : Int) from Int.zero_add _]
              exact atI_nat gd
            refine ⟨_, rfl, G0, _, 0, .ref a0, rfl, rfl, SqL.of (s2' _ _ hw), atI_nat (j := 0) rfl, q, _, _, h, rfl, hq, let_inv hq lti c0, ⟨a0, rfl, s2'.tup ha0⟩, ih0, by omega, fun hv H3 s3 thd => ?_⟩
            have hdr : IsRow q (h.map (ltim q (linv q (h.getD i 0)))) := fun c hc => by
              obtain ⟨x, hx, rfl⟩ := List.mem_map.mp hc
              exact let_tim hq (let_inv hq lti c0) (ih0 x hx)
            have hdl : (h.map (ltim q (linv q (h.getD i 0)))).length = n := by rw [List.length_map]; exact lh0
            have s13 := s2.trans (s2'.trans s3)
            have hLr : RowsAt K H3 L st.1 := let ⟨w1, h1, h2⟩ := hLr2; ⟨w1, (s2'.trans s3) _ _ h1, rows_same (s2'.trans s3) h2⟩
            have hDr3 : RowsAt K H3 D st.2 := let ⟨w1, h1, h2⟩ := hDr2; ⟨w1, (s2'.trans s3) _ _ h1, rows_same (s2'.trans s3) h2⟩
            generalize hgd : h.map (ltim q (linv q (h.getD i 0))) = hd at thd hdr hdl
            obtain ⟨vA, lA, pA⟩ := hLr
            refine ⟨_, rfl, _, rfl, ⟨_, SqL.of lA⟩, fun LA hLA => ?_⟩
            refine lc_it (walk_list (K := K) (a := L) (xs := vA))
              (fun i2 G => Same H3 G ∧ ∃ ws, G LA = some (.lst ws) ∧ Paired (TI K G) ws ((st.1.take i2).map fun r => wza q i r hd))
              ⟨same_upd hLA, [], upd_same, .nil⟩ (fun i2 G _ ⟨e, _⟩ => SqL.of (e _ _ lA)) ?_ ?_
            · rintro i2 x G _ hi2 ⟨e, ws, hw, pw⟩ ⟨rfl, hx⟩
              obtain ⟨r, hr2, ti⟩ := paired_at pA hx
              have hm : r ∈ st.1 := List.mem_of_getElem? hr2
              obtain ⟨ir, lr⟩ := aL r hm
              have tiG := TI.same ti e
              refine ⟨rfl, ?_⟩
              refine ⟨_, rfl, _, rfl, _, rfl, _, rfl, q, i, _, _, r, hd, by rw [show ((0 : Int) + (i : Int)) = (i : Int) from Int.zero_add _]; rfl, hq, tiG, TI.same thd ((Same.refl _).trans e), ir, hdr, by omega, by omega, by omega, fun z G2 s2 hz => ?_⟩
              have hwl : ws.length ≤ i2 := by
                rw [pw.length, List.length_map, List.length_take]
                omega
              have lM : st.1.length = vA.length := pA.length.symm
              refine ⟨ws, s2 _ _ hw, line_le (by omega), same_set hLA (e.trans s2), ws ++ [z], upd_same, ?_⟩
              have g2 := s2 _ _ hw
              have pw2 := rows_updl (o := ws ++ [z]) g2 (rows_same s2 pw)
              rw [List.take_add_one, hr2]
              rw [List.map_append]
              exact paired_snoc pw2 (ti_updl g2 hz)
            rintro H4 ⟨eA, wsA, hwA, pwA⟩
            rw [pA.length, List.take_length] at pwA
            have hDr : RowsAt K H4 D st.2 := let ⟨w1, h1, h2⟩ := hDr3; ⟨w1, eA _ _ h1, rows_same eA h2⟩
            obtain ⟨vB, lB, pB⟩ := hDr
            refine ⟨_, rfl, _, rfl, ⟨_, SqL.of lB⟩, fun LB hLB => ?_⟩
            refine lc_it (walk_list (K := K) (a := D) (xs := vB))
              (fun i2 G => Same H4 G ∧ ∃ ws, G LB = some (.lst ws) ∧ Paired (TI K G) ws ((st.2.take i2).map fun r => wza q i r hd))
              ⟨same_upd hLB, [], upd_same, .nil⟩ (fun i2 G _ ⟨e, _⟩ => SqL.of (e _ _ lB)) ?_ ?_
            · rintro i2 x G _ hi2 ⟨e, ws, hw, pw⟩ ⟨rfl, hx⟩
              obtain ⟨r, hr2, ti⟩ := paired_at pB hx
              have hm : r ∈ st.2 := List.mem_of_getElem? hr2
              obtain ⟨ir, lr⟩ := aD r hm
              have tiG := TI.same ti e
              refine ⟨rfl, ?_⟩
              refine ⟨_, rfl, _, rfl, _, rfl, _, rfl, q, i, _, _, r, hd, by rw [show ((0 : Int) + (i : Int)) = (i : Int) from Int.zero_add _]; rfl, hq, tiG, TI.same thd (eA.trans e), ir, hdr, by omega, by omega, by omega, fun z G2 s2 hz => ?_⟩
              have hwl : ws.length ≤ i2 := by
                rw [pw.length, List.length_map, List.length_take]
                omega
              have lM : st.2.length = vB.length := pB.length.symm
              refine ⟨ws, s2 _ _ hw, line_le (by omega), same_set hLB (e.trans s2), ws ++ [z], upd_same, ?_⟩
              have g2 := s2 _ _ hw
              have pw2 := rows_updl (o := ws ++ [z]) g2 (rows_same s2 pw)
              rw [List.take_add_one, hr2]
              rw [List.map_append]
              exact paired_snoc pw2 (ti_updl g2 hz)
            rintro H5 ⟨eB, wsB, hwB, pwB⟩
            rw [pB.length, List.take_length] at pwB
            have nLB : H LB = none := (s13.trans eA).free hLB
            have lB1 : wsB.length ≤ 8 := by
              rw [pwB.length, List.length_map]
              omega
            refine ⟨_, rfl, .inl ⟨rfl, _, SqL.of hwB⟩, _, rfl, LB, _, _, rfl, rfl, hwB, line_le (by omega), ?_⟩
            have neAB : LA ≠ LB := ne_of_none hwA hLB
            have mapR : ∀ Ms, AllR q n Ms → AllR q n (Ms.map fun r => wza q i r hd) := fun Ms al r hr => by
              obtain ⟨x, hx, rfl⟩ := List.mem_map.mp hr
              obtain ⟨ix, lx⟩ := al x hx
              refine ⟨row_wza hq ix hdr (by omega), ?_⟩
              unfold wza
              rw [List.length_zipWith, List.length_map]
              omega
            subst hgd
            refine ⟨LA, LB, _, _, _, rfl, same_set nLB ((s13.trans eA).trans eB), ⟨wsA, (upd_ne neAB).trans (eB _ _ hwA), rows_updl hwB (rows_same eB pwA)⟩,
              ⟨wsB ++ [hv], upd_same, paired_snoc (rows_updl hwB pwB) (ti_updl hwB (TI.same thd (eA.trans eB)))⟩, mapR _ aL, ?_, ?_, ?_⟩
            · intro r hr
              rcases List.mem_append.mp hr with hr | hr
              · exact mapR _ aD r hr
              · rw [List.mem_singleton.mp hr]
                exact ⟨hdr, hdl⟩
            · rw [List.length_map]
              exact lL
            · rw [List.length_append, List.length_map]
              exact Nat.succ_le_succ lD
    · rintro _ H1 ⟨L, D, o5, o6, o7, rfl, s1, hL, hD, aL, aD, lL, lD⟩
      obtain ⟨vD, hDl, pD⟩ := hD
      refine ⟨_, rfl, D, _, rfl, .inl ⟨SqL.of hDl, fun p4 hp4 => ?_⟩⟩
      have e4 := same_upd (o := .tup vD) hp4
      refine k _ _ (s1.trans e4) ⟨p4, vD, rfl, SqT.of upd_same, rows_same e4 ?_⟩
      have z : (n : Int).toNat = n := by omega
      rw [z] at pD
      exact pD
end
end K28
end
section
set_option maxRecDepth 100000
set_option maxHeartbeats 4000000
namespace K28
open PySem PySem.Spec PyProof.Rows L2 MB PM
open LamX hiding takes0
section
variable {w : World} {K : PySem.W.Frag} {mg : Str → Option Value} {base : Heap}
def inFrom (lo hi : Int) : Option Int → Bool
  | none => false
  | some i => decide (lo ≤ i) && decide (i ≤ hi)
def spFrom (K : PySem.W.Frag) : Sp := fun vs H Q _ => ∃ (v : V) (lo hi : Int) (o : Option Int), vs = [v, .int lo, .int hi] ∧ IntQ K H v o ∧ Q (.bl (inFrom lo hi o)) H
theorem ok_is_integer_from (T : Txt K mg) : FnOk P w K mg base CX0 2 T.a_is_integer_from T.d_is_integer_from P_is_integer_from (spFrom K) := by
  refine T.F_is_integer_from.ok sc_is_integer_from (fun vs H Q E h => ?_) (fun cdv A outer s H vs Q E hr h => ?_)
  · obtain ⟨v, lo, hi, o, rfl, _⟩ := h
    rfl
  · obtain ⟨v, lo, hi, o, rfl, hv, k⟩ := h
    refine ⟨_, 
      (pss_one (ps_ret (pe_and (pe_call (ok_is_integer T) (hr.mono (by decide)) rfl T.m_is_integer T.F_is_integer.kp T.b_is_integer .nil pass0 (pa_cons (pv 0) pa_nil)) (pe_one (pe_chain op_le op_le (pv 1) (pv 0) (pv 2)))))), ?_⟩
    refine ⟨_, rfl, v, o, rfl, hv, o.isSome, rfl, ?_⟩
    cases o with
    | none => exact iteF k
    | some i =>
      obtain rfl : v = .int i := hv
      refine iteT ?_
      have k' : Q (.bl (decide (lo ≤ i) && decide (i ≤ hi))) H := k
      refine ⟨_, rfl, _, rfl, _, _, rfl, rfl, decide (lo ≤ i), rfl, ?_⟩
      by_cases c : lo ≤ i
      · rw [decide_eq_true c] at k' ⊢
        exact iteT ⟨_, rfl, _, _, rfl, rfl, k'⟩
      · rw [decide_eq_false c] at k' ⊢
        exact iteF k'
def allFrom (lo hi : Int) : Option (List (Option Int)) → Bool
  | none => false
  | some os => os.all (inFrom lo hi)
def spsFrom (K : PySem.W.Frag) : Sp := fun vs H Q _ => ∃ (v : V) (lo hi : Int) (o : Option (List (Option Int))), vs = [v, .int lo, .int hi] ∧ Lev K H v o ∧ ∀ H', Same H H' → Q (.bl (allFrom lo hi o)) H'
theorem ok_are_integers_from (T : Txt K mg) : FnOk P w K mg base CX0 3 T.a_are_integers_from T.d_are_integers_from P_are_integers_from (spsFrom K) := by
  refine T.F_are_integers_from.ok sc_are_integers_from (fun vs H Q E h => ?_) (fun cdv A outer s H vs Q E hr h => ?_)
  · obtain ⟨v, lo, hi, o, rfl, _⟩ := h
    rfl
  · obtain ⟨v, lo, hi, o, rfl, hv, k⟩ := h
    refine ⟨_, 
      (pss_one (ps_ret (pe_and (pe_callB (id := "isinstance") (r := rIsi K) call_isi (by rfl) T.m_isinstance (by decide +kernel) (pa_cons (pv 0) (pa_cons (pe_bltn (by rfl) T.m_tuple (v := .ty "tuple") (by decide +kernel) rfl) pa_nil))) (pe_one (pe_callB (cr_all rfl) (by rfl) T.m_all (by decide +kernel) (pa_cons (pe_lc (own := [("item", 3)]) (g := gName 3) (tt := tYes) rfl sc_are_integers_from.nd (pi_tup (pv 0)) (blkOk_by (own := [("item", 3)]) (N := N_are_integers_from) (sc := defScope s_are_integers_from) (by decide +kernel)) (fun _ _ _ _ _ => (pg_name (i := 3) sc_are_integers_from.nd rfl (Or.inl rfl))) (fun _ _ _ _ _ => pts_nil) (fun _ _ _ _ _ => (pe_call (ok_is_integer_from T) (hr.mono (by decide)) rfl T.m_is_integer_from T.F_is_integer_from.kp T.b_is_integer_from .nil pass0 (pa_cons (pv 3) (pa_cons (pv 1) (pa_cons (pv 2) pa_nil)))))) pa_nil)))))), ?_⟩
    cases o with
    | none =>
      obtain ⟨t, ht, hk⟩ := hv
      refine ⟨_, rfl, _, _, _, _, _, rfl, .ty "tuple", ht, hk, false, rfl, ?_⟩
      exact iteF (k H (Same.refl _))
    | some os =>
      obtain ⟨xs, ⟨a, rfl, ha⟩, hp, hl⟩ := hv
      refine ⟨_, rfl, _, _, _, _, _, rfl, .ty "tuple", tyx_tup ha, kit_ty (r := true) (by decide +kernel), true, rfl, ?_⟩
      refine iteT ?_
      refine ⟨_, rfl, a, rfl, ⟨_, ha⟩, fun D hD => lc_it (walk_tup (K := K) (a := a) (xs := xs))
        (fun i H' => ∃ H0, Same H H0 ∧ H' = upd H0 D (.lst ((os.take i).map fun o => V.bl (inFrom lo hi o)))) ⟨H, Same.refl _, rfl⟩ ?_ ?_ ?_⟩
      · rintro i _ _ ⟨H0, e, rfl⟩
        exact (same_set hD e).tup ha
      · rintro i x _ _ hi ⟨H0, e, rfl⟩ ⟨rfl, hx⟩
        obtain ⟨y, hy, r⟩ := paired_at hp hx
        refine ⟨rfl, ?_⟩
        refine ⟨_, rfl, _, rfl, _, rfl, x, lo, _, y, rfl, r.same (same_set hD e), _, upd_same, by rw [List.length_map, List.length_take]; exact line_le (by omega), H0, e, ?_⟩
        rw [upd_upd, take_map_add _ hy]
      · rintro _ ⟨H0, e, rfl⟩
        have hle : os.length = xs.length := hp.length.symm
        refine ⟨D, os.map (inFrom lo hi), rfl, SqL.of (by rw [upd_same, ← hle, List.take_length, List.map_map]; rfl), ?_⟩
        have z := k _ (same_set (o := .lst ((os.take xs.length).map fun o => V.bl (inFrom lo hi o))) hD e)
        rw [List.all_map]
        exact z
def spLets (K : PySem.W.Frag) : Sp := fun vs H Q _ => ∃ (q : Int) (v : V) (o : Option (List (Option Int))), vs = [.int q, v] ∧ Lev K H v o ∧ ∀ H', Same H H' → Q (.bl (allFrom 0 (q - 1) o)) H'
theorem ok_are_letters (T : Txt K mg) : FnOk P w K mg base CX0 4 T.a_are_letters T.d_are_letters P_are_letters (spLets K) := by
  refine T.F_are_letters.ok sc_are_letters (fun vs H Q E h => ?_) (fun cdv A outer s H vs Q E hr h => ?_)
  · obtain ⟨q, v, o, rfl, _⟩ := h
    rfl
  · obtain ⟨q, v, o, rfl, hv, k⟩ := h
    refine ⟨_, 
      (pss_one (ps_ret (pe_call (ok_are_integers_from T) (hr.mono (by decide)) rfl T.m_are_integers_from T.F_are_integers_from.kp T.b_are_integers_from .nil pass0 (pa_cons (pv 1) (pa_cons pe_int (pa_cons (pe_op op_sub (pv 0) pe_int) pa_nil)))))), ?_⟩
    exact ⟨_, rfl, _, rfl, _, _, rfl, rfl, v, 0, _, o, rfl, hv, k⟩
def rowQ (q : Int) (n : Int) : Option (List (Option Int)) → Bool
  | none => false
  | some os => allFrom 0 (q - 1) (some os) && decide ((os.length : Int) = n)
def spIsRow (K : PySem.W.Frag) : Sp := fun vs H Q _ => ∃ (q n : Int) (v : V) (o : Option (List (Option Int))), vs = [.int q, .int n, v] ∧ Lev K H v o ∧ ∀ H', Same H H' → Q (.bl (rowQ q n o)) H'
theorem ok_is_row (T : Txt K mg) : FnOk P w K mg base CX0 5 T.a_is_row T.d_is_row P_is_row (spIsRow K) := by
  refine T.F_is_row.ok sc_is_row (fun vs H Q E h => ?_) (fun cdv A outer s H vs Q E hr h => ?_)
  · obtain ⟨q, n, v, o, rfl, _⟩ := h
    rfl
  · obtain ⟨q, n, v, o, rfl, hv, k⟩ := h
    refine ⟨_, 
      (pss_one (ps_ret (pe_and (pe_call (ok_are_letters T) (hr.mono (by decide)) rfl T.m_are_letters T.F_are_letters.kp T.b_are_letters .nil pass0 (pa_cons (pv 0) (pa_cons (pv 2) pa_nil))) (pe_one (pe_cmpR op_eq (pe_callB call_len_seq (by rfl) T.m_len (by decide +kernel) (pa_cons (pv 2) pa_nil)) (pv 1) (nomark _)))))), ?_⟩
    refine ⟨_, rfl, _, rfl, q, v, o, rfl, hv, fun H1 s1 => ⟨allFrom 0 (q - 1) o, rfl, ?_⟩⟩
    cases o with
    | none => exact iteF (k H1 s1)
    | some os =>
      obtain ⟨xs, ⟨a, rfl, ha⟩, hp, hl⟩ := hv
      have z := k H1 s1
      refine ite2 (fun e => ?_) (fun e => ?_)
      · refine ⟨_, rfl, a, _, rfl, .inr (s1.tup ha), _, rfl, rfl, ?_⟩
        rw [dec_int, hp.length]
        have e2 : rowQ q n (some os) = decide ((os.length : Int) = n) := by
          show (allFrom 0 (q - 1) (some os) && _) = _
          rw [e, Bool.true_and]
        rw [e2] at z
        exact z
      · have e1 : allFrom 0 (q - 1) (some os) = false := by simpa using e
        have e2 : rowQ q n (some os) = false := by
          show (allFrom 0 (q - 1) (some os) && _) = _
          rw [e1, Bool.false_and]
        rw [e2] at z
        exact z
def spChkF : Sp := fun vs H Q _ => ∃ q : Int, vs = [.int q] ∧ LetQ q ∧ Q .non H
def spChkX (K : PySem.W.Frag) (C : Addr) : Sp := fun vs H Q E => ∃ (v : V) (o : Option Int), vs = [v] ∧ IntQ K H v o ∧ (inFrom 2 5 o = false → Flies E C v H) ∧ (inFrom 2 5 o = true → Q .non H)
theorem ok_check_field (T : Txt K mg) : FnOk P w K mg base (L2.CX P w) 3 T.a_check_field T.d_check_field P_check_field (spChkX K T.C_BadField) := by
  refine T.F_check_field.okX sc_check_field (fun vs H Q E h => ?_) (fun cdv A outer s H vs Q E hr h => ?_)
  · obtain ⟨v, o, rfl, _⟩ := h
    rfl
  · obtain ⟨v, o, rfl, hv, bad, q⟩ := h
    refine ⟨_, 
      (pss_one (ps_if (pt_not (pt_val (pe_call (ok_is_integer_from T) (hr.mono (by decide)) rfl T.m_is_integer_from T.F_is_integer_from.kp T.b_is_integer_from .nil pass0 (pa_cons (pv 0) (pa_cons pe_int (pa_cons pe_int pa_nil)))))) (pss_one (ps_raiseErr rfl T.e_BadField hr (takes_of rfl rfl rfl rfl) (by exact (pa_cons (pv 0) pa_nil)) rfl)) pss_nil)), ?_⟩
    refine ⟨_, rfl, v, 2, 5, o, rfl, hv, _, rfl, ?_⟩
    rcases Bool.eq_false_or_eq_true (inFrom 2 5 o) with e | e
    · rw [e]
      exact iteF (q e)
    · rw [e]
      exact iteT ⟨_, rfl, v, rfl, fun d hd => bad e d hd⟩
theorem from_fld {q : Int} (h : LetQ q) : inFrom 2 5 (some q) = true := by
  show (decide ((2 : Int) ≤ q) && decide (q ≤ 5)) = true
  rw [decide_eq_true h.lo, decide_eq_true h.hi]
  rfl
theorem from25 {o : Option Int} (h : inFrom 2 5 o = true) : ∃ q, o = some q ∧ LetQ q := by
  cases o with
  | none => cases h
  | some q =>
    have h' : (decide ((2 : Int) ≤ q) && decide (q ≤ 5)) = true := h
    rw [Bool.and_eq_true, decide_eq_true_eq, decide_eq_true_eq] at h'
    exact ⟨q, rfl, h'.1, h'.2⟩
theorem ok0_check_field (T : Txt K mg) : FnOk P w K mg base L2.CX0 3 T.a_check_field T.d_check_field P_check_field spChkF :=
  (MB.FnOk.quiet (ok_check_field T)).imp fun vs H Q E ⟨q, e, hq, k⟩ => ⟨.int q, some q, e, rfl, (fun z => by rw [from_fld hq] at z; cases z), fun _ => k⟩
end
end K28
end
section
set_option maxRecDepth 100000
set_option maxHeartbeats 4000000
namespace K28
open PySem PySem.Spec PyProof.Rows L2 MB PM
open LamX hiding takes0
theorem rowQ_row {q n : Int} {r : List Int} (h : IsRow q r) (hl : (r.length : Int) = n) : rowQ q n (some (r.map some)) = true := by
  show ((r.map some).all (inFrom 0 (q - 1)) && decide (((r.map some).length : Int) = n)) = true
  rw [List.length_map, decide_eq_true hl, Bool.and_true, List.all_map, List.all_eq_true]
  intro c hc
  obtain ⟨h1, h2⟩ := h c hc
  show (decide (0 ≤ c) && decide (c ≤ q - 1)) = true
  rw [decide_eq_true h1, decide_eq_true (by omega)]
  rfl
theorem sqT_ins {K : PySem.W.Frag} {H : Hp} {b C dx : Addr} {fs : List (Str × V)} {o : HO} {a : Addr} {xs : List V} (hb : H b = some (.ins C dx fs)) (h : SqT K H a xs) : SqT K (upd H b o) a xs := by
  rcases h with (q | ⟨ob, q⟩) | q
  · exact .inl (.inl ((upd_ne (ne_of q hb (by intro z; cases z))).trans q))
  · exact .inl (.inr ⟨ob, (upd_ne (ne_of q hb (by intro z; cases z))).trans q⟩)
  · exact .inr q
theorem rows_ins {K : PySem.W.Frag} {H : Hp} {b C dx : Addr} {fs : List (Str × V)} {o : HO} {vs : List V} {Ls : List (List Int)} (hb : H b = some (.ins C dx fs)) (h : Paired (TI K H) vs Ls) : Paired (TI K (upd H b o)) vs Ls := by
  induction h with
  | nil => exact .nil
  | cons r _ ih =>
    obtain ⟨t, rfl, ht⟩ := r
    exact .cons ⟨t, rfl, sqT_ins hb ht⟩ ih
section
variable {w : World} {K : PySem.W.Frag} {mg : Str → Option Value} {base : Heap}
def BookAt (K : PySem.W.Frag) (C : Addr) (H : Hp) (b : Addr) (q n : Int) (Rs : List (List Int)) : Prop := ∃ (dx : Addr) (fs : List (Str × V)) (z : V), H b = some (.ins C dx fs) ∧
  fs.lookup ("q" : Str) = some (.int q) ∧ fs.lookup ("n" : Str) = some (.int n) ∧ fs.lookup ("rows" : Str) = some z ∧ fs.lookup ("dimension" : Str) = some (.int (Rs.length : Int)) ∧ TupRows K H z Rs
def spBook (K : PySem.W.Frag) (C : Addr) : Sp := fun vs H Q _ => ∃ (H0 : Hp) (b dx : Addr) (q : Int) (n : Nat) (v : V) (Ls : List (List Int)), vs = [.ref b, .int q, .int (n : Int), v] ∧ Same H0 H ∧ H0 b = none ∧ H b = some (.ins C dx []) ∧
  LetQ q ∧ (1 ≤ n ∧ n ≤ 8) ∧ TupRows K H0 v Ls ∧ AllR q n Ls ∧ Ls.length ≤ 16 ∧ ∀ H', Same H0 H' → BookAt K C H' b q n (gauss q n Ls) → Q .non H'
theorem ok_Book___init__ (T : Txt K mg) : FnOk P w K mg base CX0 6 T.a_Book___init__ T.d_Book___init__ P_Book___init__ (spBook K T.C_Book) := by
  refine T.F_Book___init__.ok sc_Book___init__ (fun vs H Q E h => ?_) (fun cdv A outer s H vs Q E hr h => ?_)
  · obtain ⟨H0, b, dx, q, n, v, Ls, rfl, _⟩ := h
    rfl
  · obtain ⟨H0, b, dx, q, n, _, Ls, rfl, s0, b0, hb, hq, ⟨n1, n8⟩, ⟨a, vs, rfl, ha, hp⟩, hall, hl, k⟩ := h
    refine ⟨_, 
      (pss_cons (ps_expr (pe_call (ok0_check_field T) (hr.mono (by decide)) rfl T.m_check_field T.F_check_field.kp T.b_check_field .nil pass0 (pa_cons (pv 1) pa_nil)))
      (pss_cons (ps_if (pt_not (pt_val (pe_call (ok_is_integer_from T) (hr.mono (by decide)) rfl T.m_is_integer_from T.F_is_integer_from.kp T.b_is_integer_from .nil pass0 (pa_cons (pv 2) (pa_cons pe_int (pa_cons (pe_glob (v := .int 8) rfl T.m_MOST_PLACES ⟨_, rfl⟩) pa_nil)))))) (pss_one ps_never) pss_nil)
      (pss_cons (ps_if (PW.pt (pw_or (pt_not (pt_val (pe_callB (id := "isinstance") (r := rIsi K) call_isi (by rfl) T.m_isinstance (by decide +kernel) (pa_cons (pv 3) (pa_cons (pe_bltn (by rfl) T.m_tuple (v := .ty "tuple") (by decide +kernel) rfl) pa_nil))))) (pw_or1 (pt_cmpR op_gt (pe_callB call_len_seq (by rfl) T.m_len (by decide +kernel) (pa_cons (pv 3) pa_nil)) (pe_glob (v := .int 16) rfl T.m_MOST_ROWS ⟨_, rfl⟩) (nomark _))))) (pss_one ps_never) pss_nil)
      (pss_cons (ps_for PassesOwn.never rfl (pi_enumT (by rfl) T.m_enumerate (pa_cons (pv 3) pa_nil)) (pg_tup rfl (pgs_cons (pg_name (i := 4) sc_Book___init__.nd rfl (Or.inl rfl)) (pgs_cons (pg_name (i := 5) sc_Book___init__.nd rfl (Or.inl rfl)) pgs_nil))) (pss_one (ps_if (pt_not (pt_val (pe_call (ok_is_row T) (hr.mono (by decide)) rfl T.m_is_row T.F_is_row.kp T.b_is_row .nil pass0 (pa_cons (pv 1) (pa_cons (pv 2) (pa_cons (pv 5) pa_nil)))))) (pss_one ps_never) pss_nil)))
      (pss_cons (ps_fld (pv 0) (pv 1) rfl)
      (pss_cons (ps_fld (pv 0) (pv 2) rfl)
      (pss_cons (ps_fld (pv 0) (pe_call (ok_reduced_rows T) (hr.mono (by decide)) rfl T.m_reduced_rows T.F_reduced_rows.kp T.b_reduced_rows .nil pass0 (pa_cons (pv 1) (pa_cons (pv 2) (pa_cons (pv 3) pa_nil)))) rfl)
      (pss_one (ps_fld (pv 0) (pe_callB call_len_seq (by rfl) T.m_len (by decide +kernel) (pa_cons (pe_fld (pv 0) rfl) pa_nil)) rfl))))))))), ?_⟩
    have haH := sqT_same s0 ha
    have hpH := rows_same s0 hp
    have lv : vs.length ≤ 16 := by rw [hp.length]; exact hl
    refine ⟨_, rfl, q, rfl, hq, ?_⟩
    have e1 : inFrom 1 8 (some (n : Int)) = true := by
      show (decide ((1 : Int) ≤ (n : Int)) && decide ((n : Int) ≤ 8)) = true
      rw [decide_eq_true (by omega), decide_eq_true (by omega)]
      rfl
    refine ⟨_, rfl, _, 1, 8, some (n : Int), rfl, rfl, _, rfl, ?_⟩
    rw [e1]
    refine iteF ?_
    refine ⟨_, rfl, _, _, _, _, _, rfl, .ty "tuple", tyx_tup haH, kit_ty (r := true) (by decide +kernel), true, rfl, iteF ?_⟩
    refine ⟨_, rfl, a, _, rfl, .inr haH, _, _, rfl, rfl, _, rfl, ?_⟩
    rw [decide_eq_false (by omega)]
    refine iteF ?_
    refine ⟨_, rfl, a, _, rfl, haH, for_it (walk_enumT (K := K) (a := a) (xs := vs))
      (fun i σ H' => ∃ u4 u5, σ = [some (.ref b), some (.int q), some (.int (n : Int)), some (.ref a), u4, u5] ∧ Same H H') ⟨none, none, rfl, Same.refl _⟩ (fun i σ H' _ ⟨_, _, _, e⟩ => e.tup haH) ?_ ?_⟩
    · rintro i v _ H' H'' hi ⟨u4, u5, rfl, e⟩ ⟨T0, x, y, rfl, hT0, rfl, hx, hy⟩
      obtain rfl : x = V.int (i : Nat) := (Option.some.inj hx).symm
      obtain ⟨r, hr2, ti⟩ := paired_at hpH hy
      obtain ⟨ir, lr⟩ := hall r (List.mem_of_getElem? hr2)
      have e1' : Same H (upd H' T0 (.tup [.int (i : Nat), y])) := e.trans (same_upd hT0)
      refine ⟨T0, _, rfl, SqT.of upd_same, rfl, _, _, rfl, _, _, rfl, rfl, ?_⟩
      refine ⟨_, rfl, _, rfl, _, rfl, q, (n : Int), y, some (r.map some), rfl, ti_lev (TI.same ti e1') (by omega), fun H3 s3 => ⟨rowQ q n (some (r.map some)), rfl, ?_⟩⟩
      rw [rowQ_row ir (by rw [lr])]
      exact iteF ⟨_, _, rfl, e1'.trans s3⟩
    · rintro _ H' ⟨u4, u5, rfl, e⟩
      have bne : ∀ {o : HO} {p : Addr}, H0 p = some o → p ≠ b := fun {o p} z w => by
        rw [w, b0] at z
        cases z
      have put : ∀ {G : Hp} {o : HO}, Same H0 G → Same H0 (upd G b o) := fun {G o} z c u w => by
        rw [upd_ne (bne w)]
        exact z c u w
      have sb := s0.trans e
      refine ⟨_, rfl, _, rfl, b, T.C_Book, dx, _, rfl, e _ _ hb, T.cl_Book, T.no_Book_q, (by decide : 0 < 1000), ?_⟩
      refine ⟨_, rfl, _, rfl, b, T.C_Book, dx, _, rfl, upd_same, T.cl_Book, T.no_Book_n, (by decide : 1 < 1000), ?_⟩
      have s2 := put (o := .ins T.C_Book dx (putF "n" (.int (n : Int)) (putF "q" (.int q) []))) (put (o := .ins T.C_Book dx (putF "q" (.int q) [])) sb)
      refine ⟨_, rfl, _, rfl, _, rfl, q, n, _, Ls, rfl, hq, n8, ⟨a, vs, rfl, sqT_same s2 ha, rows_same s2 hp⟩, hall, by omega, fun z H3 s3 hz => ?_⟩
      refine ⟨_, rfl, b, T.C_Book, dx, _, rfl, s3 _ _ upd_same, T.cl_Book, T.no_Book_rows, (by decide : 2 < 1000), ?_⟩
      obtain ⟨az, vz, rfl, haz, hpz⟩ := hz
      have hb3 := s3 _ _ (upd_same (a := b))
      have haz4 := sqT_ins (o := .ins T.C_Book dx (putF "rows" (.ref az) (putF "n" (.int (n : Int)) (putF "q" (.int q) [])))) hb3 haz
      refine ⟨_, rfl, b, T.C_Book, dx, _, .ref az, rfl, upd_same, T.cl_Book, T.no_Book_rows, rfl, az, vz, rfl, .inr haz4, _, rfl, b, T.C_Book, dx, _, rfl, upd_same, T.cl_Book, T.no_Book_dimension, (by decide : 3 < 1000), ?_⟩
      rw [upd_upd]
      refine k _ (put (s2.trans s3)) ⟨dx, _, .ref az, upd_same, rfl, rfl, rfl, ?_, az, vz, rfl, sqT_ins hb3 haz, rows_ins hb3 hpz⟩
      rw [← hpz.length]
      rfl
end
end K28
end
section
set_option maxRecDepth 100000
set_option maxHeartbeats 4000000
namespace K28
open PySem PySem.Spec PyProof.Rows L2 MB PM
open LamX hiding takes0
def rowsD (Rs : List (List Int)) : PyData := .tuple (Rs.map fun r => .tuple (r.map PyData.int))
theorem dp_rows {K : PySem.W.Frag} {H : Hp} {vs : List V} {Rs : List (List Int)} (h : Paired (TI K H) vs Rs) : DpAll K H vs (Rs.map fun r => PyData.tuple (r.map PyData.int)) := by
  induction h with
  | nil => exact .nil
  | cons r _ ih =>
    obtain ⟨a, rfl, ha⟩ := r
    exact .cons (.tup ha (dp_ints _)) ih
theorem rows_lay : ∀ Rs : List (List Int), PyData.canLayAll0 (Rs.map fun r => PyData.tuple (r.map PyData.int)) = true
  | [] => by simp only [List.map_nil, PyData.canLayAll0]
  | r :: Rs => by simp only [List.map_cons, PyData.canLayAll0, PyData.canLay0, ints_lay, rows_lay Rs, Bool.and_self]
theorem rows_depth : ∀ Rs : List (List Int), PyData.depthAll (Rs.map fun r => PyData.tuple (r.map PyData.int)) ≤ 1
  | [] => by simp only [List.map_nil, PyData.depthAll]; decide
  | r :: Rs => by
    simp only [List.map_cons, PyData.depthAll, PyData.depth, ints_depth]
    exact Nat.max_le.mpr ⟨Nat.le_refl _, rows_depth Rs⟩
theorem rows_can (Rs : List (List Int)) : (rowsD Rs).canLay0 = true := by
  unfold rowsD
  simp only [PyData.canLay0]
  exact rows_lay Rs
theorem rows_shaped (Rs : List (List Int)) : SeqAt.shaped (rowsD Rs) = true := by
  unfold SeqAt.shaped
  rw [rows_can, Bool.true_and]
  have h := rows_depth Rs
  refine decide_eq_true ?_
  unfold rowsD
  simp only [PyData.depth]
  omega
theorem rows_refl (Rs : List (List Int)) : PyData.eqv (rowsD Rs) (rowsD Rs) = true := by
  first | exact P3.eqv_refl _ (rows_can Rs) | exact PyData.eqv_refl _ (rows_can Rs) | exact PySem.eqv_refl _ (rows_can Rs) | exact SeqAt.eqv_refl _ (rows_can Rs)
section
variable {w : World} {K : PySem.W.Frag} {mg : Str → Option Value} {base : Heap}
def Alike (K : PySem.W.Frag) (C : Addr) (a b : Addr) (H : Hp) : Prop := ∃ (q n : Int) (Rs : List (List Int)), BookAt K C H a q n Rs ∧ BookAt K C H b q n Rs ∧ Rs.length ≤ 20
theorem kit_self {K : PySem.W.Frag} {C : Addr} : PySem.W.kitOne K (.ref C) (.ref C) = some true := by
  show (if (Value.ref C == Value.ref C) = true then some true else _) = some true
  rw [beq_self_eq_true]
  rfl
theorem ty_book (T : Txt K mg) {H : Hp} {b dx : Addr} {fs : List (Str × V)} (h : H b = some (.ins T.C_Book dx fs)) : TyX K H (.ref b) (.ref T.C_Book) :=
  .base (.ins h T.cl_Book T.is_Book.ha T.is_Book.hn T.is_Book.ht T.is_Book.hm)
theorem ok_Book___eq__ (T : Txt K mg) : FnOk P w K mg base CX0 1 T.a_Book___eq__ T.d_Book___eq__ P_Book___eq__ (spEq (Alike K T.C_Book)) := by
  refine T.F_Book___eq__.ok sc_Book___eq__ (fun vs H Q E h => ?_) (fun cdv A outer s H vs Q E hr h => ?_)
  · obtain ⟨a, b, rfl, _⟩ := h
    rfl
  · obtain ⟨a, b, rfl, ⟨q, n, Rs, ⟨dx, fs, z, ha, aq, an, ar, ad, hz⟩, ⟨dy, gs, y, hb, bq, bn, br, bd, hy⟩, hl⟩, k⟩ := h
    refine ⟨_, 
      (pss_one (ps_ret (pe_and (pe_callB (id := "isinstance") (r := rIsi K) call_isi (by rfl) T.m_isinstance (by decide +kernel) (pa_cons (pv 1) (pa_cons (pe_glob (v := .ref T.C_Book) rfl T.g_Book rfl) pa_nil))) (pe_and (pe_cmpR op_eq (pe_fld (pv 0) rfl) (pe_fld (pv 1) rfl) (nomark _)) (pe_and (pe_cmpR op_eq (pe_fld (pv 0) rfl) (pe_fld (pv 1) rfl) (nomark _)) (pe_one (pe_cmpR (op_eqD hr.units) (pe_fld (pv 0) rfl) (pe_fld (pv 1) rfl) (nomark _)))))))), ?_⟩
    refine ⟨_, rfl, _, _, _, _, _, rfl, .own T.C_Book, ty_book T hb, kit_self, true, rfl, iteT ?_⟩
    refine ⟨_, rfl, a, _, dx, fs, _, rfl, ha, T.cl_Book, T.no_Book_q, aq, _, rfl, b, _, dy, gs, _, rfl, hb, T.cl_Book, T.no_Book_q, bq, rfl, ?_⟩
    refine ⟨true, by rw [decide_eq_true rfl], iteT ?_⟩
    refine ⟨_, rfl, a, _, dx, fs, _, rfl, ha, T.cl_Book, T.no_Book_n, an, _, rfl, b, _, dy, gs, _, rfl, hb, T.cl_Book, T.no_Book_n, bn, rfl, ?_⟩
    refine ⟨true, by rw [decide_eq_true rfl], iteT ?_⟩
    refine ⟨_, rfl, a, _, dx, fs, z, rfl, ha, T.cl_Book, T.no_Book_rows, ar, _, rfl, b, _, dy, gs, y, rfl, hb, T.cl_Book, T.no_Book_rows, br, ?_⟩
    obtain ⟨c, vc, rfl, hc, pc⟩ := hz
    obtain ⟨e, ve, rfl, he, pe⟩ := hy
    refine ⟨rowsD Rs, rowsD Rs, .tup hc (dp_rows pc), .tup he (dp_rows pe), rows_shaped Rs, rows_shaped Rs, ?_⟩
    rw [rows_refl]
    exact k H Ext.rfl'
end
end K28
end
section
set_option maxRecDepth 100000
set_option maxHeartbeats 4000000
set_option exponentiation.threshold 70000
namespace K28
open PySem PySem.Spec PyProof.Rows L2 MB PM
open LamX hiding takes0
theorem cut_last (ns : List Int) : cutV (ns.map V.int) none (some (-1)) = (ns.dropLast).map V.int := by
  unfold cutV
  rw [HT.sIx_none, List.drop_zero, Nat.sub_zero]
  have e : HT.sIx (ns.map V.int).length (ns.map V.int).length (some (-1)) = ns.length - 1 := by
    rw [List.length_map]
    show (if (-1 : Int) < 0 then ((-1 : Int) + (ns.length : Int)).toNat else min (-1 : Int).toNat ns.length) = _
    rw [if_pos (by decide)]
    omega
  rw [e, List.dropLast_eq_take, List.map_take]
section
variable {w : World} {K : PySem.W.Frag} {mg : Str → Option Value} {base : Heap}
def spDivided (K : PySem.W.Frag) : Sp := fun vs H Q _ => ∃ (v : V) (r : Int) (ns : List Int) (b c : Nat), vs = [v, .int r] ∧ TI K H v ns ∧ ns.length ≤ 450 ∧ ns ≠ [] ∧ (∀ j, (ev r (ns.drop j)).natAbs < 2 ^ b) ∧ r.natAbs < 2 ^ c ∧ 0 < b ∧ 0 < c ∧ b + c ≤ 1000000 ∧
  ∀ p u H', Same H H' → SqT K H' p [u, .int (ev r ns)] → TI K H' u (quo r ns) → Q (.ref p) H'
theorem ok_divided (T : Txt K mg) : FnOk P w K mg base CX0 1 T.a_divided T.d_divided P_divided (spDivided K) := by
  refine T.F_divided.ok sc_divided (fun vs H Q E h => ?_) (fun cdv A outer s H vs Q E hr h => ?_)
  · obtain ⟨v, r, ns, b, c, rfl, _⟩ := h
    rfl
  · obtain ⟨_, r, ns, b, c, rfl, ⟨a, rfl, ha⟩, hl, hne, hv, hrb, b0, c0, bc, q⟩ := h
    refine ⟨_, 
      (pss_cons (ps_set (i := 2) sc_divided.nd rfl (Or.inl rfl) (pe_lst pa_nil))
      (pss_cons (ps_set (i := 3) sc_divided.nd rfl (Or.inl rfl) pe_int)
      (pss_cons (ps_for PassesOwn.never rfl (RT.pi_revA (by rfl) T.m_reversed (pv 0)) (pg_name (i := 4) sc_divided.nd rfl (Or.inl rfl)) (pss_cons (ps_set (i := 3) sc_divided.nd rfl (Or.inl rfl) (pe_op op_add (pe_op op_mulW (pv 3) (pv 1)) (pv 4)))
      (pss_one (ps_expr (pe_bm PySem.F.plainAttrs_list PySem.F.slot_list_append PySem.F.type_list_append mt_append (pv 2) (pa_cons (pv 3) pa_nil))))))
      (pss_one (ps_ret (pe_tup (pa_cons (RT.pe_tupRev rfl (by rfl) T.m_tuple (by rfl) T.m_reversed (pe_slice sl_list (pv 2) po_none (po_some (pe_un un_neg pe_int)))) (pa_cons (pv 3) pa_nil)))))))), ?_⟩
    refine ⟨line_s (Nat.zero_le _), fun D hD => ?_⟩
    have s1 := same_upd (o := .lst []) hD
    refine ⟨_, rfl, a, _, rfl, .inr ⟨s1.tup ha, for_it (walk_revT (K := K) (a := a) (xs := ns.map V.int))
      (fun i σ H' => ∃ u : Option V, σ = [some (.ref a), some (.int r), some (.ref D), some (.int (ev r (ns.drop (ns.length - i)))), u] ∧ Same H H' ∧ H' D = some (.lst ((sums r ns i).map V.int)))
      ⟨none, by rw [Nat.sub_zero, List.drop_length]; rfl, s1, upd_same⟩ (fun i σ H' _ ⟨_, _, e, _⟩ => e.tup ha) ?_ ?_⟩⟩
    · rintro i v _ H' _ hi ⟨u, rfl, e, hN⟩ ⟨rfl, hv'⟩
      rw [List.length_map] at hv' hi
      obtain ⟨d, hd, rfl⟩ := int_at hv'
      have z : ev r (ns.drop (ns.length - i)) * r + d = ev r (ns.drop (ns.length - 1 - i)) := by
        have z := ev_drop r hd
        rw [show ns.length - 1 - i + 1 = ns.length - i by omega] at z
        rw [z, Int.mul_comm, Int.add_comm]
      refine ⟨_, rfl, _, rfl, _, _, rfl, rfl, wide_mul (hv _) hrb b0 c0 bc, _, rfl, _, _, rfl, rfl, ?_⟩
      refine ⟨_, rfl, .inl ⟨rfl, _, SqL.of hN⟩, _, rfl, D, _, _, rfl, rfl, hN, ?_, ?_⟩
      · rw [List.length_map, sums_len]
        exact line_le (by omega)
      · refine ⟨some (.int d), ?_, same_set hD e, ?_⟩
        · rw [show ns.length - (i + 1) = ns.length - 1 - i by omega, ← z]
          rfl
        · rw [upd_same, sums_succ, List.map_append, ← z]
          rfl
    · rintro _ H' ⟨u, rfl, e, hN⟩
      rw [List.length_map, Nat.sub_self, List.drop_zero]
      rw [List.length_map] at hN
      refine ⟨_, rfl, 1, rfl, _, rfl, D, _, rfl, SqL.of hN, fun p hp => ?_⟩
      rw [cut_last]
      have s2 := same_upd (o := .lst (((sums r ns ns.length).dropLast).map V.int)) hp
      refine ⟨p, _, rfl, SqL.of upd_same, fun p2 hp2 => ?_⟩
      have s3 := same_upd (o := .tup (((sums r ns ns.length).dropLast).map V.int).reverse) hp2
      refine ⟨_, rfl, line_s (Nat.le_of_ble_eq_true rfl), fun p3 hp3 => ?_⟩
      have s4 := same_upd (o := .tup [.ref p2, .int (ev r ns)]) hp3
      refine q p3 (.ref p2) _ (e.trans (s2.trans (s3.trans s4))) (SqT.of upd_same) ⟨p2, rfl, ?_⟩
      have z : (((sums r ns ns.length).dropLast).map V.int).reverse = (quo r ns).map V.int := by
        unfold quo
        rw [List.map_reverse]
      rw [← z]
      exact s4.tup (SqT.of upd_same)
def rSub (K : PySem.W.Frag) (q : Int) : List Int → Hp → VK → Prop := fun ns H Q => ns.length ≤ 80 ∧ nrm ns ≤ 2 ^ 2000 ∧ ∀ z H', Same H H' → TI K H' z (sfound q ns ns.length) → Q z H'
def spSub (K : PySem.W.Frag) (CF CP : Addr) : Sp := fun vs H Q E => ∃ (vq v : V) (oq : Option Int) (o : Option (List (Option Int))), vs = [vq, v] ∧ IntQ K H vq oq ∧ Lev K H v o ∧
  (inFrom 2 5 oq = false → Flies E CF vq H) ∧ (inFrom 2 5 oq = true → polyQ o = false → ∀ H', Same H H' → Flies E CP v H') ∧
  ∀ (q : Int) (ns : List Int), oq = some q → LetQ q → o = some (ns.map some) → isPoly ns = true → rSub K q ns H Q
theorem ok_subcounts (T : Txt K mg) : FnOk P w K mg base (L2.CX P w) 5 T.a_subcounts T.d_subcounts P_subcounts (spSub K T.C_BadField T.C_BadPolynomial) := by
  refine T.F_subcounts.okX sc_subcounts (fun vs H Q E h => ?_) (fun cdv A outer s H vs Q E hr h => ?_)
  · obtain ⟨vq, v, oq, o, rfl, _⟩ := h
    rfl
  · obtain ⟨vq, v, oq, o, rfl, hvq, hv, badq, bad, good⟩ := h
    refine ⟨_, 
      (pss_cons (ps_expr (pe_callS (ok_check_field T) (hr.mono (by decide)) rfl T.m_check_field T.F_check_field.kp T.b_check_field (fun σ => passAt (takes_of rfl rfl rfl rfl) σ) (pa_cons (pv 0) pa_nil)))
      (pss_cons (ps_expr (pe_callS (ok_check_polynomial T) (hr.mono (by decide)) rfl T.m_check_polynomial T.F_check_polynomial.kp T.b_check_polynomial (fun σ => passAt (takes_of rfl rfl rfl rfl) σ) (pa_cons (pv 1) pa_nil)))
      (pss_cons (ps_set (i := 2) sc_subcounts.nd rfl (Or.inl rfl) (pe_lst pa_nil))
      (pss_cons (ps_set (i := 3) sc_subcounts.nd rfl (Or.inl rfl) (pv 1))
      (pss_cons (ps_set (i := 4) sc_subcounts.nd rfl (Or.inl rfl) pe_int)
      (pss_cons (ps_while (passes_of rfl) (pt_cmpR (op_neD hr.units) (pv 3) (pe_tup pa_nil) (nomark _)) (pss_cons (ps_asg (pe_call (ok_divided T) (hr.mono (by decide)) rfl T.m_divided T.F_divided.kp T.b_divided .nil pass0 (pa_cons (pv 3) (pa_cons (pv 4) pa_nil))) (pg_tup rfl (pgs_cons (pg_name (i := 3) sc_subcounts.nd rfl (Or.inl rfl)) (pgs_cons (pg_name (i := 5) sc_subcounts.nd rfl (Or.inl rfl)) pgs_nil))))
      (pss_cons (ps_expr (pe_bm PySem.F.plainAttrs_list PySem.F.slot_list_append PySem.F.type_list_append mt_append (pv 2) (pa_cons (pv 5) pa_nil)))
      (pss_one (ps_set (i := 4) sc_subcounts.nd rfl (Or.inl rfl) (pe_op op_mulW (pv 4) (pv 0)))))))
      (pss_one (ps_ret (pe_callTy call_tuple_of (by rfl) T.m_tuple (by decide +kernel) (pa_cons (pv 2) pa_nil)))))))))), ?_⟩
    refine ⟨_, rfl, vq, oq, rfl, hvq, badq, fun eq => ?_⟩
    refine ⟨_, rfl, v, o, rfl, hv, bad eq, fun e1 H1 s1 => ?_⟩
    obtain ⟨q, rfl, hq⟩ := from25 eq
    obtain rfl : vq = .int q := hvq
    obtain ⟨ns, rfl, pa⟩ := poly_of e1
    obtain ⟨la, na, k⟩ := good q ns rfl hq rfl pa
    obtain ⟨⟨a, rfl, ha⟩, _⟩ := lev_ti hv
    clear good bad badq e1 hv eq
    refine ⟨line_s (Nat.zero_le _), fun D hD => ?_⟩
    have s2 := same_upd (o := .lst []) hD
    refine ⟨_, rfl, ?_⟩
    refine ⟨fun m σ H' => ∃ (t : Nat) (L : Addr) (u : Option V), m + t = ns.length ∧ σ = [some (.int q), some (.ref a), some (.ref D), some (.ref L), some (.int (q ^ t)), u] ∧ Same H1 H' ∧ H' D = some (.lst ((sfound q ns t).map V.int)) ∧ SqT K H' L ((sleft q ns t).map V.int),
      ⟨ns.length, 0, a, none, rfl, by rw [Int.pow_zero]; rfl, s2, upd_same, s2.tup (s1.tup ha)⟩, ?_⟩
    rintro m _ H2 ⟨t, L, u, hmt, rfl, e2, hN, hL⟩
    refine ⟨_, rfl, line_s (Nat.zero_le _), fun p hp => ?_⟩
    have s3 := same_upd (o := .tup []) hp
    have hN3 := s3 _ _ hN
    have hL3 := s3.tup hL
    refine tne_nil_rd hL3 (SqT.of upd_same) ⟨_, rfl, ?_⟩
    generalize upd H2 p (.tup []) = H3 at s3 hN3 hL3
    have e3 := e2.trans s3
    have ll := sleft_len q ns t
    cases hm : (sleft q ns t).isEmpty with
    | true =>
      refine iteF ?_
      have h0 : (sleft q ns t) = [] := List.isEmpty_iff.mp hm
      rw [h0] at ll
      have ht : t = ns.length := by
        have : ns.length - t = 0 := ll.symm
        omega
      rw [ht] at hN3
      refine ⟨_, rfl, D, _, rfl, .inl ⟨SqL.of hN3, fun p4 hp4 => ?_⟩⟩
      exact k _ _ (s1.trans (e3.trans (same_upd hp4))) ⟨p4, rfl, SqT.of upd_same⟩
    | false =>
      have hne : (sleft q ns t) ≠ [] := by
        rw [List.isEmpty_eq_false_iff] at hm
        exact hm
      have hpos : 0 < (sleft q ns t).length := List.length_pos_iff.mpr hne
      rw [ll] at hpos
      refine iteT ?_
      have q0 := hq.lo
      have q5 := hq.hi
      have nl := sleft_nrm (q := q) (by omega) q5 la na t (by omega)
      have bt : 2000 + 5000 * t ≤ 402000 := by omega
      refine ⟨fun σ' H' => ∃ (L' : Addr) (u' : Option V), σ' = [some (.int q), some (.ref a), some (.ref D), some (.ref L'), some (.int (q ^ (t + 1))), u'] ∧ Same H1 H' ∧ H' D = some (.lst ((sfound q ns (t + 1)).map V.int)) ∧ SqT K H' L' ((sleft q ns (t + 1)).map V.int),
        fun σ' H' ⟨L', u', h1, h2, h3, h4⟩ => ⟨m - 1, by omega, t + 1, L', u', by omega, h1, h2, h3, h4⟩, ?_⟩
      have rb : (q ^ t).natAbs < 2 ^ (3 * t + 1) := Nat.lt_of_le_of_lt (pow_q (by omega) q5 t) (Nat.pow_lt_pow_right (by decide) (by omega))
      refine ⟨_, rfl, _, rfl, _, q ^ t, sleft q ns t, 2000 + 5000 * t + 4801, 3 * t + 1, rfl, ⟨L, rfl, hL3⟩, by rw [ll]; omega, hne, fun j => ?_, rb, by omega, by omega, by omega, fun p4 u4 H4 s4 hp4 hu4 => ?_⟩
      · exact Nat.lt_of_le_of_lt (step_ev (q := q) (t := t) (by omega) q5 (by rw [ll]; omega) nl j) (Nat.pow_lt_pow_right (by decide) (by omega))
      obtain ⟨L', rfl, hL'⟩ := hu4
      refine ⟨p4, _, rfl, hp4, rfl, _, _, rfl, _, _, rfl, rfl, ?_⟩
      refine ⟨_, rfl, .inl ⟨rfl, _, SqL.of (s4 _ _ hN3)⟩, _, rfl, D, _, _, rfl, rfl, s4 _ _ hN3, ?_, ?_⟩
      · rw [List.length_map, sfound_len]
        exact line_le (by omega)
      have e4 := e3.trans s4
      refine ⟨_, rfl, _, rfl, _, _, rfl, rfl, wide_mul rb (b := 3) (by omega) (by omega) (by decide) (by omega), ?_⟩
      refine ⟨L', some (.int (ev (q ^ t) (sleft q ns t))), ?_, same_set hD e4, ?_, ?_⟩
      · rw [Int.pow_succ]
        rfl
      · rw [upd_same, sfound_succ, List.map_append]
        rfl
      · have z := s4 _ _ hN3
        rcases hL' with (h | ⟨o, h⟩) | h
        · exact .inl (.inl ((upd_ne (ne_of h z (by intro w; cases w))).trans h))
        · exact .inl (.inr ⟨o, (upd_ne (ne_of h z (by intro w; cases w))).trans h⟩)
        · exact .inr h
def spSub0 (K : PySem.W.Frag) : Sp := fun vs H Q _ => ∃ (v : V) (q : Int) (ns : List Int), vs = [.int q, v] ∧ LetQ q ∧ TI K H v ns ∧ isPoly ns = true ∧ rSub K q ns H Q
theorem ok0_subcounts (T : Txt K mg) : FnOk P w K mg base L2.CX0 5 T.a_subcounts T.d_subcounts P_subcounts (spSub0 K) :=
  (MB.FnOk.quiet (ok_subcounts T)).imp fun vs H Q E ⟨v, q, ns, e, hq, hv, hp, r⟩ => ⟨.int q, v, some q, some (ns.map some), e, rfl, ti_lev hv (Nat.le_trans r.1 (by decide)), (fun z => by rw [from_fld hq] at z; cases z),
    (fun _ z => by rw [polyQ_ints, hp] at z; cases z), fun q' ns' e1 _ e2 _ => by
      obtain rfl := Option.some.inj e1
      obtain rfl := some_inj (Option.some.inj e2)
      exact r⟩
end
end K28
end
section
set_option maxRecDepth 100000
set_option maxHeartbeats 4000000
set_option exponentiation.threshold 70000
namespace K28
open PySem PySem.Spec PyProof.Rows L2 MB PM
open LamX hiding takes0
section
variable {w : World} {K : PySem.W.Frag} {mg : Str → Option Value} {base : Heap}
def spAt (K : PySem.W.Frag) : Sp := fun vs H Q _ => ∃ (v : V) (x : Int) (ns : List Int) (b c : Nat), vs = [v, .int x] ∧ TI K H v ns ∧ ns.length ≤ 450 ∧ (∀ j, (ev x (ns.drop j)).natAbs < 2 ^ b) ∧ x.natAbs < 2 ^ c ∧ 0 < b ∧ 0 < c ∧ b + c ≤ 1000000 ∧
  ∀ H', Same H H' → Q (.int (ev x ns)) H'
theorem ok__law_at (T : Txt K mg) : FnOk P w K mg base CX0 1 T.a__law_at T.d__law_at P__law_at (spAt K) := by
  refine T.F__law_at.ok sc__law_at (fun vs H Q E h => ?_) (fun cdv A outer s H vs Q E hr h => ?_)
  · obtain ⟨v, r, ns, b, c, rfl, _⟩ := h
    rfl
  · obtain ⟨_, r, ns, b, c, rfl, ⟨a, rfl, ha⟩, hl, hv, hrb, b0, c0, bc, q⟩ := h
    refine ⟨_, 
      (pss_cons (ps_set (i := 2) sc__law_at.nd rfl (Or.inl rfl) pe_int)
      (pss_cons (ps_for PassesOwn.never rfl (pi_tup (pe_revT (pv 0))) (pg_name (i := 3) sc__law_at.nd rfl (Or.inl rfl)) (pss_one (ps_set (i := 2) sc__law_at.nd rfl (Or.inl rfl) (pe_op op_add (pe_op op_mulW (pv 2) (pv 1)) (pv 3)))))
      (pss_one (ps_ret (pv 2))))), ?_⟩
    refine ⟨_, rfl, a, _, rfl, ha, fun p hp => ?_⟩
    have s1 := same_upd (o := .tup (ns.map V.int).reverse) hp
    have hp1 : (upd H p (.tup (ns.map V.int).reverse)) p = some (.tup (ns.map V.int).reverse) := upd_same
    generalize upd H p (.tup (ns.map V.int).reverse) = H1 at s1 hp1
    rw [← List.map_reverse] at hp1
    refine ⟨p, rfl, ⟨_, SqT.of hp1⟩, for_it (walk_tup (K := K) (a := p) (xs := ns.reverse.map V.int))
      (fun i σ H' => ∃ u : Option V, σ = [some (.ref a), some (.int r), some (.int (ev r (ns.drop (ns.length - i)))), u] ∧ Same H1 H')
      ⟨none, by rw [Nat.sub_zero, List.drop_length]; rfl, Same.refl _⟩ (fun i σ H' _ ⟨_, _, e⟩ => e.tup (SqT.of hp1)) ?_ ?_⟩
    · rintro i v _ H' _ hi ⟨u, rfl, e⟩ ⟨rfl, hv'⟩
      obtain ⟨d, hd, rfl⟩ := int_at hv'
      rw [List.length_map, List.length_reverse] at hi
      rw [List.getElem?_reverse hi] at hd
      have z : ev r (ns.drop (ns.length - i)) * r + d = ev r (ns.drop (ns.length - 1 - i)) := by
        have z := ev_drop r hd
        rw [show ns.length - 1 - i + 1 = ns.length - i by omega] at z
        rw [z, Int.mul_comm, Int.add_comm]
      refine ⟨_, rfl, _, rfl, _, _, rfl, rfl, wide_mul (hv _) hrb b0 c0 bc, _, rfl, _, _, rfl, rfl, some (.int d), ?_, e⟩
      rw [show ns.length - (i + 1) = ns.length - 1 - i by omega, ← z]
      rfl
    · rintro _ H' ⟨u, rfl, e⟩
      rw [List.length_map, List.length_reverse, Nat.sub_self, List.drop_zero]
      exact ⟨_, rfl, q H' (s1.trans e)⟩
end
end K28
end
section
set_option maxRecDepth 100000
set_option maxHeartbeats 4000000
namespace MB
open PySem PySem.Spec PyProof.Rows L2
def ItM (K : PySem.W.Frag) (a b : Addr) : It where
  go := fun i H => ∃ (xs ys : List V) (x y : V), SqT K H a xs ∧ SqL K H b ys ∧ xs[i]? = some x ∧ ys[i]? = some y
  yld := fun i H v H' => ∃ T x y, v = .ref T ∧ H T = none ∧ H' = upd H T (.tup [x, y]) ∧ (∀ xs, SqT K H a xs → xs[i]? = some x) ∧ ∀ ys, SqL K H b ys → ys[i]? = some y
  stop := fun i H => ∃ xs ys : List V, SqT K H a xs ∧ SqL K H b ys ∧ i = xs.length ∧ i ≤ ys.length
def five (N : Nat) : List Addr := [N + 4, N + 2, N + 3, N, N + 1]
structure AtM (N a b : Addr) (i : Nat) (h : Heap) : Prop where
  z : IsZip h (N + 4) (N + 2) (N + 3) .none
  ti : IsTupOf2 h (N + 2) (.ref N) (.ref (N + 1))
  to : ∃ x y, IsTupOf2 h (N + 3) x y
  s1 : h.IsTupleIter N a i
  s2 : h.IsListIter (N + 1) b i
theorem mem_five {N : Nat} {c : Addr} (h : c ∈ five N) : c = N + 4 ∨ c = N + 2 ∨ c = N + 3 ∨ c = N ∨ c = N + 1 := by
  unfold five at h
  simpa using h
theorem off_five {N : Nat} {c : Addr} (h : c ∉ five N) : c ≠ N + 4 ∧ c ≠ N + 3 ∧ c ≠ N ∧ c ≠ N + 1 := by
  unfold five at h
  simp only [List.mem_cons, List.not_mem_nil, or_false, not_or] at h
  exact ⟨h.1, h.2.2.1, h.2.2.2.1, h.2.2.2.2⟩
theorem ne_add {N k : Nat} (hk : k ≠ 0) : (N + k : Nat) ≠ N := by omega
theorem ne_adds {N j k : Nat} (h : j ≠ k) : (N + j : Nat) ≠ N + k := by omega
theorem turn_M {P : Program} {w : World} {K : PySem.W.Frag} {elts : List Expr} {kk : Nat} {tpos : Pos} {a b : Addr} {N : Nat} (ha : a < N) (hb : b < N) :
    Turn P w K (.Tuple elts kk tpos) (ItM K a b) (five N) (N + 4) (fun i h => AtM N a b i h) := by
  have sep : ZipSep2 (N + 4) (N + 2) (N + 3) N (N + 1) [N, a] [N + 1, b] := zip_sep2 (fp1 := [a]) (fp2 := [b]) (fun c hc => by rw [List.mem_singleton.mp hc]; exact ha) fun c hc => by rw [List.mem_singleton.mp hc]; exact hb
  have na : a ≠ N := Nat.ne_of_lt ha
  have nb : b ≠ N + 1 := Nat.ne_of_lt (Nat.lt_succ_of_lt hb)
  refine
    { mem := by simp [five]
      obj := fun i h st c hc => ?_
      keep := fun i h h' st k => ?_
      item := ?_
      done := ?_
      self := fun A i s Q E st h => wpAny_pyIter_zip st.z h }
  · obtain ⟨x, y, hto⟩ := st.to
    obtain ⟨o1, e1, _, d1⟩ := st.s1
    obtain ⟨o2, e2, _, d2⟩ := st.s2
    rcases mem_five hc with q | q | q | q | q <;> rw [q]
    · exact ⟨_, st.z, fun v r => nomatch r⟩
    · exact ⟨_, st.ti, fun v r => nomatch r⟩
    · exact ⟨_, hto, fun v r => nomatch r⟩
    · exact ⟨o1, e1, fun v r => by rw [d1] at r; cases r⟩
    · exact ⟨o2, e2, fun v r => by rw [d2] at r; cases r⟩
  · obtain ⟨x, y, hto⟩ := st.to
    have km : ∀ c ∈ five N, ∀ o, h.get? c = some o → h'.get? c = some o := fun c hc o e => k c hc o e
    exact ⟨km _ (by simp [five]) _ st.z, km _ (by simp [five]) _ st.ti, ⟨x, y, km _ (by simp [five]) _ hto⟩, st.s1.at fun o e => km _ (by simp [five]) o e, st.s2.at fun o e => km _ (by simp [five]) o e⟩
  · intro X hP hw hK hc i pins s σ H E I hf st hg
    subst hP hw hK
    obtain ⟨x0, y0, hto⟩ := st.to
    obtain ⟨xs, ys, x, y, hqx, hqy, hx, hy⟩ := hg
    obtain ⟨its, rv, p, _⟩ := I.tuple hqx
    obtain ⟨its2, rv2, p2, _⟩ := I.list hqy
    obtain ⟨u, hu, ru⟩ := rv.get hx
    obtain ⟨u2, hu2, ru2⟩ := rv2.get hy
    have hh : X.A.in1.handled = none := I.ok.hd hc
    have lt1 : i < its.toArray.size := by
      rw [List.size_toArray, ← rv.length]
      exact (List.getElem?_eq_some_iff.mp hx).1
    have lt2 : i < its2.toArray.size := by
      rw [List.size_toArray, ← rv2.length]
      exact (List.getElem?_eq_some_iff.mp hy).1
    have zl : N + 4 < s.heap.objs.size := Heap.lt_size st.z
    refine wpAny_pyNext_zipD2_item sep (Draws.tuple hh N a na its.toArray) (Draws.list hh (N + 1) b nb its2.toArray) st.z st.ti hto ⟨st.s1, p⟩ ⟨st.s2, p2.isList⟩ lt1 lt2
      fun w1 w2 h' tk e1 e2 z' to' st1 st2 hT hsz hk => ?_
    obtain rfl : w1 = u := by
      have q : its.toArray[i]? = some u := by simpa using hu
      exact Option.some.inj (e1.symm.trans q)
    obtain rfl : w2 = u2 := by
      have q : its2.toArray[i]? = some u2 := by simpa using hu2
      exact Option.some.inj (e2.symm.trans q)
    refine ⟨_, rfl, wpAny_letOwnedTupleGo_zip (s := { s with heap := h', toks := tk }) z' fun h'' z'' sb => ?_⟩
    have other : ∀ c o, c ≠ N + 4 → h'.get? c = some o → h''.get? c = some o := fun c o n e => (sb.2 c n).trans e
    have hT2 : h''.get? s.heap.objs.size = some { cls := .type "tuple", data := .seq #[w1, w2] } := other _ _ (Nat.ne_of_gt zl) hT
    have new : ObjOk X.prog X.w (upd H s.heap.objs.size (.tup [x, y])) h'' s.heap.objs.size (.tup [x, y]) :=
      ⟨(by decide : 2 ≤ sizeLine), [w1, w2], .cons ru (.cons ru2 .nil), ⟨_, hT2, rfl, _, rfl⟩⟩
    have I1 : Inv X pins σ (upd H s.heap.objs.size (.tup [x, y])) { s with heap := h'', toks := tk } :=
      I.turnedNew (ch := five N) (fun c o n e => by
        obtain ⟨n1, n2, n3, n4⟩ := off_five n
        exact other c o n1 (hk c o n1 n2 n3 n4 e)) hf (Nat.le_refl _) new
    refine ⟨.ref s.heap.objs.size, _, I1, rfl, ⟨_, x, y, rfl, I.hok.fresh (Nat.le_refl _), rfl, fun l hl => by rw [I.tuple_inj hl hqx]; exact hx, fun l hl => by rw [I.list_inj hl hqy]; exact hy⟩, ⟨z'', ?_, ⟨w1, w2, ?_⟩, ?_, ?_⟩, fun c hcm => ?_⟩
    · exact other _ _ sep.TIz (hk _ _ sep.TIz sep.TITO sep.TIi1 sep.TIi2 st.ti)
    · exact other _ _ sep.TOz to'
    · exact st1.1.at fun o e => other _ o (ne_add (by decide)).symm e
    · exact st2.1.at fun o e => other _ o (ne_adds (by decide)) e
    · have lt : c < s.heap.objs.size := by
        rcases mem_five hcm with q | q | q | q | q <;> rw [q] <;> first | exact zl | exact Nat.lt_of_le_of_lt (by omega) zl
      rw [upd_ne (Nat.ne_of_lt lt)]
      exact (hf c hcm).1
  · intro X hP hw hK hc i pins s σ H E I hf st hg
    subst hP hw hK
    obtain ⟨x0, y0, hto⟩ := st.to
    obtain ⟨xs, ys, hqx, hqy, en, le2⟩ := hg
    obtain ⟨its, rv, p, _⟩ := I.tuple hqx
    obtain ⟨its2, rv2, p2, _⟩ := I.list hqy
    have hh : X.A.in1.handled = none := I.ok.hd hc
    have z1 : its.toArray.size = xs.length := by rw [List.size_toArray, ← rv.length]
    have z2 : its2.toArray.size = ys.length := by rw [List.size_toArray, ← rv2.length]
    refine wpAny_pyNext_zipD2_end sep (Draws.tuple hh N a na its.toArray) (Draws.list hh (N + 1) b nb its2.toArray) st.z st.ti hto ⟨st.s1, p⟩ ⟨st.s2, p2.isList⟩ (by omega) (by omega) (.inl (by omega)) fun h' tk hk => ?_
    exact ⟨rfl, I.turnedL (t' := tk) (ch := five N) (fun c o n e => by
      obtain ⟨n1, n2, n3, n4⟩ := off_five n
      exact hk c o n1 n2 n3 n4 e) hf⟩
def iZipM (K : PySem.W.Frag) (ta : TA) : TI := fun σ H R => ta σ H fun vs H1 => ∃ a b xs ys, vs = [.ref a, .ref b] ∧ SqT K H1 a xs ∧ SqL K H1 b ys ∧ R (ItM K a b) H1
theorem pi_zipM {X : Cx} {e e2 : Expr} {ta : TA} {p pos tpos : Pos} {elts : List Expr} {kk : Nat} (hg : Gl X "zip") (hm : X.mg "zip" = none) (ha : PA X [e, e2] ta)
    (hs : starEach [e, e2] X.env = (false, eval e X.env) :: starEach [e2] X.env := by rfl) (hpl : (backTo pos (starEach [e2] X.env)).any (·.1) = false := by rfl) :
    PI X (.Tuple elts kk tpos) (.Call (.Name "zip" p) [e, e2] [] pos) (iZipM X.K ta) := by
  refine ⟨fun pins s σ H R I h => Call_ (ld_blt I hg hm PyProof.Rows.boot_zip (PyProof.Rows.callWith_type1 (thn (ha.run pos pins s σ H _ I h) fun us s1 ⟨vs, H1, I1, r1, a, b, xs, ys, ex, hx, hy, q⟩ => ?_) hs hpl))⟩
  subst ex
  obtain ⟨u1, u2, rfl, r, r'⟩ := vals2 r1
  cases r
  cases r'
  obtain ⟨its, rv, p1, _⟩ := I1.tuple hx
  obtain ⟨its2, rv2, p2, _⟩ := I1.list hy
  refine zip_begins2 (begins_tuple a its.toArray) (begins_list b its2.toArray) p1 p2.isList fun h' z ti to g1 g2 _ hk => wpAny_pyIter_zip z ?_
  have I2 : Inv X pins σ H1 { s1 with heap := h' } := I1.kept (t' := s1.toks) hk
  refine ⟨s1.heap.objs.size + 4, five s1.heap.objs.size, _, _, H1, rfl, I2, turn_M p1.lt p2.lt, ⟨z, ti, ⟨_, _, to⟩, ⟨_, g1, rfl, rfl⟩, ⟨_, g2, rfl, rfl⟩⟩, fun c hc => ?_, q⟩
  have le : s1.heap.objs.size ≤ c := by
    rcases mem_five hc with q | q | q | q | q <;> rw [q] <;> first | exact Nat.le_refl _ | exact Nat.le_add_right _ _
  exact I1.fpOk le (I1.hok.fresh le)
theorem walk_M {K : PySem.W.Frag} {a b : Addr} {xs ys : List V} (hl : xs.length ≤ ys.length) :
    Walk (ItM K a b) xs.length (fun H => SqT K H a xs ∧ SqL K H b ys) (YPair (fun i => xs[i]?) (fun i => ys[i]?)) := by
  refine ⟨fun i _ hi q => ⟨xs, ys, xs[i], ys[i]'(by omega), q.1, q.2, by simp [hi], by simp [show i < ys.length by omega]⟩, fun _ q => ⟨xs, ys, q.1, q.2, rfl, hl⟩, fun i H v H' _ q y => ?_⟩
  obtain ⟨T, x, z, h1, h2, h3, h4, h5⟩ := y
  exact ⟨T, x, z, h1, h2, h3, h4 xs q.1, h5 ys q.2⟩
end MB
end
section
set_option maxRecDepth 100000
set_option maxHeartbeats 4000000
set_option exponentiation.threshold 70000
namespace K28
open PySem PySem.Spec PyProof.Rows L2 MB PM
open LamX hiding takes0
def pws (q : Int) (m : Nat) : List Int := (List.range m).map fun i => q ^ i
theorem pws_len (q : Int) (m : Nat) : (pws q m).length = m := by simp [pws]
theorem pws_succ (q : Int) (m : Nat) : pws q (m + 1) = pws q m ++ [q ^ m] := by simp [pws, List.range_succ]
theorem pws_at {q : Int} {m i : Nat} (h : i < m) : (pws q m)[i]? = some (q ^ i) := by simp [pws, h]
theorem pws_get {q : Int} {m i : Nat} {x : Int} (h : (pws q m)[i]? = some x) : i < m ∧ x = q ^ i := by
  have hi : i < m := by
    have := (List.getElem?_eq_some_iff.mp h).1
    rw [pws_len] at this
    exact this
  rw [pws_at hi] at h
  exact ⟨hi, (Option.some.inj h).symm⟩
theorem npart_bits {q : Int} (h0 : 0 ≤ q) (h5 : q ≤ 5) {t : Nat} (ht : t ≤ 80) : ∀ i, i ≤ 80 → (npart q (q ^ t) i).natAbs ≤ 2 ^ (242 * i)
  | 0, _ => by
    show (1 : Int).natAbs ≤ 2 ^ 0
    decide
  | i + 1, hi => by
    have ih := npart_bits h0 h5 ht i (by omega)
    have e1 := pow_q h0 h5 t
    have e2 := pow_q h0 h5 i
    have e3 : (2 : Nat) ^ (3 * t) ≤ 2 ^ 240 := Nat.pow_le_pow_right (by decide) (by omega)
    have e4 : (2 : Nat) ^ (3 * i) ≤ 2 ^ 240 := Nat.pow_le_pow_right (by decide) (by omega)
    have e5 : (2 : Nat) ^ 240 + 2 ^ 240 ≤ 2 ^ 242 := by decide
    have e6 : (q ^ t - q ^ i).natAbs ≤ 2 ^ 242 := by omega
    show (npart q (q ^ t) i * (q ^ t - q ^ i)).natAbs ≤ _
    rw [Int.natAbs_mul, show 242 * (i + 1) = 242 * i + 242 by omega, Nat.pow_add]
    exact Nat.mul_le_mul ih e6
theorem factor_bits {q : Int} (h0 : 0 ≤ q) (h5 : q ≤ 5) {t i : Nat} (ht : t ≤ 80) (hi : i ≤ 80) : (q ^ t - q ^ i).natAbs < 2 ^ 243 := by
  have e1 := pow_q h0 h5 t
  have e2 := pow_q h0 h5 i
  have e3 : (2 : Nat) ^ (3 * t) ≤ 2 ^ 240 := Nat.pow_le_pow_right (by decide) (by omega)
  have e4 : (2 : Nat) ^ (3 * i) ≤ 2 ^ 240 := Nat.pow_le_pow_right (by decide) (by omega)
  have e5 : (2 : Nat) ^ 240 + 2 ^ 240 < 2 ^ 243 := by decide
  omega
theorem pw_bits {q : Int} (h0 : 0 ≤ q) (h5 : q ≤ 5) {t : Nat} (ht : t ≤ 80) : (q ^ t).natAbs < 2 ^ 241 := by
  have e1 := pow_q h0 h5 t
  have e3 : (2 : Nat) ^ (3 * t) ≤ 2 ^ 240 := Nat.pow_le_pow_right (by decide) (by omega)
  have e5 : (2 : Nat) ^ 240 < 2 ^ 241 := by decide
  omega
section
variable {w : World} {K : PySem.W.Frag} {mg : Str → Option Value} {base : Heap}
def spSplit (K : PySem.W.Frag) : Sp := fun vs H Q _ => ∃ (u v : V) (q : Int) (fs ns : List Int), vs = [u, v, .int q] ∧ LetQ q ∧ TI K H u fs ∧ TI K H v ns ∧ fs.length = ns.length ∧ ns.length ≤ 80 ∧ nrm ns < 2 ^ 2000 ∧ (∀ c ∈ fs, c.natAbs < 2 ^ 450000) ∧ (∀ x, ev x ns = nw q x 0 fs) ∧
  ∀ H', Same H H' → Q (.bl true) H'
theorem ok__law_is_split (T : Txt K mg) : FnOk P w K mg base CX0 2 T.a__law_is_split T.d__law_is_split P__law_is_split (spSplit K) := by
  refine T.F__law_is_split.ok sc__law_is_split (fun vs H Q E h => ?_) (fun cdv A outer s H vs Q E hr h => ?_)
  · obtain ⟨u, v, q, fs, ns, rfl, _⟩ := h
    rfl
  · obtain ⟨_, _, q, fs, ns, rfl, hq, ⟨a, rfl, ha⟩, ⟨b, rfl, hb⟩, hfn, hl, hn, hf, hev, k⟩ := h
    refine ⟨_, 
      (pss_cons (ps_if (PW.pt (pw_or (pt_not (pt_val (pe_callB (id := "isinstance") (r := rIsi K) call_isi (by rfl) T.m_isinstance (by decide +kernel) (pa_cons (pv 0) (pa_cons (pe_bltn (by rfl) T.m_tuple (v := .ty "tuple") (by decide +kernel) rfl) pa_nil))))) (pw_or1 (pt_cmpR op_ne (pe_callB call_len_seq (by rfl) T.m_len (by decide +kernel) (pa_cons (pv 0) pa_nil)) (pe_callB call_len_seq (by rfl) T.m_len (by decide +kernel) (pa_cons (pv 1) pa_nil)) (nomark _))))) (pss_one (ps_ret pe_bl)) pss_nil)
      (pss_cons (ps_if (pt_cmpR (op_neD hr.units) (pe_lc (own := [("_law_it", 10)]) (g := gName 10)  rfl sc__law_is_split.nd (pi_tup (pv 0)) (blkOk_by (own := [("_law_it", 10)]) (N := N__law_is_split) (sc := defScope s__law_is_split) (by decide +kernel)) (fun _ _ _ _ _ => (pg_name (i := 10) sc__law_is_split.nd rfl (Or.inl rfl))) (fun _ _ _ _ _ => (pts_one (PW.pt (pw_or (pt_not (pt_val (pe_callB (id := "isinstance") (r := rIsi K) call_isi (by rfl) T.m_isinstance (by decide +kernel) (pa_cons (pv 10) (pa_cons (pe_bltn (by rfl) T.m_int (v := .ty "int") (by decide +kernel) rfl) pa_nil))))) (pw_or1 (pt_val (pe_callB (id := "isinstance") (r := rIsi K) call_isi (by rfl) T.m_isinstance (by decide +kernel) (pa_cons (pv 10) (pa_cons (pe_bltn (by rfl) T.m_bool (v := .ty "bool") (by decide +kernel) rfl) pa_nil))))))))) (fun _ _ _ _ _ => pe_int)) (pe_lst pa_nil) (nomark _)) (pss_one (ps_ret pe_bl)) pss_nil)
      (pss_cons (ps_set (i := 3) sc__law_is_split.nd rfl (Or.inl rfl) (pe_lst (pa_cons pe_int pa_nil)))
      (pss_cons (ps_for PassesOwn.never rfl (pi_range1 rfl T.m_range (pa_cons (pe_callB call_len_seq (by rfl) T.m_len (by decide +kernel) (pa_cons (pv 0) pa_nil)) pa_nil)) (pg_name (i := 4) sc__law_is_split.nd rfl (Or.inl rfl)) (pss_one (ps_expr (pe_bm PySem.F.plainAttrs_list PySem.F.slot_list_append PySem.F.type_list_append mt_append (pv 3) (pa_cons (pe_op op_mulW (pe_ix (r := rIxL K) ix_list (pv 3) (pe_un un_neg pe_int) (fun _ _ => rfl)) (pv 2)) pa_nil)))))
      (pss_cons (ps_for PassesOwn.never rfl (pi_list (pe_slice sl_list (pv 3) po_none (po_some (pe_un un_neg pe_int)))) (pg_name (i := 5) sc__law_is_split.nd rfl (Or.inl rfl)) (pss_cons (ps_asg (pe_tup (pa_cons pe_int (pa_cons pe_int pa_nil))) (pg_tup rfl (pgs_cons (pg_name (i := 6) sc__law_is_split.nd rfl (Or.inl rfl)) (pgs_cons (pg_name (i := 7) sc__law_is_split.nd rfl (Or.inl rfl)) pgs_nil))))
      (pss_cons (ps_for PassesOwn.never rfl (pi_zipM (by rfl) T.m_zip (pa_cons (pv 0) (pa_cons (pv 3) pa_nil))) (pg_tup rfl (pgs_cons (pg_name (i := 8) sc__law_is_split.nd rfl (Or.inl rfl)) (pgs_cons (pg_name (i := 9) sc__law_is_split.nd rfl (Or.inl rfl)) pgs_nil))) (pss_one (ps_par (i := 6) (j := 7) (by rfl) sc__law_is_split.nd rfl rfl (by decide) rfl rfl (pa_cons (pe_op op_add (pv 6) (pe_op op_mulW (pv 8) (pv 7))) (pa_cons (pe_op op_mulW (pv 7) (pe_op op_sub (pv 5) (pv 9))) pa_nil)) (by rfl))))
      (pss_one (ps_if (pt_cmpR op_ne (pv 6) (pe_call (ok__law_at T) (hr.mono (by decide)) rfl T.m__law_at T.F__law_at.kp T.b__law_at .nil pass0 (pa_cons (pv 1) (pa_cons (pv 5) pa_nil))) (nomark _)) (pss_one (ps_ret pe_bl)) pss_nil)))))
      (pss_one (ps_ret pe_bl))))))), ?_⟩
    have q0 : 0 ≤ q := by have := hq.lo; omega
    have q5 := hq.hi
    refine ⟨_, rfl, _, _, _, _, _, rfl, .ty "tuple", tyx_tup ha, kit_ty (r := true) (by decide +kernel), true, rfl, iteF ?_⟩
    refine ⟨_, rfl, a, _, rfl, .inr ha, _, rfl, b, _, rfl, .inr hb, rfl, _, rfl, ?_⟩
    rw [dec_int, decide_eq_true (by rw [List.length_map, List.length_map, hfn])]
    refine iteF ?_
    refine ⟨_, rfl, a, rfl, ⟨_, ha⟩, fun D hD => lc_it (walk_tup (K := K) (a := a) (xs := fs.map V.int)) (fun i H' => ∃ H0, Same H H0 ∧ H' = upd H0 D (.lst [])) ⟨H, Same.refl _, rfl⟩ ?_ ?_ ?_⟩
    · rintro i _ _ ⟨H0, e, rfl⟩
      exact (same_set hD e).tup ha
    · rintro i x _ _ hi ⟨H0, e, rfl⟩ ⟨rfl, hx⟩
      obtain ⟨z, _, rfl⟩ := int_at hx
      refine ⟨rfl, ?_⟩
      refine ⟨_, rfl, _, _, _, _, _, rfl, .ty "int", .base (.int z), kit_ty (r := true) (by decide +kernel), true, rfl, iteF ?_⟩
      exact ⟨_, rfl, _, _, _, _, _, rfl, .ty "bool", .base (.int z), kit_ty (r := false) (by decide +kernel), false, rfl, iteF ⟨H0, e, rfl⟩⟩
    rintro _ ⟨H0, e0, rfl⟩
    have s0 := same_set (o := .lst []) hD e0
    have hD0 : (upd H0 D (.lst [])) D = some (.lst (([] : List Int).map V.int)) := upd_same
    generalize upd H0 D (.lst []) = H1 at s0 hD0
    clear e0
    refine ⟨line_s (Nat.zero_le _), fun p1 hp1 => ?_⟩
    have s1 := same_upd (o := .lst []) hp1
    refine ne_nil_rd (SqL.of (s1 _ _ hD0)) (SqL.of upd_same) ⟨_, rfl, iteF ?_⟩
    have s01 := s0.trans s1
    generalize upd H1 p1 (.lst []) = H2 at s01
    clear s1 s0 hD0 hp1 hD
    refine ⟨line_s (Nat.le_of_ble_eq_true rfl), fun D hD => ?_⟩
    have s2 := same_upd (o := .lst [.int 1]) hD
    refine ⟨_, rfl, a, _, rfl, .inr (s2.tup (s01.tup ha)), ?_⟩
    refine ⟨_, rfl, by rw [List.length_map]; omega, by rw [List.length_map]; omega, for_range (lo := 0) (n := (((fs.map V.int).length : Nat) : Int).toNat)
      (fun i σ H' => ∃ u4 : Option V, σ = [some (.ref a), some (.ref b), some (.int q), some (.ref D), u4, none, none, none, none, none, none] ∧ Same H2 H' ∧ H' D = some (.lst ((pws q (i + 1)).map V.int)))
      ⟨none, rfl, s2, by rw [upd_same]; simp [pws]⟩ ?_ ?_⟩
    · rintro i _ H' hi ⟨u4, rfl, e, hN⟩
      rw [Int.toNat_natCast, List.length_map] at hi
      have pb := pw_bits q0 q5 (show i ≤ 80 by omega)
      have hN' := hN
      rw [pws_succ, List.map_append] at hN'
      refine ⟨_, rfl, .inl ⟨rfl, _, SqL.of hN⟩, _, rfl, 1, rfl, D, _, _, .int (q ^ i), rfl, rfl, SqL.of hN', atI_last _ _, _, rfl, _, _, rfl, rfl, wide_mul pb (b := 3) (by omega) (by decide) (by decide) (by decide), D, _, _, rfl, rfl, hN, ?_, _, rfl, same_set hD e, ?_⟩
      · rw [List.length_map, pws_len]
        exact line_le (by omega)
      · rw [upd_same, pws_succ q (i + 1), List.map_append, Int.pow_succ]
        rfl
    rintro _ H3 ⟨u4, rfl, e3, hN3⟩
    rw [Int.toNat_natCast, List.length_map] at hN3
    have s3 := s01.trans e3
    clear s2 hD
    have ha3 := s3.tup ha
    have hb3 := s3.tup hb
    refine ⟨_, rfl, 1, rfl, _, rfl, D, _, rfl, SqL.of hN3, fun p4 hp4 => ?_⟩
    rw [cut_last]
    have ed : (pws q (fs.length + 1)).dropLast = pws q fs.length := by rw [pws_succ, List.dropLast_concat]
    rw [ed]
    have s4 := same_upd (o := .lst ((pws q fs.length).map V.int)) hp4
    have hp4' : (upd H3 p4 (.lst ((pws q fs.length).map V.int))) p4 = some (.lst ((pws q fs.length).map V.int)) := upd_same
    have hN4 := s4 _ _ hN3
    generalize upd H3 p4 (.lst ((pws q fs.length).map V.int)) = H4 at s4 hp4' hN4
    have ha4 := s4.tup ha3
    have hb4 := s4.tup hb3
    refine ⟨p4, rfl, ⟨_, SqL.of hp4'⟩, for_it (walk_list (K := K) (a := p4) (xs := (pws q fs.length).map V.int))
      (fun i σ H' => ∃ u5 u6 u7 u8 u9 : Option V, σ = [some (.ref a), some (.ref b), some (.int q), some (.ref D), u4, u5, u6, u7, u8, u9, none] ∧ Same H4 H')
      ⟨none, none, none, none, none, rfl, Same.refl _⟩ (fun i σ H' _ ⟨_, _, _, _, _, _, e⟩ => sqL_same e (SqL.of hp4')) ?_ ?_⟩
    · rintro t x _ _ H' hi ⟨u5, u6, u7, u8, u9, rfl, e⟩ ⟨rfl, hx⟩
      obtain ⟨x', hx', rfl⟩ := int_at hx
      obtain ⟨ht, rfl⟩ := pws_get hx'
      have t80 : t ≤ 80 := by omega
      refine ⟨line_s (Nat.le_of_ble_eq_true rfl), fun p5 hp5 => ⟨p5, _, rfl, SqT.of upd_same, rfl, _, _, rfl, _, _, rfl, rfl, ?_⟩⟩
      have s5 := e.trans (same_upd (o := .tup [.int 0, .int 1]) hp5)
      generalize upd H' p5 (.tup [.int 0, .int 1]) = H5 at s5
      have ha5 := s5.tup ha4
      have hb5 := s5.tup hb4
      have hN5 := s5 _ _ hN4
      refine ⟨_, rfl, _, rfl, a, D, _, _, rfl, ha5, SqL.of hN5, for_it (walk_M (K := K) (a := a) (b := D) (xs := fs.map V.int) (ys := (pws q (fs.length + 1)).map V.int) (by rw [List.length_map, List.length_map, pws_len]; omega))
        (fun i σ H' => ∃ u8 u9 : Option V, σ = [some (.ref a), some (.ref b), some (.int q), some (.ref D), u4, some (.int (q ^ t)), some (.int (nsum q (q ^ t) 0 (fs.take i))), some (.int (npart q (q ^ t) i)), u8, u9, none] ∧ Same H5 H')
        ⟨u8, u9, rfl, Same.refl _⟩ (fun i σ H' _ ⟨_, _, _, e⟩ => ⟨e.tup ha5, sqL_same e (SqL.of hN5)⟩) ?_ ?_⟩
      · rintro i v _ H6 H7 hi ⟨u8', u9', rfl, e6⟩ ⟨T0, x, y, rfl, hT0, rfl, hx, hy⟩
        obtain ⟨c, hc, rfl⟩ := int_at hx
        obtain ⟨p, hp, rfl⟩ := int_at hy
        obtain ⟨hi', rfl⟩ := pws_get hp
        have hil : i < fs.length := (List.getElem?_eq_some_iff.mp hc).1
        have e7 := e6.trans (same_upd (o := .tup [.int c, .int (q ^ i)]) hT0)
        have cb := hf c (List.mem_of_getElem? hc)
        have pb : (npart q (q ^ t) i).natAbs < 2 ^ 20000 := Nat.lt_of_le_of_lt (npart_bits q0 q5 t80 i (by omega)) (Nat.pow_lt_pow_right (by decide) (by omega))
        have fb := factor_bits q0 q5 t80 (show i ≤ 80 by omega)
        refine ⟨T0, _, rfl, SqT.of upd_same, rfl, _, _, rfl, _, _, rfl, rfl, ?_⟩
        refine ⟨_, rfl, _, rfl, _, rfl, _, _, rfl, rfl, wide_mul cb pb (by decide) (by decide) (by decide), _, _, rfl, rfl, _, rfl, _, rfl, _, rfl, _, _, rfl, rfl, _, _, rfl, rfl, wide_mul pb fb (by decide) (by decide) (by decide), _, _, rfl, ?_⟩
        refine ⟨some (.int c), some (.int (q ^ i)), ?_, e7⟩
        rw [List.take_add_one, hc]
        show _ = [some (V.ref a), some (V.ref b), some (V.int q), some (V.ref D), u4, some (V.int (q ^ t)), some (V.int (nsum q (q ^ t) 0 (fs.take i ++ [c]))), some (V.int (npart q (q ^ t) (i + 1))), some (V.int c), some (V.int (q ^ i)), none]
        rw [nsum_snoc, List.length_take, Nat.zero_add, show min i fs.length = i by omega]
        rfl
      · rintro _ H6 ⟨u8', u9', rfl, e6⟩
        have hb6 := e6.tup hb5
        rw [List.length_map, List.take_length, nsum_zero, ← hev]
        refine ⟨_, rfl, _, rfl, _, rfl, .ref b, q ^ t, ns, (2000 + 241 * 1000 + 1), 241, rfl, ⟨b, rfl, hb6⟩, by omega, fun j => ev_bits (pw_bits q0 q5 t80) hn (by omega), pw_bits q0 q5 t80, by decide, by decide, by decide, fun H7 s7 => ⟨rfl, _, rfl, ?_⟩⟩
        rw [decide_eq_true rfl]
        exact iteF ⟨_, _, _, _, _, rfl, s5.trans (e6.trans s7)⟩
    · rintro _ H' ⟨u5, u6, u7, u8, u9, rfl, e⟩
      exact k _ (s3.trans (s4.trans e))
end
end K28
end
section

namespace PM
def stepF (c : Int) (F P : List Int) : List Int := List.zipWith (fun x y => x + c * y) F (P ++ List.replicate F.length 0)
def stepP (w : Int) (P : List Int) : List Int := List.zipWith (fun x y => x - w * y) (0 :: P) (P ++ [0])
theorem zip_map (f : Int → Int → Int) (g : Int → Int → Int) (h : Int → Int) (e : ∀ x y, f x y = g x (h y)) : ∀ A B : List Int, List.zipWith f A B = List.zipWith g A (B.map h)
  | [], _ => by simp
  | _ :: _, [] => by simp
  | a :: A, b :: B => by simp [e, zip_map f g h e A B]
theorem stepP_len (w : Int) (P : List Int) : (stepP w P).length = P.length + 1 := by simp [stepP]
theorem ev_stepP (x w : Int) (P : List Int) : ev x (stepP w P) = ev x P * (x - w) := by
  unfold stepP
  rw [zip_map _ (· + ·) ((-w) * ·) (fun a b => by grind), ev_zip x _ _ (by simp), ev_scale, ev_append]
  show 0 + x * ev x P + -w * (ev x P + x ^ P.length * (0 + x * 0)) = _
  grind
theorem stepP_snoc (w : Int) (p : List Int) : ∃ p', stepP w (p ++ [1]) = p' ++ [1] ∧ p'.length = p.length + 1 := by
  refine ⟨List.zipWith (fun x y => x - w * y) (0 :: p) (p ++ [1]), ?_, by simp⟩
  unfold stepP
  show List.zipWith _ ((0 :: p) ++ [1]) _ = _
  rw [List.zipWith_append (by simp)]
  simp
theorem zeros_add (c : Int) : ∀ k n, k ≤ n → List.zipWith (fun x y => x + c * y) (List.replicate k (0 : Int)) (List.replicate n 0) = List.replicate k 0
  | 0, _, _ => rfl
  | k + 1, n + 1, h => by
    rw [List.replicate_succ, List.replicate_succ, List.zipWith_cons_cons, zeros_add c k n (by omega)]
    simp
theorem stepF_eq (c : Int) {G p : List Int} (k : Nat) (h : G.length = p.length) : stepF c (G ++ List.replicate (k + 1) 0) (p ++ [1]) = (List.zipWith (fun x y => x + c * y) G p ++ [c]) ++ List.replicate k 0 := by
  unfold stepF
  rw [List.append_assoc, List.zipWith_append h, List.append_assoc]
  congr 1
  rw [List.replicate_succ]
  show (0 + c * 1) :: List.zipWith (fun x y => x + c * y) (List.replicate k 0) (List.replicate (G ++ (0 :: List.replicate k 0)).length 0) = c :: List.replicate k 0
  rw [zeros_add c k _ (by simp; omega), Int.mul_one, Int.zero_add]
theorem stepF_len (c : Int) (F P : List Int) : (stepF c F P).length = F.length := by simp [stepF]
structure AddAt (q : Int) (fs : List Int) (i : Nat) (F P : List Int) : Prop where
  lF : F.length = fs.length
  lP : P.length = i + 1
  ex : ∃ G p, F = G ++ List.replicate (fs.length - i) 0 ∧ P = p ++ [1] ∧ G.length = i ∧ p.length = i ∧ (∀ j, i = j + 1 → ∃ G' c, G = G' ++ [c] ∧ fs[j]? = some c)
  eF : ∀ x, ev x F = nsum q x 0 (fs.take i)
  eP : ∀ x, ev x P = npart q x i
theorem AddAt.zero (q : Int) (fs : List Int) : AddAt q fs 0 (List.replicate fs.length 0) [1] where
  lF := by simp
  lP := rfl
  ex := ⟨[], [], by simp, rfl, rfl, rfl, fun j h => by cases h⟩
  eF := fun x => by rw [ev_zeros]; rfl
  eP := fun x => by simp [ev, npart]
theorem ev_zipc (x c : Int) {A B : List Int} (h : A.length = B.length) : ev x (List.zipWith (fun x y => x + c * y) A B) = ev x A + c * ev x B := by
  rw [zip_map _ (· + ·) (c * ·) (fun a b => rfl), ev_zip x _ _ (by simpa using h), ev_scale]
theorem AddAt.next {q : Int} {fs : List Int} {i : Nat} {F P : List Int} {c : Int} (h : AddAt q fs i F P) (hc : fs[i]? = some c) : AddAt q fs (i + 1) (stepF c F P) (stepP (q ^ i) P) := by
  have hi : i < fs.length := (List.getElem?_eq_some_iff.mp hc).1
  obtain ⟨G, p, rfl, rfl, lg, lp, _⟩ := h.ex
  obtain ⟨p', ep, lp'⟩ := stepP_snoc (q ^ i) p
  have k : fs.length - i = (fs.length - (i + 1)) + 1 := by omega
  have eG : stepF c (G ++ List.replicate (fs.length - i) 0) (p ++ [1]) = (List.zipWith (fun x y => x + c * y) G p ++ [c]) ++ List.replicate (fs.length - (i + 1)) 0 := by
    rw [k, stepF_eq c _ (by rw [lg, lp])]
  refine ⟨by rw [stepF_len]; exact h.lF, by rw [stepP_len, h.lP], ⟨_, p', eG, ep, by simp [lg, lp], by omega, fun j hj => ⟨_, c, rfl, ?_⟩⟩, fun x => ?_, fun x => ?_⟩
  · obtain rfl : i = j := by omega
    exact hc
  · rw [eG, ev_append, ev_zeros, ev_append, ev_zipc x c (by rw [lg, lp])]
    have z := h.eF x
    rw [ev_append, ev_zeros] at z
    have y := h.eP x
    rw [ev_append] at y
    rw [List.take_add_one, hc]
    show _ = nsum q x 0 (fs.take i ++ [c])
    rw [nsum_snoc, List.length_take, Nat.zero_add, show min i fs.length = i by omega, ← z, ← y]
    simp only [List.length_zipWith, lg, lp, Nat.min_self, ev]
    grind
  · rw [ev_stepP, h.eP]
    rfl
theorem AddAt.done {q : Int} {fs F P : List Int} (h : AddAt q fs fs.length F P) {c : Int} {gs : List Int} (e : fs = gs ++ [c]) (hc : c ≠ 0) : isPoly F = true ∧ (∀ x, ev x F = nw q x 0 fs) := by
  obtain ⟨G, p, eF, _, _, _, l⟩ := h.ex
  rw [Nat.sub_self, List.replicate_zero, List.append_nil] at eF
  obtain ⟨G', d, eG, ed⟩ := l gs.length (by rw [e]; simp)
  have : d = c := by
    rw [e] at ed
    simpa using ed.symm
  refine ⟨?_, fun x => ?_⟩
  · rw [eF, eG, this]
    show ((G' ++ [c]).getLast? != some 0) = true
    simp [hc]
  · rw [h.eF, List.take_length, nsum_zero]
theorem upc_at (q : Int) : ∀ (r : List Int) (t : Nat) (p : Int) (j : Nat) (a b : Int), (p :: r)[j]? = some a → (r ++ [0])[j]? = some b → (upc q t p r)[j]? = some (a + q ^ (t + j) * b)
  | [], t, p, 0, a, b, ha, hb => by
    obtain rfl : p = a := by simpa using ha
    obtain rfl : 0 = b := by simpa using hb
    simp [upc]
  | [], t, p, j + 1, a, b, ha, hb => by simp at ha
  | f :: r, t, p, 0, a, b, ha, hb => by
    obtain rfl : p = a := by simpa using ha
    obtain rfl : f = b := by simpa using hb
    simp [upc]
  | f :: r, t, p, j + 1, a, b, ha, hb => by
    have ih := upc_at q r (t + 1) f j a b (by simpa using ha) (by simpa using hb)
    rw [show t + 1 + j = t + (j + 1) by omega] at ih
    simpa [upc] using ih
theorem pw_small {q : Int} (h0 : 0 ≤ q) (h5 : q ≤ 5) (i : Nat) : (q ^ i).natAbs ≤ 2 ^ (3 * i) := by
  rw [Int.natAbs_pow, Nat.pow_mul]
  exact Nat.pow_le_pow_left (by omega) i
theorem upc_bits {q : Int} (h0 : 0 ≤ q) (h5 : q ≤ 5) {b m : Nat} : ∀ (r : List Int) (t : Nat) (p : Int), t + r.length ≤ m → p.natAbs < 2 ^ b → (∀ c ∈ r, c.natAbs < 2 ^ b) → ∀ c ∈ upc q t p r, c.natAbs < 2 ^ (b + 3 * m + 1)
  | [], t, p, hm, hp, hr, c, hc => by
    obtain rfl : c = p := by simpa [upc] using hc
    exact Nat.lt_of_lt_of_le hp (Nat.pow_le_pow_right (by decide) (by omega))
  | f :: r, t, p, hm, hp, hr, c, hc => by
    have hf := hr f List.mem_cons_self
    rcases List.mem_cons.mp (show c ∈ (p + q ^ t * f) :: upc q (t + 1) f r from hc) with rfl | hc
    · have e1 : (q ^ t * f).natAbs ≤ 2 ^ (3 * m) * 2 ^ b := by
        rw [Int.natAbs_mul]
        exact Nat.mul_le_mul (Nat.le_trans (pw_small h0 h5 t) (Nat.pow_le_pow_right (by decide) (by simp only [List.length_cons] at hm; omega))) (Nat.le_of_lt hf)
      have e2 : 2 ^ b ≤ 2 ^ (3 * m) * 2 ^ b := Nat.le_mul_of_pos_left _ (Nat.pow_pos (by decide))
      have e3 : 2 ^ (b + 3 * m + 1) = 2 * (2 ^ (3 * m) * 2 ^ b) := by
        rw [Nat.pow_succ, Nat.pow_add, Nat.mul_comm (2 ^ b), Nat.mul_comm _ 2]
      omega
    · exact upc_bits h0 h5 r (t + 1) f (by simp only [List.length_cons] at hm; omega) hf (fun c hc => hr c (List.mem_cons_of_mem _ hc)) c hc
theorem spc_bits {q : Int} (h0 : 0 ≤ q) (h5 : q ≤ 5) : ∀ k, k ≤ 20 → ∀ c ∈ spc q k, c.natAbs < 2 ^ (64 * k + 1)
  | 0, _, c, hc => by
    obtain rfl : c = 1 := by simpa [spc] using hc
    decide
  | k + 1, hk, c, hc => by
    have ih := spc_bits h0 h5 k (by omega)
    have := upc_bits h0 h5 (b := 64 * k + 1) (m := 20 + 1) (spc q k) 0 0 (by rw [spc_len]; omega) (Nat.pow_pos (by decide)) ih c hc
    exact Nat.lt_of_lt_of_le this (Nat.pow_le_pow_right (by decide) (by omega))
theorem stepP_bits {w : Int} {b d : Nat} (hw : w.natAbs ≤ 2 ^ d) {P : List Int} (hP : ∀ c ∈ P, c.natAbs < 2 ^ b) : ∀ c ∈ stepP w P, c.natAbs < 2 ^ (b + d + 1) := by
  intro c hc
  obtain ⟨i, hi, rfl⟩ := List.mem_iff_getElem.mp hc
  have pb : 0 < 2 ^ b := Nat.pow_pos (by decide)
  have h1 : ∀ x ∈ (0 :: P), x.natAbs < 2 ^ b := fun x hx => (List.mem_cons.mp hx).elim (fun e => by rw [e]; exact pb) (hP x)
  have h2 : ∀ x ∈ (P ++ [0]), x.natAbs < 2 ^ b := fun x hx => (List.mem_append.mp hx).elim (hP x) (fun e => by rw [List.mem_singleton.mp e]; exact pb)
  unfold stepP at hi ⊢
  rw [List.getElem_zipWith]
  rw [List.length_zipWith] at hi
  have a1 := h1 _ (List.getElem_mem (l := 0 :: P) (n := i) (by omega))
  have a2 := h2 _ (List.getElem_mem (l := P ++ [0]) (n := i) (by omega))
  generalize (0 :: P)[i] = x at a1
  generalize (P ++ [0])[i] = y at a2
  have e1 : (w * y).natAbs ≤ 2 ^ d * 2 ^ b := by
    rw [Int.natAbs_mul]
    exact Nat.mul_le_mul hw (Nat.le_of_lt a2)
  have e2 : 2 ^ b ≤ 2 ^ d * 2 ^ b := Nat.le_mul_of_pos_left _ (Nat.pow_pos (by decide))
  have e3 : 2 ^ (b + d + 1) = 2 * (2 ^ d * 2 ^ b) := by
    rw [Nat.pow_succ, Nat.pow_add, Nat.mul_comm (2 ^ b), Nat.mul_comm _ 2]
  omega
theorem stepF_bits {c : Int} {a b d : Nat} (hc : c.natAbs ≤ 2 ^ d) {F P : List Int} (hF : ∀ c ∈ F, c.natAbs < 2 ^ a) (hP : ∀ c ∈ P, c.natAbs < 2 ^ b) (hab : b + d ≤ a) : ∀ z ∈ stepF c F P, z.natAbs < 2 ^ (a + 1) := by
  intro z hz
  obtain ⟨i, hi, ez⟩ := List.mem_iff_getElem.mp hz
  subst ez
  clear hz
  have pb : 0 < 2 ^ b := Nat.pow_pos (by decide)
  have h2 : ∀ x ∈ (P ++ List.replicate F.length 0), x.natAbs < 2 ^ b := fun x hx => (List.mem_append.mp hx).elim (hP x) (fun e => by rw [List.eq_of_mem_replicate e]; exact pb)
  unfold stepF at hi ⊢
  rw [List.getElem_zipWith]
  rw [List.length_zipWith] at hi
  have a1 := hF _ (List.getElem_mem (l := F) (n := i) (by omega))
  have a2 := h2 _ (List.getElem_mem (l := P ++ List.replicate F.length 0) (n := i) (by omega))
  generalize F[i] = x at a1
  generalize (P ++ List.replicate F.length 0)[i] = y at a2
  have e1 : (c * y).natAbs ≤ 2 ^ d * 2 ^ b := by
    rw [Int.natAbs_mul]
    exact Nat.mul_le_mul hc (Nat.le_of_lt a2)
  have e2 : 2 ^ d * 2 ^ b ≤ 2 ^ a := by
    rw [← Nat.pow_add]
    exact Nat.pow_le_pow_right (by decide) (by omega)
  rw [Nat.pow_succ]
  omega
end PM
end
section
set_option maxRecDepth 100000
set_option maxHeartbeats 4000000
set_option exponentiation.threshold 70000
namespace K28
open PySem PySem.Spec PyProof.Rows L2 MB PM
open LamX hiding takes0
theorem zeros_flat {k : Int} {n : Nat} (h : k.toNat = n) : (List.replicate k.toNat [V.int 0]).flatten = (List.replicate n (0 : Int)).map V.int := by
  rw [h]
  simp
section
variable {w : World} {K : PySem.W.Frag} {mg : Str → Option Value} {base : Heap}
structure Ints (fs : List Int) : Prop where
  l : fs.length ≤ 8
  b : ∀ c ∈ fs, c.natAbs ≤ 2 ^ 60
  e : ∃ gs c, fs = gs ++ [c] ∧ c ≠ 0
def spAdded (K : PySem.W.Frag) : Sp := fun vs H Q _ => ∃ (a : Addr) (q : Int) (fs : List Int), vs = [.ref a, .int q] ∧ LetQ q ∧ SqL K H a (fs.map V.int) ∧ Ints fs ∧
  ∀ z ls H', Same H H' → TI K H' z ls → ls.length = fs.length → isPoly ls = true → (∀ x, ev x ls = nw q x 0 fs) → (∀ c ∈ ls, c.natAbs < 2 ^ 310) → Q z H'
theorem ok__law_added (T : Txt K mg) : FnOk P w K mg base CX0 1 T.a__law_added T.d__law_added P__law_added (spAdded K) := by
  refine T.F__law_added.ok sc__law_added (fun vs H Q E h => ?_) (fun cdv A outer s H vs Q E hr h => ?_)
  · obtain ⟨a, q, fs, rfl, _⟩ := h
    rfl
  · obtain ⟨a, q, fs, rfl, hq, ha, hi, k⟩ := h
    refine ⟨_, 
      (pss_cons (ps_asg (pe_tup (pa_cons (pe_op op_rep (pe_lst (pa_cons pe_int pa_nil)) (pe_callB call_len_seq (by rfl) T.m_len (by decide +kernel) (pa_cons (pv 0) pa_nil))) (pa_cons (pe_lst (pa_cons pe_int pa_nil)) (pa_cons pe_int pa_nil)))) (pg_tup rfl (pgs_cons (pg_name (i := 2) sc__law_added.nd rfl (Or.inl rfl)) (pgs_cons (pg_name (i := 3) sc__law_added.nd rfl (Or.inl rfl)) (pgs_cons (pg_name (i := 4) sc__law_added.nd rfl (Or.inr rfl)) pgs_nil)))))
      (pss_cons (ps_for PassesOwn.never rfl (pi_list (pv 0)) (pg_name (i := 5) sc__law_added.nd rfl (Or.inr rfl)) (pss_cons (ps_setLc (i := 2) (own := [("_law_one", 6), ("_law_other", 7)]) (g := gTup K 2 (gCons (gName 6) (gCons (gName 7) gNil))) (tt := tYes) rfl sc__law_added.nd rfl rfl (sw_true rfl rfl rfl (by decide +kernel)) (RZ.pi_zipA (by rfl) T.m_zip (pa_cons (pv 2) (pa_cons (pe_op op_cat (pv 3) (pe_op op_rep (pe_lst (pa_cons pe_int pa_nil)) (pe_callB call_len_seq (by rfl) T.m_len (by decide +kernel) (pa_cons (pv 2) pa_nil)))) pa_nil))) (blkOk_by (own := [("_law_one", 6), ("_law_other", 7)]) (N := N__law_added) (sc := defScope s__law_added) (by decide +kernel)) (fun _ _ _ _ _ => (pg_tup rfl (pgs_cons (pg_name (i := 6) sc__law_added.nd rfl (Or.inl rfl)) (pgs_cons (pg_name (i := 7) sc__law_added.nd rfl (Or.inl rfl)) pgs_nil)))) (fun _ _ _ _ _ => pts_nil) (fun _ _ _ _ _ => (pe_op op_add (pv 6) (pe_op op_mulW (pv 5) (pv 7)))))
      (pss_cons (ps_setLc (i := 3) (own := [("_law_one", 6), ("_law_other", 7)]) (g := gTup K 2 (gCons (gName 6) (gCons (gName 7) gNil))) (tt := tYes) rfl sc__law_added.nd rfl rfl (sw_true rfl rfl rfl (by decide +kernel)) (RZ.pi_zipA (by rfl) T.m_zip (pa_cons (pe_op op_cat (pe_lst (pa_cons pe_int pa_nil)) (pv 3)) (pa_cons (pe_op op_cat (pv 3) (pe_lst (pa_cons pe_int pa_nil))) pa_nil))) (blkOk_by (own := [("_law_one", 6), ("_law_other", 7)]) (N := N__law_added) (sc := defScope s__law_added) (by decide +kernel)) (fun _ _ _ _ _ => (pg_tup rfl (pgs_cons (pg_name (i := 6) sc__law_added.nd rfl (Or.inl rfl)) (pgs_cons (pg_name (i := 7) sc__law_added.nd rfl (Or.inl rfl)) pgs_nil)))) (fun _ _ _ _ _ => pts_nil) (fun _ _ _ _ _ => (pe_op op_sub (pv 6) (pe_op op_mulW (pv 4) (pv 7)))))
      (pss_one (ps_set (i := 4) sc__law_added.nd rfl (Or.inr rfl) (pe_op op_mulW (pv 4) (pv 1)))))))
      (pss_one (ps_ret (pe_callTy call_tuple_of (by rfl) T.m_tuple (by decide +kernel) (pa_cons (pv 2) pa_nil)))))), ?_⟩
    have q0 : 0 ≤ q := by have := hq.lo; omega
    have q5 := hq.hi
    have l8 := hi.l
    refine ⟨line_s (Nat.le_of_ble_eq_true rfl), fun p hp => ?_⟩
    have s1 := same_upd (o := .lst [.int 0]) hp
    refine ⟨_, rfl, a, _, rfl, .inl (sqL_same s1 ha), p, _, _, rfl, rfl, upd_same, by rw [List.length_map]; omega, by rw [List.length_map]; omega, ?_, fun D hD => ?_⟩
    · simp only [List.length_map, List.length_cons, List.length_nil]
      exact Nat.le_of_lt (line_le (by omega))
    rw [zeros_flat (n := fs.length) (by rw [List.length_map]; omega)]
    have s2 := s1.trans (same_upd (o := .lst ((List.replicate fs.length (0 : Int)).map V.int)) hD)
    have hD2 : (upd (upd H p (.lst [.int 0])) D (.lst ((List.replicate fs.length (0 : Int)).map V.int))) D = some (.lst ((List.replicate fs.length (0 : Int)).map V.int)) := upd_same
    generalize upd (upd H p (.lst [.int 0])) D (.lst ((List.replicate fs.length (0 : Int)).map V.int)) = H2 at s2 hD2
    clear s1 hp hD
    refine ⟨line_s (Nat.le_of_ble_eq_true rfl), fun p3 hp3 => ?_⟩
    have s3 := same_upd (o := .lst [.int 1]) hp3
    have hP3 : (upd H2 p3 (.lst [.int 1])) p3 = some (.lst (([1] : List Int).map V.int)) := upd_same
    have hD3 := s3 _ _ hD2
    have s23 := s2.trans s3
    generalize upd H2 p3 (.lst [.int 1]) = H3 at s23 hP3 hD3 ⊢
    clear s3 hp3 hD2 s2
    refine ⟨line_s (Nat.le_of_ble_eq_true rfl), fun p4 hp4 => ?_⟩
    have s4 := s23.trans (same_upd (o := .tup [.ref D, .ref p3, .int 1]) hp4)
    have hP4 := same_upd (o := .tup [.ref D, .ref p3, .int 1]) hp4 _ _ hP3
    have hD4 := same_upd (o := .tup [.ref D, .ref p3, .int 1]) hp4 _ _ hD3
    refine ⟨p4, _, rfl, SqT.of upd_same, rfl, _, _, rfl, _, _, rfl, _, _, rfl, rfl, ?_⟩
    generalize upd H3 p4 (.tup [.ref D, .ref p3, .int 1]) = H4 at s4 hP4 hD4 ⊢
    clear hp4 hP3 hD3 s23
    refine ⟨_, rfl, a, rfl, ⟨_, sqL_same s4 ha⟩, for_it (walk_list (K := K) (a := a) (xs := fs.map V.int))
      (fun i σ H' => ∃ (D L : Addr) (u5 : Option V) (F P : List Int), σ = [some (.ref a), some (.int q), some (.ref D), some (.ref L), some (.int (q ^ i)), u5, none, none] ∧ Same H H' ∧ H' D = some (.lst (F.map V.int)) ∧ H' L = some (.lst (P.map V.int)) ∧
        AddAt q fs i F P ∧ (∀ c ∈ F, c.natAbs < 2 ^ (300 + i)) ∧ (∀ c ∈ P, c.natAbs < 2 ^ (1 + 25 * i)))
      ⟨D, p3, none, _, _, by rw [Int.pow_zero]; rfl, s4, hD4, hP4, AddAt.zero q fs, fun c hc => ?_, fun c hc => ?_⟩ (fun i σ H' _ ⟨_, _, _, _, _, _, e, _⟩ => sqL_same e ha) ?_ ?_⟩
    · rw [List.eq_of_mem_replicate hc]
      exact Nat.pow_pos (by decide)
    · rw [List.mem_singleton.mp hc]
      decide
    · clear hP4 hD4 s4
      rintro i v _ _ H' hi' ⟨D, L, u5, F, P, rfl, e, hD, hL, A0, bF, bP⟩ ⟨rfl, hv⟩
      obtain ⟨c, hc, rfl⟩ := int_at hv
      have hil : i < fs.length := (List.getElem?_eq_some_iff.mp hc).1
      have i8 : i < 8 := by omega
      have cb := hi.b c (List.mem_of_getElem? hc)
      have lF := A0.lF
      have lP := A0.lP
      refine ⟨_, rfl, _, rfl, line_s (Nat.le_of_ble_eq_true rfl), fun p5 hp5 => ?_⟩
      have t1 := same_upd (o := .lst [.int 0]) hp5
      refine ⟨_, rfl, D, _, rfl, .inl (SqL.of (t1 _ _ hD)), p5, _, _, rfl, rfl, upd_same, by rw [List.length_map]; omega, by rw [List.length_map]; omega, ?_, fun p6 hp6 => ?_⟩
      · simp only [List.length_map, List.length_cons, List.length_nil]
        exact Nat.le_of_lt (line_le (by omega))
      rw [zeros_flat (n := F.length) (by rw [List.length_map]; omega)]
      have t2 := t1.trans (same_upd (o := .lst ((List.replicate F.length (0 : Int)).map V.int)) hp6)
      have h6 : (upd (upd H' p5 (.lst [.int 0])) p6 (.lst ((List.replicate F.length (0 : Int)).map V.int))) p6 = some (.lst ((List.replicate F.length (0 : Int)).map V.int)) := upd_same
      generalize upd (upd H' p5 (.lst [.int 0])) p6 (.lst ((List.replicate F.length (0 : Int)).map V.int)) = H5 at t2 h6
      clear t1 hp5 hp6
      refine ⟨L, p6, _, _, rfl, rfl, t2 _ _ hL, h6, ?_, fun p7 hp7 => ?_⟩
      · simp only [List.length_map, List.length_replicate]
        exact Nat.le_of_lt (line_le (by omega))
      rw [← List.map_append]
      have t3 := t2.trans (same_upd (o := .lst ((P ++ List.replicate F.length 0).map V.int)) hp7)
      have h7 : (upd H5 p7 (.lst ((P ++ List.replicate F.length 0).map V.int))) p7 = some (.lst ((P ++ List.replicate F.length 0).map V.int)) := upd_same
      generalize upd H5 p7 (.lst ((P ++ List.replicate F.length 0).map V.int)) = H6 at t3 h7
      clear t2 h6 hp7
      have hD6 := t3 _ _ hD
      have hL6 := t3 _ _ hL
      refine ⟨D, p7, _, _, rfl, .inl ⟨SqL.of hD6, SqL.of h7, fun D2 hD2 => ?_⟩⟩
      have pw := pw_small q0 q5 i
      have pw' : (q ^ i).natAbs < 2 ^ 25 := Nat.lt_of_le_of_lt pw (Nat.pow_lt_pow_right (by decide) (by omega))
      have bA : ∀ x ∈ P ++ List.replicate F.length 0, x.natAbs < 2 ^ 210 := fun x hx => (List.mem_append.mp hx).elim
        (fun h => Nat.lt_of_lt_of_le (bP x h) (Nat.pow_le_pow_right (by decide) (by omega))) (fun h => by rw [List.eq_of_mem_replicate h]; exact Nat.pow_pos (by decide))
      refine lc_it (walk_zip (K := K) (a := D) (b := p7) (xs := F.map V.int) (ys := (P ++ List.replicate F.length 0).map V.int) rfl)
        (fun j G => Same H6 G ∧ G D2 = some (.lst (((stepF c F P).take j).map V.int))) ⟨same_upd hD2, by rw [upd_same]; simp⟩
        (fun j G _ ⟨e, _⟩ => ⟨SqL.of (e _ _ hD6), SqL.of (e _ _ h7)⟩) ?_ ?_
      · rintro j v G G' hj ⟨e, hacc⟩ ⟨T0, x, y, rfl, hT0, rfl, hx, hy⟩
        obtain ⟨u, hu, rfl⟩ := int_at hx
        obtain ⟨d, hd, rfl⟩ := int_at hy
        refine ⟨T0, _, rfl, SqT.of upd_same, rfl, _, _, rfl, _, _, rfl, rfl, rfl, ?_⟩
        refine ⟨_, rfl, _, rfl, _, rfl, _, _, rfl, rfl, wide_mul (Nat.lt_of_le_of_lt cb (by decide : 2 ^ 60 < 2 ^ 61)) (bA d (List.mem_of_getElem? hd)) (by decide) (by decide) (by decide), _, _, rfl, rfl, _, (upd_ne (ne_of_none hacc hT0)).trans hacc, ?_, ?_, ?_⟩
        · rw [List.length_map, List.length_take, stepF_len]
          exact line_le (by omega)
        · exact same_set hD2 (e.trans (same_upd hT0))
        · rw [upd_same, List.take_add_one]
          unfold stepF
          rw [List.getElem?_zipWith, hu, hd]
          simp
      rintro H7 ⟨e7, hacc⟩
      have ez : ((stepF c F P).take (min (F.map V.int).length ((P ++ List.replicate F.length 0).map V.int).length)) = stepF c F P := by
        refine List.take_of_length_le ?_
        rw [stepF_len]
        simp only [List.length_map, List.length_append, List.length_replicate]
        omega
      rw [ez] at hacc
      have hL7 := e7 _ _ hL6
      have t7 := t3.trans e7
      clear ez hD6 hL6 h7 bA t3 e7 hD2
      refine ⟨line_s (Nat.le_of_ble_eq_true rfl), fun p8 hp8 => ?_⟩
      have t8 := t7.trans (same_upd (o := .lst [.int 0]) hp8)
      have hL8 := same_upd (o := .lst [.int 0]) hp8 _ _ hL7
      have hA8 := same_upd (o := .lst [.int 0]) hp8 _ _ hacc
      have h8 : (upd H7 p8 (.lst [.int 0])) p8 = some (.lst (([0] : List Int).map V.int)) := upd_same
      generalize upd H7 p8 (.lst [.int 0]) = H8 at t8 hL8 hA8 h8 ⊢
      clear hp8 hacc hL7 t7
      refine ⟨_, rfl, p8, L, _, _, rfl, rfl, h8, hL8, ?_, fun p9 hp9 => ?_⟩
      · simp only [List.length_map, List.length_cons, List.length_nil]
        exact Nat.le_of_lt (line_le (by omega))
      rw [← List.map_append]
      have t9 := t8.trans (same_upd (o := .lst (([0] ++ P).map V.int)) hp9)
      have hL9 := same_upd (o := .lst (([0] ++ P).map V.int)) hp9 _ _ hL8
      have hA9 := same_upd (o := .lst (([0] ++ P).map V.int)) hp9 _ _ hA8
      have h9 : (upd H8 p9 (.lst (([0] ++ P).map V.int))) p9 = some (.lst ((0 :: P).map V.int)) := upd_same
      generalize upd H8 p9 (.lst (([0] ++ P).map V.int)) = H9 at t9 hL9 hA9 h9 ⊢
      clear hp9 h8 hA8 hL8 t8
      refine ⟨_, rfl, line_s (Nat.le_of_ble_eq_true rfl), fun p10 hp10 => ?_⟩
      have t10 := t9.trans (same_upd (o := .lst [.int 0]) hp10)
      have hL10 := same_upd (o := .lst [.int 0]) hp10 _ _ hL9
      have hA10 := same_upd (o := .lst [.int 0]) hp10 _ _ hA9
      have h9' := same_upd (o := .lst [.int 0]) hp10 _ _ h9
      have h10 : (upd H9 p10 (.lst [.int 0])) p10 = some (.lst (([0] : List Int).map V.int)) := upd_same
      generalize upd H9 p10 (.lst [.int 0]) = H10 at t10 hL10 hA10 h9' h10 ⊢
      clear hp10 h9 hA9 hL9 t9
      refine ⟨L, p10, _, _, rfl, rfl, hL10, h10, ?_, fun p11 hp11 => ?_⟩
      · simp only [List.length_map, List.length_cons, List.length_nil]
        exact Nat.le_of_lt (line_le (by omega))
      rw [← List.map_append]
      have t11 := t10.trans (same_upd (o := .lst ((P ++ [0]).map V.int)) hp11)
      have hA11 := same_upd (o := .lst ((P ++ [0]).map V.int)) hp11 _ _ hA10
      have h9'' := same_upd (o := .lst ((P ++ [0]).map V.int)) hp11 _ _ h9'
      have h11 : (upd H10 p11 (.lst ((P ++ [0]).map V.int))) p11 = some (.lst ((P ++ [0]).map V.int)) := upd_same
      generalize upd H10 p11 (.lst ((P ++ [0]).map V.int)) = H11 at t11 hA11 h9'' h11 ⊢
      clear hp11 h10 h9' hA10 hL10 t10
      refine ⟨p9, p11, _, _, rfl, .inl ⟨SqL.of h9'', SqL.of h11, fun D3 hD3 => ?_⟩⟩
      have bB : ∀ x ∈ P ++ [0], x.natAbs < 2 ^ 210 := fun x hx => (List.mem_append.mp hx).elim
        (fun h => Nat.lt_of_lt_of_le (bP x h) (Nat.pow_le_pow_right (by decide) (by omega))) (fun h => by rw [List.mem_singleton.mp h]; exact Nat.pow_pos (by decide))
      refine lc_it (walk_zip (K := K) (a := p9) (b := p11) (xs := (0 :: P).map V.int) (ys := (P ++ [0]).map V.int) rfl)
        (fun j G => Same H11 G ∧ G D3 = some (.lst (((stepP (q ^ i) P).take j).map V.int))) ⟨same_upd hD3, by rw [upd_same]; simp⟩
        (fun j G _ ⟨e, _⟩ => ⟨SqL.of (e _ _ h9''), SqL.of (e _ _ h11)⟩) ?_ ?_
      · rintro j v G G' hj ⟨e, hacc⟩ ⟨T0, x, y, rfl, hT0, rfl, hx, hy⟩
        obtain ⟨u, hu, rfl⟩ := int_at hx
        obtain ⟨d, hd, rfl⟩ := int_at hy
        refine ⟨T0, _, rfl, SqT.of upd_same, rfl, _, _, rfl, _, _, rfl, rfl, rfl, ?_⟩
        refine ⟨_, rfl, _, rfl, _, rfl, _, _, rfl, rfl, wide_mul pw' (bB d (List.mem_of_getElem? hd)) (by decide) (by decide) (by decide), _, _, rfl, rfl, _, (upd_ne (ne_of_none hacc hT0)).trans hacc, ?_, ?_, ?_⟩
        · rw [List.length_map, List.length_take, stepP_len]
          exact line_le (by omega)
        · exact same_set hD3 (e.trans (same_upd hT0))
        · rw [upd_same, List.take_add_one]
          unfold stepP
          rw [List.getElem?_zipWith, hu, hd]
          simp
      rintro H12 ⟨e12, hacc⟩
      have ez : ((stepP (q ^ i) P).take (min ((0 :: P).map V.int).length ((P ++ [0]).map V.int).length)) = stepP (q ^ i) P := by
        refine List.take_of_length_le ?_
        rw [stepP_len]
        simp only [List.length_map, List.length_append, List.length_cons, List.length_nil]
        omega
      rw [ez] at hacc
      have hA12 := e12 _ _ hA11
      refine ⟨_, rfl, _, rfl, _, _, rfl, rfl, wide_mul pw' (b := 3) (by omega) (by decide) (by decide) (by decide), ?_⟩
      refine ⟨D2, D3, some (.int c), _, _, ?_, e.trans (t11.trans e12), hA12, hacc, A0.next hc, ?_, ?_⟩
      · rw [Int.pow_succ]
        rfl
      · have z := stepF_bits (c := c) (a := 300 + i) (b := 1 + 25 * i) (d := 60) cb bF bP (by omega)
        exact z
      · intro x hx
        have z := stepP_bits (b := 1 + 25 * i) (d := 3 * i) pw bP x hx
        exact Nat.lt_of_lt_of_le z (Nat.pow_le_pow_right (by decide) (by omega))
    · rintro _ H' ⟨D, L, u5, F, P, rfl, e, hD, hL, A0, bF, bP⟩
      rw [List.length_map] at A0 bF bP
      obtain ⟨gs, c, ec, c0⟩ := hi.e
      obtain ⟨pF, eF⟩ := A0.done ec c0
      refine ⟨_, rfl, D, _, rfl, .inl ⟨SqL.of hD, fun p4 hp4 => ?_⟩⟩
      exact k _ _ _ (e.trans (same_upd hp4)) ⟨p4, rfl, SqT.of upd_same⟩ A0.lF pF eF fun c hc => Nat.lt_of_lt_of_le (bF c hc) (Nat.pow_le_pow_right (by decide) (by omega))
end
end K28
end
section
set_option maxRecDepth 100000
set_option maxHeartbeats 4000000
set_option exponentiation.threshold 70000
namespace K28
open PySem PySem.Spec PyProof.Rows L2 MB PM
open LamX hiding takes0
section
variable {w : World} {K : PySem.W.Frag} {mg : Str → Option Value} {base : Heap}
def spSpaces (K : PySem.W.Frag) : Sp := fun vs H Q _ => ∃ (k : Nat) (q : Int), vs = [.int (k : Int), .int q] ∧ LetQ q ∧ k ≤ 20 ∧
  ∀ z H', Same H H' → TI K H' z (spc q k) → Q z H'
theorem ok__law_spaces (T : Txt K mg) : FnOk P w K mg base CX0 1 T.a__law_spaces T.d__law_spaces P__law_spaces (spSpaces K) := by
  refine T.F__law_spaces.ok sc__law_spaces (fun vs H Q E h => ?_) (fun cdv A outer s H vs Q E hr h => ?_)
  · obtain ⟨k, q, rfl, _⟩ := h
    rfl
  · obtain ⟨k, q, rfl, hq, hk, go⟩ := h
    refine ⟨_, 
      (pss_cons (ps_set (i := 2) sc__law_spaces.nd rfl (Or.inl rfl) (pe_lst (pa_cons pe_int pa_nil)))
      (pss_cons (ps_for PassesOwn.never rfl (pi_range1 rfl T.m_range (pa_cons (pv 0) pa_nil)) (pg_name (i := 3) sc__law_spaces.nd rfl (Or.inl rfl)) (pss_cons (ps_par (i := 4) (j := 5) (by rfl) sc__law_spaces.nd rfl rfl (by decide) rfl rfl (pa_cons pe_int (pa_cons (pe_lst pa_nil) pa_nil)) (by rfl))
      (pss_cons (ps_for PassesOwn.never rfl (RZ.pi_zipA (by rfl) T.m_zip (pa_cons (pe_op op_cat (pe_lst (pa_cons pe_int pa_nil)) (pv 2)) (pa_cons (pe_op op_cat (pv 2) (pe_lst (pa_cons pe_int pa_nil))) pa_nil))) (pg_tup rfl (pgs_cons (pg_name (i := 6) sc__law_spaces.nd rfl (Or.inl rfl)) (pgs_cons (pg_name (i := 7) sc__law_spaces.nd rfl (Or.inl rfl)) pgs_nil))) (pss_cons (ps_expr (pe_bm PySem.F.plainAttrs_list PySem.F.slot_list_append PySem.F.type_list_append mt_append (pv 5) (pa_cons (pe_op op_add (pv 6) (pe_op op_mulW (pv 4) (pv 7))) pa_nil)))
      (pss_one (ps_set (i := 4) sc__law_spaces.nd rfl (Or.inl rfl) (pe_op op_mulW (pv 4) (pv 1))))))
      (pss_one (ps_set (i := 2) sc__law_spaces.nd rfl (Or.inl rfl) (pv 5))))))
      (pss_one (ps_ret (pe_callTy call_tuple_of (by rfl) T.m_tuple (by decide +kernel) (pa_cons (pv 2) pa_nil)))))), ?_⟩
    have q0 : 0 ≤ q := by have := hq.lo; omega
    have q5 := hq.hi
    refine ⟨line_s (Nat.le_of_ble_eq_true rfl), fun p hp => ?_⟩
    have s1 := same_upd (o := .lst [.int 1]) hp
    have h1 : (upd H p (.lst [.int 1])) p = some (.lst ((spc q 0).map V.int)) := upd_same
    refine ⟨_, rfl, _, rfl, by omega, by omega, for_range (lo := 0) (n := (k : Int).toNat)
      (fun i σ H' => ∃ (R : Addr) (u3 u4 u5 u6 u7 : Option V), σ = [some (.int (k : Int)), some (.int q), some (.ref R), u3, u4, u5, u6, u7] ∧ Same H H' ∧ H' R = some (.lst ((spc q i).map V.int)))
      ⟨p, none, none, none, none, none, rfl, s1, h1⟩ ?_ ?_⟩
    · clear s1 h1 hp
      rintro i _ H' hi ⟨R, u3, u4, u5, u6, u7, rfl, e, hR⟩
      rw [Int.toNat_natCast] at hi
      refine ⟨line_s (Nat.zero_le _), fun M hM => ?_⟩
      have lr := spc_len q i
      have t1 := same_upd (o := .lst []) hM
      have hR1 := t1 _ _ hR
      have hM1 : (upd H' M (.lst [])) M = some (.lst (([] : List Int).map V.int)) := upd_same
      generalize upd H' M (.lst []) = H1 at t1 hR1 hM1 ⊢
      refine ⟨_, _, rfl, line_s (Nat.le_of_ble_eq_true rfl), fun p2 hp2 => ?_⟩
      have t2 := t1.trans (same_upd (o := .lst [.int 0]) hp2)
      have hR2 := same_upd (o := .lst [.int 0]) hp2 _ _ hR1
      have hM2 := same_upd (o := .lst [.int 0]) hp2 _ _ hM1
      have h2 : (upd H1 p2 (.lst [.int 0])) p2 = some (.lst (([0] : List Int).map V.int)) := upd_same
      generalize upd H1 p2 (.lst [.int 0]) = H2 at t2 hR2 hM2 h2 ⊢
      clear t1 hR1 hM1 hp2
      refine ⟨_, rfl, p2, R, _, _, rfl, rfl, h2, hR2, ?_, fun p3 hp3 => ?_⟩
      · simp only [List.length_map, List.length_cons, List.length_nil]
        exact Nat.le_of_lt (line_le (by omega))
      rw [← List.map_append]
      have n3 : p3 ≠ M := (ne_of_none hM2 hp3).symm
      have t3 := t2.trans (same_upd (o := .lst (([0] ++ spc q i).map V.int)) hp3)
      have hR3 := same_upd (o := .lst (([0] ++ spc q i).map V.int)) hp3 _ _ hR2
      have hM3 := same_upd (o := .lst (([0] ++ spc q i).map V.int)) hp3 _ _ hM2
      have h3 : (upd H2 p3 (.lst (([0] ++ spc q i).map V.int))) p3 = some (.lst ((0 :: spc q i).map V.int)) := upd_same
      generalize upd H2 p3 (.lst (([0] ++ spc q i).map V.int)) = H3 at t3 hR3 hM3 h3 ⊢
      clear t2 hR2 hM2 hp3 h2
      refine ⟨_, rfl, line_s (Nat.le_of_ble_eq_true rfl), fun p4 hp4 => ?_⟩
      have t4 := t3.trans (same_upd (o := .lst [.int 0]) hp4)
      have hR4 := same_upd (o := .lst [.int 0]) hp4 _ _ hR3
      have hM4 := same_upd (o := .lst [.int 0]) hp4 _ _ hM3
      have h3' := same_upd (o := .lst [.int 0]) hp4 _ _ h3
      have h4 : (upd H3 p4 (.lst [.int 0])) p4 = some (.lst (([0] : List Int).map V.int)) := upd_same
      generalize upd H3 p4 (.lst [.int 0]) = H4 at t4 hR4 hM4 h3' h4 ⊢
      clear t3 hR3 hM3 hp4 h3
      refine ⟨R, p4, _, _, rfl, rfl, hR4, h4, ?_, fun p5 hp5 => ?_⟩
      · simp only [List.length_map, List.length_cons, List.length_nil]
        exact Nat.le_of_lt (line_le (by omega))
      rw [← List.map_append]
      have n5 : p5 ≠ M := (ne_of_none hM4 hp5).symm
      have t5 := t4.trans (same_upd (o := .lst ((spc q i ++ [0]).map V.int)) hp5)
      have hM5 := same_upd (o := .lst ((spc q i ++ [0]).map V.int)) hp5 _ _ hM4
      have h3'' := same_upd (o := .lst ((spc q i ++ [0]).map V.int)) hp5 _ _ h3'
      have h5 : (upd H4 p5 (.lst ((spc q i ++ [0]).map V.int))) p5 = some (.lst ((spc q i ++ [0]).map V.int)) := upd_same
      generalize upd H4 p5 (.lst ((spc q i ++ [0]).map V.int)) = H5 at t5 hM5 h3'' h5 ⊢
      clear t4 hR4 hM4 hp5 h3' h4
      have bB : ∀ x ∈ spc q i ++ [0], x.natAbs < 2 ^ 1300 := fun x hx => (List.mem_append.mp hx).elim
        (fun h => Nat.lt_of_lt_of_le (spc_bits q0 q5 i (by omega) x h) (Nat.pow_le_pow_right (by decide) (by omega))) (fun h => by rw [List.mem_singleton.mp h]; exact Nat.pow_pos (by decide))
      have lu : (upc q 0 0 (spc q i)).length = i + 2 := by rw [upc_len, lr]
      refine ⟨p3, p5, _, _, rfl, .inl ⟨SqL.of h3'', SqL.of h5, for_it (walk_zip (K := K) (a := p3) (b := p5) (xs := (0 :: spc q i).map V.int) (ys := (spc q i ++ [0]).map V.int) rfl)
        (fun j σ G => ∃ u6 u7 : Option V, σ = [some (.int (k : Int)), some (.int q), some (.ref R), some (.int (0 + (i : Int))), some (.int (q ^ j)), some (.ref M), u6, u7] ∧ Same H' G ∧
          G p3 = some (.lst ((0 :: spc q i).map V.int)) ∧ G p5 = some (.lst ((spc q i ++ [0]).map V.int)) ∧ G M = some (.lst (((upc q 0 0 (spc q i)).take j).map V.int)))
        ⟨u6, u7, by rw [Int.pow_zero]; rfl, t5, h3'', h5, hM5⟩ (fun j σ G _ ⟨_, _, _, _, e1, e2, _⟩ => ⟨SqL.of e1, SqL.of e2⟩) ?_ ?_⟩⟩
      · rintro j v _ G G' hj ⟨u6, u7, rfl, e1, g3, g5, gM⟩ ⟨T0, x, y, rfl, hT0, rfl, hx, hy⟩
        obtain ⟨u, hu, rfl⟩ := int_at hx
        obtain ⟨d, hd, rfl⟩ := int_at hy
        have hji : j < i + 2 := by
          have z := (List.getElem?_eq_some_iff.mp hd).1
          rw [List.length_append, lr] at z
          exact z
        have hup := upc_at q (spc q i) 0 0 j u d hu hd
        have pw := pw_small q0 q5 j
        have pw' : (q ^ j).natAbs < 2 ^ 70 := Nat.lt_of_le_of_lt pw (Nat.pow_lt_pow_right (by decide) (by omega))
        have f3 := (upd_ne (o := .tup [.int u, .int d]) (ne_of_none g3 hT0)).trans g3
        have f5 := (upd_ne (o := .tup [.int u, .int d]) (ne_of_none g5 hT0)).trans g5
        have fM := (upd_ne (o := .tup [.int u, .int d]) (ne_of_none gM hT0)).trans gM
        refine ⟨T0, _, rfl, SqT.of upd_same, rfl, _, _, rfl, _, _, rfl, rfl, ?_⟩
        refine ⟨_, rfl, .inl ⟨rfl, _, SqL.of fM⟩, _, rfl, _, rfl, _, rfl, _, _, rfl, rfl, wide_mul pw' (bB d (List.mem_of_getElem? hd)) (by decide) (by decide) (by decide), _, _, rfl, rfl, M, _, _, rfl, rfl, fM, ?_, ?_⟩
        · rw [List.length_map, List.length_take]
          exact line_le (by omega)
        refine ⟨_, rfl, _, rfl, _, _, rfl, rfl, wide_mul pw' (b := 3) (by omega) (by decide) (by decide) (by decide), ?_⟩
        refine ⟨some (.int u), some (.int d), ?_, same_set hM (e1.trans (same_upd hT0)), (upd_ne n3).trans f3, (upd_ne n5).trans f5, ?_⟩
        · rw [Int.pow_succ]
          rfl
        · rw [upd_same, List.take_add_one, hup, List.map_append, Nat.zero_add]
          rfl
      · rintro _ G ⟨u6, u7, rfl, e1, g3, g5, gM⟩
        have ez : ((upc q 0 0 (spc q i)).take (min ((0 :: spc q i).map V.int).length ((spc q i ++ [0]).map V.int).length)) = spc q (i + 1) := by
          refine List.take_of_length_le ?_
          rw [lu]
          simp only [List.length_map, List.length_append, List.length_cons, List.length_nil]
          omega
        rw [ez] at gM
        exact ⟨_, rfl, M, _, _, _, _, _, rfl, e.trans e1, gM⟩
    · rintro _ H' ⟨R, u3, u4, u5, u6, u7, rfl, e, hR⟩
      rw [Int.toNat_natCast] at hR
      refine ⟨_, rfl, R, _, rfl, .inl ⟨SqL.of hR, fun p4 hp4 => ?_⟩⟩
      exact go _ _ (e.trans (same_upd hp4)) ⟨p4, rfl, SqT.of upd_same⟩
end
end K28
end
section
set_option maxRecDepth 100000
namespace MB
open PySem PySem.Spec PyProof.Rows L2
theorem nat_len_pos (n : Nat) : 1 ≤ (toString n).length := Nat.length_repr_pos
theorem small_of_len {i : Int} {k : Nat} (hk : 0 < k) (h : (toString i).length ≤ k) : i.natAbs < 10 ^ k := by
  cases i with
  | ofNat n =>
    have h1 : (toString n).length ≤ k := h
    exact (Nat.length_repr_le_iff hk).mp h1
  | negSucc n =>
    have e : toString (Int.negSucc n) = "-" ++ toString (n + 1) := rfl
    rw [e, String.length_append] at h
    have h1 : (toString (n + 1)).length ≤ k := by omega
    have := (Nat.length_repr_le_iff hk).mp h1
    show n + 1 < 10 ^ k
    exact this
theorem int_len1 {i : Int} (h : (toString i).length ≤ 1) : 0 ≤ i ∧ i ≤ 9 := by
  have h1 := small_of_len (by decide) h
  cases i with
  | ofNat n =>
    have : n < 10 ^ 1 := h1
    constructor
    · exact Int.natCast_nonneg n
    · show ((n : Nat) : Int) ≤ 9
      omega
  | negSucc n =>
    exfalso
    have e : toString (Int.negSucc n) = "-" ++ toString (n + 1) := rfl
    rw [e, String.length_append] at h
    have := nat_len_pos (n + 1)
    have e1 : ("-" : String).length = 1 := rfl
    omega
theorem shown_len {d : PyData} (h : d.shown.length ≤ 1) : ∃ i : Int, d = .int i ∧ 0 ≤ i ∧ i ≤ 9 := by
  cases d with
  | none => exact absurd h (by decide)
  | bool b => cases b <;> exact absurd h (by decide)
  | int i =>
    refine ⟨i, rfl, int_len1 ?_⟩
    have e : (PyData.shown (.int i)).length = (toString i).length := by
      rw [← PySem.ofString_length]
      rfl
    omega
  | str x =>
    have e := PySem.StrLaws.reprText_ge2 x
    simp only [PyData.shown] at h
    omega
  | list xs =>
    simp only [PyData.shown] at h
    have hX : (listText (PyData.shownAll xs)).length = (textFrom 0 "[" (PyData.shownAll xs)).length + 1 := by
      show (textFrom 0 "[" (PyData.shownAll xs) ++ "]").length = _
      rw [strLen_append]; rfl
    have h3 := (textFrom_len (PyData.shownAll xs) 0 "[").2.2
    have e1 : (("[" : String) : Str).length = 1 := rfl
    omega
  | tuple xs =>
    simp only [PyData.shown] at h
    unfold tupleText at h
    rw [strLen_append, strLen_append] at h
    have e1 : (("(" : String) : Str).length = 1 := rfl
    split at h
    · have e2 : ((",)" : String) : Str).length = 2 := rfl
      omega
    · have e2 : ((")" : String) : Str).length = 1 := rfl
      omega
  | dict kvs =>
    simp only [PyData.shown] at h
    unfold dictText at h
    rw [strLen_append, strLen_append] at h
    have e1 : (("{" : String) : Str).length = 1 := rfl
    have e2 : (("}" : String) : Str).length = 1 := rfl
    omega
theorem shown_q (d : PyData) : d.shown ∈ [("2" : Str), "3", "4", "5"] ↔ ∃ q : Int, d = .int q ∧ 2 ≤ q ∧ q ≤ 5 := by
  constructor
  · intro h
    have hl : d.shown.length ≤ 1 := by
      simp only [List.mem_cons, List.not_mem_nil, or_false] at h
      rcases h with e | e | e | e <;> rw [e] <;> decide
    obtain ⟨i, rfl, h0, h9⟩ := shown_len hl
    refine ⟨i, rfl, ?_⟩
    obtain ⟨n, rfl⟩ : ∃ n : Nat, i = (n : Int) := ⟨i.toNat, by omega⟩
    have h9' : n ≤ 9 := by omega
    match n, h9', h with
    | 0, _, h => exact absurd h (by decide)
    | 1, _, h => exact absurd h (by decide)
    | 2, _, _ => exact ⟨by decide, by decide⟩
    | 3, _, _ => exact ⟨by decide, by decide⟩
    | 4, _, _ => exact ⟨by decide, by decide⟩
    | 5, _, _ => exact ⟨by decide, by decide⟩
    | 6, _, h => exact absurd h (by decide)
    | 7, _, h => exact absurd h (by decide)
    | 8, _, h => exact absurd h (by decide)
    | 9, _, h => exact absurd h (by decide)
    | n + 10, h1, _ => exact absurd h1 (by omega)
  · rintro ⟨q, rfl, h0, h9⟩
    obtain ⟨n, rfl⟩ : ∃ n : Nat, q = (n : Int) := ⟨q.toNat, by omega⟩
    match n, h0, h9 with
    | 2, _, _ => decide
    | 3, _, _ => decide
    | 4, _, _ => decide
    | 5, _, _ => decide
    | 0, h, _ => exact absurd h (by decide)
    | 1, h, _ => exact absurd h (by decide)
    | n + 6, _, h => exact absurd h (by omega)
end MB
end
section
set_option maxRecDepth 100000
set_option maxHeartbeats 4000000
set_option exponentiation.threshold 70000
namespace K28
open PySem PySem.Spec PyProof.Rows L2 MB PM
open LamX hiding takes0
theorem meets_of {K : PySem.W.Frag} {C S : Addr} {r : Bool} (te : PySem.W.exmOne K (.ref S) (.ref S) = some true) (h : PySem.W.subIn K (.ref C) (.ref S) = some r) : PySem.W.exmOne K (.ref C) (.ref S) = some r := by
  have te' : (if (PySem.W.subIn K (.ref S) (.type "BaseException") == some true) = true then (if ((PySem.W.clsIn K S).isSome && PySem.W.typeIn K (.ref S) == some (.type "type")) = true then PySem.W.subIn K (.ref S) (.ref S) else none) else none) = some true := te
  show (if (PySem.W.subIn K (.ref S) (.type "BaseException") == some true) = true then (if ((PySem.W.clsIn K S).isSome && PySem.W.typeIn K (.ref S) == some (.type "type")) = true then PySem.W.subIn K (.ref C) (.ref S) else none) else none) = some r
  split at te'
  · rename_i h1
    rw [if_pos h1]
    split at te'
    · rename_i h2
      rw [if_pos h2]
      exact h
    · cases te'
  · cases te'
section
variable {w : World} {K : PySem.W.Frag} {mg : Str → Option Value} {base : Heap}
def Cls (T : Txt K mg) (C : Addr) (wd : Str) : Prop := (C = T.C_BadField ∧ wd = "field") ∨ (C = T.C_BadPolynomial ∧ wd = "polynomial")
def ETold (T : Txt K mg) (Q : VK) : XK := fun cls d H' => ∃ (C dx : Addr) (v : V) (wd : Str), Cls T C wd ∧ cls = .ref C ∧ d = some dx ∧ H' dx = some (.xd [("thing", v)]) ∧
  ∀ p, H' p = none → Q (.ref p) (upd H' p (.tup [.str wd, v]))
def QT (Q : VK) : VK := fun v H' => ∃ u : V, some (some v) = some (some u) ∧ [V.str "told", u].length ≤ sizeLine ∧ ∀ p, H' p = none → Q (.ref p) (upd H' p (.tup [.str "told", u]))
def TTold (T : Txt K mg) : (XK → Hp → VK → Prop) → Hp → VK → Prop := fun tl H Q => tl (ETold T Q) H (QT Q)
theorem gives__law_refused (T : Txt K mg) {CX : CXT} {N' : List Str} {qual q : Str} {scope : Scope} {f : Addr} {cd : Value} {A : Around} {outer : List Env} {s : Shared} {H : Hp} {E : XK} {cdg : Value} :
    GivesTo (cxOf CX P w K mg base N' qual scope f cd A outer s H E).nox N__law_refused "_law_refused" (defScope s__law_refused) T.a__law_refused cdg (defBody s__law_refused) "_law_call" q (TTold T) := by
  intro f c' s H Q tl act hc h
  refine ⟨_, 
      (pss_cons (ps_tryMix (Wout := fun _ _ _ _ => False) rfl rfl sc__law_refused.nd takes0 (fun W pn xe tk pass => (pss_one (ps_set (i := 1) sc__law_refused.nd rfl (Or.inl rfl) (pe_deed 3 (fun W E p1 p2 tk hW => act W _ _ E p1 p2 tk hW) tk)))) (.named (i := 2) ⟨rfl, by decide, Or.inl T.e_BadField.gC⟩ rfl rfl (fun a oe cls d pn hz hf => (pss_one (ps_ret (pe_tup (pa_cons pe_str (pa_cons (pe_xf T.e_BadField.xf T.e_BadField.noF hz hf (pv 2)) pa_nil)))))) (.named (i := 2) ⟨rfl, by decide, Or.inl T.e_BadPolynomial.gC⟩ rfl rfl (fun a oe cls d pn hz hf => (pss_one (ps_ret (pe_tup (pa_cons pe_str (pa_cons (pe_xf T.e_BadPolynomial.xf T.e_BadPolynomial.noF hz hf (pv 2)) pa_nil)))))) (.bare ⟨rfl, by decide, Or.inl T.gB⟩ (fun a oe cls d pn hz hf => (pss_one (ps_ret (pe_tup (pa_cons pe_str (pa_cons pe_non pa_nil)))))) .nil))))
      (pss_one (ps_ret (pe_tup (pa_cons pe_str (pa_cons (pv 1) pa_nil)))))), ?_⟩
  have z2 : (2 : Nat) ≤ sizeLine := line_s (by decide)
  refine ⟨ETold T Q, ?_, rfl, hc, ?_⟩
  · rintro cls d σ' H' ⟨C, dx, v, wd, hC, rfl, rfl, hx, k⟩ hl
    match σ', hl with
    | [x0, x1, x2], _ =>
      rcases hC with ⟨rfl, rfl⟩ | ⟨rfl, rfl⟩
      · refine ⟨true, T.e_BadField.te, fun _ a ha => ?_, fun z => Bool.noConfusion z⟩
        exact ⟨_, rfl, rfl, rfl, dx, _, v, rfl, hx, rfl, z2, fun p hp => k p hp⟩
      · refine ⟨false, meets_of T.e_BadField.te T.x_pf, fun z => Bool.noConfusion z, fun _ => ⟨true, T.e_BadPolynomial.te, fun _ a ha => ?_, fun z => Bool.noConfusion z⟩⟩
        exact ⟨_, rfl, rfl, rfl, dx, _, v, rfl, hx, rfl, z2, fun p hp => k p hp⟩
  · exact h
def BookOk (T : Txt K mg) (H : Hp) (b : Addr) : Prop := ∃ (q n : Int) (Rs : List (List Int)), BookAt K T.C_Book H b q n Rs ∧ Rs.length ≤ 20
theorem BookAt.same {C : Addr} {H H' : Hp} {b : Addr} {q n : Int} {Rs : List (List Int)} (h : BookAt K C H b q n Rs) (e : Same H H') : BookAt K C H' b q n Rs := by
  obtain ⟨dx, fs, z, h1, h2, h3, h4, h5, a, vs, h6, h7, h8⟩ := h
  exact ⟨dx, fs, z, e _ _ h1, h2, h3, h4, h5, a, vs, h6, sqT_same e h7, rows_same e h8⟩
theorem BookOk.same {T : Txt K mg} {H H' : Hp} {b : Addr} (h : BookOk T H b) (e : Same H H') : BookOk T H' b :=
  let ⟨q, n, Rs, h1, h2⟩ := h
  ⟨q, n, Rs, h1.same e, h2⟩
def T3 (T : Txt K mg) : V → V → (Hp → VK → Prop) → Hp → VK → Prop := fun v1 v2 tt H Q => ∃ (b : Addr) (wd : Str), v1 = .str wd ∧ v2 = .ref b ∧
  ∀ k : VK, (∀ p H1, SqT K H1 p [.str wd, .ref b] → BookOk T H1 b → (∀ H2, Same H1 H2 → Q (.bl true) H2) → k (.ref p) H1) → tt H k
theorem gives3__law_is_refused (T : Txt K mg) {CX : CXT} {N' : List Str} {qual q : Str} {scope : Scope} {f : Addr} {cd : Value} {A : Around} {outer : List Env} {s : Shared} {H : Hp} {E : XK} {cdg : Value} :
    GivesTo3 (cxOf CX P w K mg base N' qual scope f cd A outer s H E).nox N__law_is_refused "_law_is_refused" (defScope s__law_is_refused) T.a__law_is_refused cdg (defBody s__law_is_refused) "_law_refused" "_law_call" q (TTold T) (T3 T) := by
  intro f c' s H Q v1 v2 tl hr passing hc h
  obtain ⟨b, wd, rfl, rfl, h⟩ := h
  refine ⟨_, 
      (pss_cons (ps_set (i := 3) sc__law_is_refused.nd rfl (Or.inl rfl) (passing _ _ _))
      (pss_one (ps_ret (pe_and (pe_cmpR op_notN (pv 3) pe_non (nomark _)) (pe_and (pe_cmpR op_eq (pe_ix (r := rIxT K) ix_tup (pv 3) pe_int (fun _ _ => rfl)) (pv 0) (nomark _)) (pe_and (pe_callB (id := "isinstance") (r := rIsi K) call_isi (by rfl) T.m_isinstance (by decide +kernel) (pa_cons (pe_ix (r := rIxT K) ix_tup (pv 3) pe_int (fun _ _ => rfl)) (pa_cons (pe_glob (v := .ref T.C_Book) rfl T.g_Book rfl) pa_nil))) (pe_one (pe_cmpR (op_eqG (rcG_ins (ok_Book___eq__ T) T.eq_Book T.eqf_Book T.b_Book___eq__ pass0) (hr.mono (by decide))) (pe_ix (r := rIxT K) ix_tup (pv 3) pe_int (fun _ _ => rfl)) (pv 1) (nomark _))))))))), ?_⟩
  refine ⟨rfl, hc, ?_⟩
  refine h _ fun p H1 hp hb q => ?_
  refine ⟨_, rfl, rfl, true, rfl, iteT ?_⟩
  refine ⟨_, rfl, p, _, 0, .str wd, rfl, rfl, hp, atI_nat (j := 0) rfl, _, rfl, rfl, ?_⟩
  rw [decide_eq_true rfl]
  refine ⟨true, rfl, iteT ?_⟩
  obtain ⟨qq, n, Rs, hbk, hl⟩ := id hb
  obtain ⟨dx, fs, z, h1, _⟩ := id hbk
  refine ⟨_, rfl, p, _, 1, .ref b, rfl, rfl, hp, atI_nat (j := 1) rfl, _, _, _, _, _, rfl, .own T.C_Book, ty_book T h1, kit_self, true, rfl, iteT ?_⟩
  refine ⟨_, rfl, p, _, 1, .ref b, rfl, rfl, hp, atI_nat (j := 1) rfl, _, rfl, ⟨b, b, dx, dx, fs, fs, rfl, rfl, h1, h1, qq, n, Rs, hbk, hbk, hl⟩, fun H2 e2 => q H2 e2⟩
end
def Keep (G G' : Hp) : Prop := ∀ b o, G b = some o → (∀ xs, o ≠ .lst xs) → (∀ ps, o ≠ .tbl ps) → G' b = some o
theorem Keep.of {G G' : Hp} (e : Same G G') : Keep G G' := fun b o h _ _ => e b o h
theorem Keep.ext {G G' : Hp} (e : ExtN G G') : Keep G G' := fun b o h _ n => e b o h n
theorem Keep.trans {G G' G'' : Hp} (e : Keep G G') (f : Keep G' G'') : Keep G G'' := fun b o h n m => f b o (e b o h n m) n m
theorem Keep.lst {G : Hp} {L : Addr} {xs ys : List V} (h : G L = some (.lst xs)) : Keep G (upd G L (.lst ys)) := fun b o hb n _ => by
  have bL : b ≠ L := ne_of hb h (n _)
  rw [upd_ne bL]
  exact hb
theorem Keep.sqT {K : PySem.W.Frag} {G G' : Hp} {a : Addr} {xs : List V} (e : Keep G G') (h : SqT K G a xs) : SqT K G' a xs := by
  rcases h with (h | ⟨o, h⟩) | h
  · exact .inl (.inl (e _ _ h (by intro xs z; cases z) (by intro xs z; cases z)))
  · exact .inl (.inr ⟨o, e _ _ h (by intro xs z; cases z) (by intro xs z; cases z)⟩)
  · exact .inr h
def Val (K : PySem.W.Frag) (G0 G : Hp) (v : V) (d : PyData) : Prop := Dq K G0 v d ∨ ∃ ns, TI K G v ns ∧ d = .tuple (ns.map PyData.int)
def Rig (K : PySem.W.Frag) (G0 G : Hp) (D : PyData) (z : V) : Prop := ∃ (p : Addr) (wd : Str) (v : V) (d : PyData), z = .ref p ∧ G p = some (.tup [.str wd, v]) ∧ Val K G0 G v d ∧ D = .tuple [.str wd, d]
theorem Val.keep {K : PySem.W.Frag} {G0 G G' : Hp} {v : V} {d : PyData} (e : Keep G G') (h : Val K G0 G v d) : Val K G0 G' v d := by
  rcases h with h | ⟨ns, ⟨a, rfl, ha⟩, h2⟩
  · exact .inl h
  · exact .inr ⟨ns, ⟨a, rfl, e.sqT ha⟩, h2⟩
theorem Rig.keep {K : PySem.W.Frag} {G0 G G' : Hp} {D : PyData} {z : V} (e : Keep G G') (h : Rig K G0 G D z) : Rig K G0 G' D z :=
  let ⟨p, wd, v, d, h1, h2, h3, h4⟩ := h
  ⟨p, wd, v, d, h1, e _ _ h2 (by intro xs z; cases z) (by intro xs z; cases z), h3.keep e, h4⟩
theorem Val.dq {K : PySem.W.Frag} {G0 G : Hp} {v : V} {d : PyData} (e : Same G0 G) (h : Val K G0 G v d) : Dq K G v d := by
  rcases h with h | ⟨ns, ⟨a, rfl, ha⟩, rfl⟩
  · exact Dq.same e _ _ h
  · exact .tup ha (dq_ints ns)
theorem Rig.dq {K : PySem.W.Frag} {G0 G : Hp} {D : PyData} {z : V} (e : Same G0 G) (h : Rig K G0 G D z) : Dq K G z D := by
  obtain ⟨p, wd, v, d, rfl, h2, h3, rfl⟩ := h
  exact .tup (SqT.of h2) (.cons (.str _) (.cons (h3.dq e) .nil))
def rowD (d : PyData) : List Int := ((asInts d).getD []).map (·.getD 0)
theorem rowD_eq {d : PyData} {as : List Int} (h : asInts d = some (as.map some)) : rowD d = as := by
  unfold rowD
  rw [h]
  show (as.map some).map (·.getD 0) = as
  rw [List.map_map]
  exact List.map_id as
theorem ground {H G : Hp} (e : ExtN H G) : Same (noT H) G := (extN_noT e).trans noT_sub
def dueO (dq dp : PyData) : Option PyData := if inFrom 2 5 (asInt dq) = false then some (.tuple [.str "field", dq]) else if polyQ (asInts dp) = false then some (.tuple [.str "polynomial", dp]) else none
def foundD (dq dp : PyData) : List Int := sfound ((asInt dq).getD 0) (rowD dp) (rowD dp).length
def tellD (dq dp : PyData) : PyData := (dueO dq dp).getD (.tuple [.str "told", .tuple ((foundD dq dp).map PyData.int)])
structure PolyB (d : PyData) : Prop where
  b : ∀ ns : List Int, asInts d = some (ns.map some) → ns.length ≤ 26 ∧ nrm ns ≤ 2 ^ 205
  s : ∀ es, d = .tuple es → es.length ≤ 1000
theorem asInts_tup {d : PyData} {ns : List Int} (e : asInts d = some (ns.map some)) : d = .tuple (ns.map PyData.int) := by
  cases d with
  | tuple ds =>
    have hd' : ds.map asInt = ns.map some := Option.some.inj e
    clear e
    congr 1
    induction ds generalizing ns with
    | nil => cases ns with
      | nil => rfl
      | cons c r => cases hd'
    | cons d r ih =>
      cases ns with
      | nil => cases hd'
      | cons c t =>
        rw [List.map_cons, List.map_cons, List.cons.injEq] at hd'
        rw [List.map_cons, ih hd'.2]
        cases d with
        | int i =>
          obtain rfl : i = c := Option.some.inj hd'.1
          rfl
        | _ => cases hd'.1
  | _ => cases e
theorem lv_small : ∀ {ns : List Int}, PyData.leavesShortAll 60 (ns.map PyData.int) = true → ∀ c ∈ ns, c.natAbs ≤ 2 ^ 200
  | [], _ => fun c hc => by cases hc
  | a :: r, h => fun c hc => by
    rw [List.map_cons] at h
    simp only [PyData.leavesShortAll, PyData.leavesShort, Bool.and_eq_true, decide_eq_true_eq] at h
    rcases List.mem_cons.mp hc with rfl | hc
    · have e : (PyData.shown (.int c)).length = (toString c).length := by
        rw [← PySem.ofString_length]
        rfl
      have := small_of_len (k := 60) (by decide) (by rw [← e]; exact h.1)
      exact Nat.le_of_lt (Nat.lt_trans this (by decide +kernel))
    · exact lv_small h.2 c hc
theorem polyB {b k : Nat} {d : PyData} (h : Sz b k d) (hc : Cnt d) : PolyB d where
  b := fun ns e => by
    obtain rfl := asInts_tup e
    have l26 := hc _ rfl
    rw [List.length_map] at l26
    refine ⟨l26, ?_⟩
    have h1 := h.lv
    simp only [PyData.leavesShort] at h1
    have h2 := nrm_len (lv_small h1)
    have h3 : ns.length * 2 ^ 200 ≤ 2 ^ 5 * 2 ^ 200 := Nat.mul_le_mul_right _ (by omega)
    rw [← Nat.pow_add] at h3
    exact Nat.le_trans h2 h3
  s := fun es e => Nat.le_trans (hc es e) (by decide)
theorem dq_lev {K : PySem.W.Frag} {H : Hp} {v : V} {d : PyData} (h : Dq K H v d) (hl : PolyB d) : Lev K H v (asInts d) := by
  cases d with
  | tuple ds =>
    cases h with
    | tup h1 h2 => exact ⟨_, ⟨_, rfl, h1⟩, h2.ints, by rw [h2.length]; exact hl.s _ rfl⟩
  | _ => exact h.noTuple rfl
theorem due_f {dq dp : PyData} (e : inFrom 2 5 (asInt dq) = false) : tellD dq dp = .tuple [.str "field", dq] := by
  unfold tellD dueO
  rw [if_pos e]
  rfl
theorem due_p {dq dp : PyData} (e : inFrom 2 5 (asInt dq) = true) (f : polyQ (asInts dp) = false) : tellD dq dp = .tuple [.str "polynomial", dp] := by
  unfold tellD dueO
  rw [if_neg (by rw [e]; decide), if_pos f]
  rfl
theorem due_n {dq dp : PyData} (e : inFrom 2 5 (asInt dq) = true) (f : polyQ (asInts dp) = true) : dueO dq dp = none := by
  unfold dueO
  rw [if_neg (by rw [e]; decide), if_neg (by rw [f]; decide)]
section
variable {w : World} {K : PySem.W.Frag} {mg : Str → Option Value} {base : Heap}
variable {G0 H1 : Hp} {vq v : V} {dq dp : PyData} {Q : VK}
theorem fly (T : Txt K mg) {C : Addr} {wd : Str} {v : V} {d D : PyData} {H2 : Hp} (hC : Cls T C wd) (s : Same H1 H2) (hv : Dq K G0 v d) (e : D = .tuple [.str wd, d])
    (go : ∀ z H', Same H1 H' → Rig K G0 H' D z → Q z H') : Flies (ETold T Q) C v H2 := fun dx hx =>
  ⟨C, dx, v, wd, hC, rfl, rfl, upd_same, fun p hp => go _ _ (s.trans ((same_upd hx).trans (same_upd hp))) ⟨p, wd, v, d, rfl, upd_same, .inl hv, e⟩⟩
theorem lam_sub (T : Txt K mg) (hq : Dq K G0 vq dq) (h1 : Dq K G0 v dp) (l1 : PolyB dp) (s : Same G0 H1)
    (go : ∀ z H', Same H1 H' → Rig K G0 H' (tellD dq dp) z → Q z H') : spSub K T.C_BadField T.C_BadPolynomial [vq, v] H1 (QT Q) (ETold T Q) := by
  refine ⟨vq, v, asInt dq, asInts dp, rfl, (Dq.same s _ _ hq).int?, dq_lev (Dq.same s _ _ h1) l1, fun e => fly T (.inl ⟨rfl, rfl⟩) (Same.refl _) hq (due_f e) go,
    fun e f H' s' => fly T (.inr ⟨rfl, rfl⟩) s' h1 (due_p e f) go, fun q ns eq lq ens pns => ?_⟩
  obtain ⟨a1, b1⟩ := l1.b ns ens
  refine ⟨by omega, Nat.le_trans b1 (Nat.pow_le_pow_right (by decide) (by decide)), fun z H' s' hz => ⟨_, rfl, line_s (Nat.le_of_ble_eq_true rfl), fun p hp => go _ _ (s'.trans (same_upd hp)) ?_⟩⟩
  refine ⟨p, "told", z, _, rfl, upd_same, .inr ⟨_, hz.same (same_upd hp), rfl⟩, ?_⟩
  have e0 : dueO dq dp = none := due_n (by rw [eq]; exact from_fld lq) (by rw [ens, polyQ_ints]; exact pns)
  unfold tellD foundD
  rw [e0, eq, rowD_eq ens]
  rfl
end
end K28
end
section
set_option maxRecDepth 100000
set_option maxHeartbeats 8000000
set_option exponentiation.threshold 70000
namespace K28
open PySem PySem.Spec PyProof.Rows L2 MB PM
open LamX hiding takes0
section
variable {w : World} {K : PySem.W.Frag} {mg : Str → Option Value} {base : Heap}
def qL__law_are_books_refused : Str := (envOfC "_law_are_books_refused" (defScope s__law_are_books_refused) 0 0 .none).qual ++ "<lambda>"
def qL_law : Str := (envOfC "law" (defScope s_law) 0 0 .none).qual ++ "<lambda>"
def TL (T : Txt K mg) : List (Addr × Str) := [(T.tP__law_are_books_refused, qL__law_are_books_refused), (T.tP_law, qL_law)]
theorem hu_all (T : Txt K mg) {p : Addr × Str} (hp : p ∈ TL T) : (p.1 = T.tP__law_are_books_refused → p.2 = qL__law_are_books_refused) ∧ (p.1 = T.tP_law → p.2 = qL_law) := by
  have nd := T.tnd
  simp only [List.nodup_cons, List.mem_cons, List.not_mem_nil, or_false, not_or] at nd
  obtain ⟨a1, _⟩ := nd
  unfold TL at hp
  simp only [List.mem_cons, List.not_mem_nil, or_false] at hp
  rcases hp with rfl | rfl
  · exact ⟨fun _ => rfl, fun h => absurd h a1⟩
  · exact ⟨fun h => absurd h.symm a1, fun _ => rfl⟩
theorem hu__law_are_books_refused (T : Txt K mg) : ∀ p ∈ TL T, p.1 = T.tP__law_are_books_refused → p.2 = qL__law_are_books_refused := fun p hp => (hu_all T hp).1
theorem hu_law (T : Txt K mg) : ∀ p ∈ TL T, p.1 = T.tP_law → p.2 = qL_law := fun p hp => (hu_all T hp).2
theorem rows_noT {H : Hp} {vs : List V} {Rs : List (List Int)} (h : Paired (TI K H) vs Rs) : Paired (TI K (noT H)) vs Rs := by
  induction h with
  | nil => exact .nil
  | cons r _ ih =>
    obtain ⟨a, rfl, ha⟩ := r
    exact .cons ⟨a, rfl, sqT_noT ha⟩ ih
theorem BookOk.noT {T : Txt K mg} {H : Hp} {b : Addr} (h : BookOk T H b) : BookOk T (noT H) b := by
  obtain ⟨q, n, Rs, ⟨dx, fs, z, h1, h2, h3, h4, h5, a, vs, h6, h7, h8⟩, h9⟩ := h
  exact ⟨q, n, Rs, ⟨dx, fs, z, noT_some h1 (by intro ps z; cases z), h2, h3, h4, h5, a, vs, h6, sqT_noT h7, rows_noT h8⟩, h9⟩
theorem BookOk.ext {T : Txt K mg} {H H' : Hp} {b : Addr} (h : BookOk T H b) (e : ExtN H H') : BookOk T H' b := h.noT.same (ground e)
theorem BookOk.lev {T : Txt K mg} {H : Hp} {b : Addr} (h : BookOk T H b) : Lev K H (.ref b) none := by
  obtain ⟨_, _, _, ⟨_, _, _, h1, _⟩, _⟩ := h
  exact ⟨_, ty_book T h1, T.is_Book.nt⟩
theorem BookOk.int {T : Txt K mg} {H : Hp} {b : Addr} (h : BookOk T H b) : IntQ K H (.ref b) none := by
  obtain ⟨_, _, _, ⟨_, _, _, h1, _⟩, _⟩ := h
  exact .inr ⟨_, ty_book T h1, T.is_Book.ni⟩
variable {H1 : Hp} {v1 v2 : V} {Q : VK}
theorem fly1 (T : Txt K mg) {C : Addr} {wd : Str} {v : V} {H2 : Hp} (hC : Cls T C wd) (s : Same H1 H2) (go : ∀ p H', Same H1 H' → SqT K H' p [.str wd, v] → Q (.ref p) H') : Flies (ETold T Q) C v H2 := fun dx hx =>
  ⟨C, dx, v, wd, hC, rfl, rfl, upd_same, fun p hp => go p _ (s.trans ((same_upd hx).trans (same_upd hp))) (SqT.of upd_same)⟩
def spBooksR (T : Txt K mg) : Sp := fun vs H Q _ => ∃ b : Addr, vs = [.ref b] ∧ BookOk T H b ∧ Tabs (TL T) H ∧ ∀ H', ExtN H H' → Tabs (TL T) H' → Q (.bl true) H'
theorem ok__law_are_books_refused (T : Txt K mg) (sm : SM base) (tb__law_are_books_refused : TabB base mg T.c__law_are_books_refused T.tP__law_are_books_refused) : FnG P w K mg base 11 T.a__law_are_books_refused T.d__law_are_books_refused P__law_are_books_refused (spBooksR T) := by
  refine fnGL T.F__law_are_books_refused sc__law_are_books_refused (fun vs H Q E h => ?_) (fun A outer s H vs Q E hr hgu h => ?_)
  · obtain ⟨b, rfl, _⟩ := h
    rfl
  · obtain ⟨b, rfl, hb, hT, k⟩ := h
    refine ⟨_, 
      (pss_cons (ps_if (pt_not (pt_val (pe_tell3 (T := TL T) (k := 5) (c := T.c__law_are_books_refused) (P := T.tP__law_are_books_refused) T.F__law_is_refused T.b__law_is_refused rfl T.m__law_is_refused sc__law_is_refused rfl (Or.inl rfl) T.F__law_refused T.b__law_refused rfl T.m__law_refused sc__law_refused rfl (Or.inl rfl) (fun _ _ _ _ => gives__law_refused T) (fun _ => gives3__law_is_refused T) pe_str (pv 0) tb__law_are_books_refused rfl (.head _) (hu__law_are_books_refused T) (hr.mono (by decide)) (lamS_by (sc := defScope s__law_are_books_refused) (by decide +kernel)) rfl (fun _ _ _ _ _ => rfl)
        (fun A outer s H E f c' hr => (pe_callS (ok_subcounts T) (hr.mono (by decide)) rfl T.m_subcounts T.F_subcounts.kp T.b_subcounts (fun σ => passAt (takes_of rfl rfl rfl rfl) σ) (pa_cons (pv 0) (pa_cons (pv 0) pa_nil))))))) (pss_one (ps_ret pe_bl)) pss_nil)
      (pss_one (ps_ret (pe_tell3 (T := TL T) (k := 5) (c := T.c__law_are_books_refused) (P := T.tP__law_are_books_refused) T.F__law_is_refused T.b__law_is_refused rfl T.m__law_is_refused sc__law_is_refused rfl (Or.inl rfl) T.F__law_refused T.b__law_refused rfl T.m__law_refused sc__law_refused rfl (Or.inl rfl) (fun _ _ _ _ => gives__law_refused T) (fun _ => gives3__law_is_refused T) pe_str (pv 0) tb__law_are_books_refused rfl (.head _) (hu__law_are_books_refused T) (hr.mono (by decide)) (lamS_by (sc := defScope s__law_are_books_refused) (by decide +kernel)) rfl (fun _ _ _ _ _ => rfl)
        (fun A outer s H E f c' hr => (pe_callK0S (ok_subcounts T) (hr.mono (by decide)) rfl T.m_subcounts T.F_subcounts.kp T.q_subcounts_polynomial_q (fun σ => passAt (takes_of rfl rfl rfl rfl) σ) (pk_cons (pv 0) (pk_cons pe_int pk_nil)))))))), ?_⟩
    refine ⟨_, rfl, hT, fun Ha ea Ta => ⟨b, "field", rfl, rfl, fun k' go => ?_⟩⟩
    have hba := hb.ext ea
    refine ⟨_, rfl, _, rfl, .ref b, .ref b, none, none, rfl, hba.int, hba.lev, fun _ => fly1 T (.inl ⟨rfl, rfl⟩) (Same.refl _) fun pz Hb sb hz => go pz Hb hz (hba.same sb) fun Hc sc => ?_, (fun e => by cases e), (fun _ _ e => by cases e)⟩
    refine ⟨true, rfl, iteF ?_⟩
    have e1 := ea.trans (same_extN (sb.trans sc))
    have t1 := Ta.ext (sb.trans sc)
    clear ea Ta hba
    refine ⟨_, rfl, t1, fun Ha ea Ta => ⟨b, "polynomial", rfl, rfl, fun k' go => ?_⟩⟩
    have hba := hb.ext (e1.trans ea)
    refine ⟨_, rfl, .int 2, .ref b, some 2, none, rfl, rfl, hba.lev, (fun e => by cases e), fun _ _ H' s' => fly1 T (.inr ⟨rfl, rfl⟩) s' fun pz Hb sb hz => go pz Hb hz (hba.same sb) fun Hc sc => ?_, (fun _ _ _ _ e => by cases e)⟩
    exact k _ (e1.trans (ea.trans (same_extN (sb.trans sc)))) (Ta.ext (sb.trans sc))
end
end K28
end
section
set_option maxRecDepth 100000
set_option maxHeartbeats 4000000
set_option exponentiation.threshold 70000
namespace K28
open PySem PySem.Spec PyProof.Rows L2 MB PM
open LamX hiding takes0
theorem cat_rd {K : PySem.W.Frag} {H : Hp} {u v : V} {ns ms : List Int} {Q : VK} (hu : TI K H u ns) (hv : TI K H v ms) (hl : ns.length + ms.length ≤ 100000)
    (q : ∀ z H', Same H H' → TI K H' z (ns ++ ms) → Q z H') : rCatA K u v H Q := by
  obtain ⟨a, rfl, ha⟩ := hu
  obtain ⟨b, rfl, hb⟩ := hv
  refine ⟨a, b, _, _, rfl, rfl, ha, hb, by rw [List.length_map, List.length_map]; exact Nat.le_of_lt (line_le hl), fun e => ?_, fun _ e => ?_, fun _ _ p hp => ?_⟩
  · obtain rfl : ns = [] := List.map_eq_nil_iff.mp e
    exact q _ _ (Same.refl _) ⟨b, rfl, hb⟩
  · obtain rfl : ms = [] := List.map_eq_nil_iff.mp e
    refine q _ _ (Same.refl _) ⟨a, rfl, ?_⟩
    rw [List.append_nil]
    exact ha
  · refine q _ _ (same_upd hp) ⟨p, rfl, ?_⟩
    rw [List.map_append]
    exact SqT.of upd_same
theorem rep_rd {K : PySem.W.Frag} {H : Hp} {u : V} {c k : Int} {Q : VK} (hu : TI K H u [c]) (lo : -1000 ≤ k) (hi : k ≤ 1000)
    (q : ∀ z H', Same H H' → TI K H' z (List.replicate k.toNat c) → Q z H') : rRepA K u (.int k) H Q := by
  obtain ⟨a, rfl, ha⟩ := hu
  refine ⟨a, k, _, rfl, rfl, ha, by simp, by omega, by omega, by simp, fun e => ?_, fun e p hp => ?_⟩
  · subst e
    exact q _ _ (Same.refl _) ⟨a, rfl, ha⟩
  · refine q _ _ (same_upd hp) ⟨p, rfl, ?_⟩
    have z : (List.replicate k.toNat ([c].map V.int)).flatten = (List.replicate k.toNat c).map V.int := by
      simp
    rw [← z]
    exact SqT.of upd_same
theorem seq_cut {t u : TS} {D : Ends} {σ : L2.St} {H : Hp} (P : L2.St → Hp → Prop) (h1 : ∀ D' : Ends, (∀ σ' H', P σ' H' → D'.nx σ' H') → t D' σ H) (h2 : ∀ σ' H', P σ' H' → u D σ' H') : tSeq t u D σ H := h1 { D with nx := u D } h2
theorem seq_set {v : V} {i : Nat} {rest : TS} {D : Ends} {σ : L2.St} {H : Hp} (h : rest D (σ.set i (some v)) H) : tSeq (tAsg (tC v) (gName i)) rest D σ H := h
theorem ext_lst {H G : Hp} {L : Addr} {o : HO} (e : ExtN H G) (n : noT H L = none) : ExtN H (upd G L o) := fun b u q nt => by
  have bL : b ≠ L := fun w => by
    have := noT_some q nt
    rw [w, n] at this
    cases this
  rw [upd_ne bL]
  exact e b u q nt
theorem tabs_lst {TT : List (Addr × Str)} {G : Hp} {L : Addr} {xs ys : List V} (t : Tabs TT G) (h : G L = some (.lst xs)) : Tabs TT (upd G L (.lst ys)) := fun p hp => by
  obtain ⟨ps, a1, a2, a3⟩ := t p hp
  refine ⟨ps, by rw [upd_ne (ne_of a1 h (by intro w; cases w))]; exact a1, a2, fun pos cv hc => ?_⟩
  obtain ⟨c, e1, e2⟩ := a3 pos cv hc
  exact ⟨c, e1, by rw [upd_ne (ne_of e2 h (codeO_form.2 _))]; exact e2⟩
theorem new_of {H G : Hp} {L : Addr} (e : ExtN H G) (h : G L = none) : noT H L = none := by
  cases q : noT H L with
  | none => rfl
  | some o =>
    have := ground e _ _ q
    rw [h] at this
    cases this
theorem seq_cutI {c : TT} {ta tb u : TS} {D : Ends} {σ : L2.St} {H : Hp} (P : L2.St → Hp → Prop) (h1 : ∀ D' : Ends, (∀ σ' H', P σ' H' → D'.nx σ' H') → tIfS c ta tb D' σ H) (h2 : ∀ σ' H', P σ' H' → u D σ' H') : tSeq (tIfS c ta tb) u D σ H := seq_cut P h1 h2
theorem ext_hide {d l : Addr} {H H' : Hp} (e : ExtN H H') : ExtN (hide d l H) (hide d l H') := fun b u q n => by
  have q' : (if b = d ∨ b = l then none else H b) = some u := q
  show (if b = d ∨ b = l then none else H' b) = some u
  split at q'
  · cases q'
  · rename_i nb
    rw [if_neg nb]
    exact e b u q' n
theorem sz_text2 {b k : Nat} {x : Str} (h : Sig x) (hl : x.length ≤ b) : Sz b k (.str x) where
  sh := rfl
  lv := by
    simp only [PyData.leavesShort, List.all_eq_true, decide_eq_true_eq]
    exact h
  bu := hl
  de := Nat.zero_le _
theorem shown_told {dd : PyData} (h : Sz 500 9 dd) : Told (.str dd.shown) := by
  have h1 := PyData.shown_le_bulk 60 (by decide) dd h.lv
  have h2 := h.bu
  exact (sz_text2 (b := 100000) (k := 1) (sig_shown 60 dd h.lv) (by omega)).told
structure Sofar (K : PySem.W.Frag) (TT : List (Addr × Str)) (H0 : Hp) (D : PyData) (H : Hp) (L : Addr) (zs : List V) : Prop where
  e : ExtN H0 H
  t : Tabs TT H
  l : H L = some (.lst zs)
  n : noT H0 L = none
  a : ∀ z ∈ zs, Rig K (noT H0) H D z
section
variable {K : PySem.W.Frag} {TT : List (Addr × Str)} {H0 H H1 H2 : Hp} {D : PyData} {L : Addr} {z : V} {zs : List V}
theorem Sofar.one (e : ExtN H0 H) (t : Tabs TT H) (hz : Rig K (noT H0) H D z) (hL : H L = none) : Sofar K TT H0 D (upd H L (.lst [z])) L [z] where
  e := e.trans (same_extN (same_upd hL))
  t := t.ext (same_upd hL)
  l := upd_same
  n := new_of e hL
  a := fun x hx => by
    rw [List.mem_singleton.mp hx]
    exact hz.keep (Keep.of (same_upd hL))
theorem Sofar.at (S : Sofar K TT H0 D H L zs) (e : ExtN H H1) (s : Same H1 H2) : H2 L = some (.lst zs) := s _ _ (e _ _ S.l (by intro ps w; cases w))
theorem Sofar.more (S : Sofar K TT H0 D H L zs) (e : ExtN H H1) (t : Tabs TT H1) (s : Same H1 H2) (hz : Rig K (noT H0) H2 D z) : Sofar K TT H0 D (upd H2 L (.lst (zs ++ [z]))) L (zs ++ [z]) where
  e := ext_lst (S.e.trans (e.trans (same_extN s))) S.n
  t := tabs_lst (t.ext s) (S.at e s)
  l := upd_same
  n := S.n
  a := fun x hx => by
    have k2 := Keep.lst (ys := zs ++ [z]) (S.at e s)
    rcases List.mem_append.mp hx with hx | hx
    · exact (S.a x hx).keep ((Keep.ext e).trans ((Keep.of s).trans k2))
    · rw [List.mem_singleton.mp hx]
      exact hz.keep k2
theorem Sofar.g (S : Sofar K TT H0 D H L zs) (e : ExtN H H1) : Same (noT H0) H1 := ground (S.e.trans e)
end
theorem dq_mem {K : PySem.W.Frag} {G : Hp} {xs : List V} {ds : List PyData} {x : V} (h : DqAll K G xs ds) (hx : x ∈ xs) : ∃ d ∈ ds, Dq K G x d := by
  obtain ⟨i, hi, rfl⟩ := List.mem_iff_getElem.mp hx
  clear hx
  match xs, ds, h, i, hi with
  | _ :: _, _ :: _, .cons h1 h2, 0, _ => exact ⟨_, List.mem_cons_self, h1⟩
  | _ :: xs, _ :: ds, .cons h1 h2, i + 1, hi =>
    obtain ⟨d, hd, hh⟩ := dq_mem h2 (List.getElem_mem (l := xs) (n := i) (by simpa using hi))
    exact ⟨d, List.mem_cons_of_mem _ hd, hh⟩
theorem nrm_drawn {ns : List Int} (hl : ns.length ≤ 26) (hb : ∀ c ∈ ns, c.natAbs < 10 ^ 40) : nrm ns ≤ 2 ^ 205 := by
  have h2 := nrm_len (l := ns) (k := 10 ^ 40) fun c hc => Nat.le_of_lt (hb c hc)
  have h3 : ns.length * 10 ^ 40 ≤ 26 * 10 ^ 40 := Nat.mul_le_mul_right _ hl
  exact Nat.le_trans h2 (Nat.le_trans h3 (by decide))
theorem wd_told {fs : List Int} (hl : fs.length ≤ 26) (hb : ∀ c ∈ fs, c.natAbs < 2 ^ 1900) : Wd 30 2 (.tuple (fs.map PyData.int)) := (wd_tup (wdAll_ints (k := 1) fs hb)).mono (by omega) (Nat.le_refl _)
end K28
end
section
set_option maxRecDepth 100000
set_option maxHeartbeats 8000000
set_option exponentiation.threshold 70000
namespace K28
open PySem PySem.Spec PyProof.Rows L2 MB PM
open LamX hiding takes0
section
variable {w : World} {K : PySem.W.Frag} {mg : Str → Option Value} {base : Heap}
theorem pick_q {x : V} (h : x ∈ [V.int 2, .int 3, .int 4, .int 5]) : ∃ q : Int, x = .int q ∧ LetQ q := by
  simp only [List.mem_cons, List.not_mem_nil, or_false] at h
  rcases h with rfl | rfl | rfl | rfl <;> exact ⟨_, rfl, ⟨by decide, by decide⟩⟩
theorem pick_small {x : V} (h : x ∈ [V.int 0, .int 1, .int 3, .int (-1), .int 7, .int 155, .int 1000]) : ∃ c : Int, x = .int c ∧ c.natAbs ≤ 2 ^ 60 := by
  simp only [List.mem_cons, List.not_mem_nil, or_false] at h
  rcases h with rfl | rfl | rfl | rfl | rfl | rfl | rfl <;> exact ⟨_, rfl, by decide⟩
theorem pick_last {x : V} (h : x ∈ [V.int 1, .int 1, .int (-1), .int 31, .int ((10 : Int) ^ (12 : Int).toNat)]) : ∃ c : Int, x = .int c ∧ c.natAbs ≤ 2 ^ 60 ∧ c ≠ 0 := by
  simp only [List.mem_cons, List.not_mem_nil, or_false] at h
  rcases h with rfl | rfl | rfl | rfl | rfl <;> exact ⟨_, rfl, by decide, by decide⟩
theorem TI.but {d l : Addr} {H H' : Hp} {v : V} {ns : List Int} (h : TI K H v ns) (D : Deck kL H d l) (e : But d l H H') : TI K H' v ns := by
  obtain ⟨a, rfl, ha⟩ := h
  exact ⟨a, rfl, e.tup D ha⟩
theorem q_sz {dd0 : PyData} (h : Sz 80 4 dd0) : ∀ dq ∈ [PyData.int 1, .int 6, .int 0, .int (-2), .int 7, .int ((10 : Int) ^ (39 : Int).toNat), .bool true, .none, .str "2", .tuple [.int 2], .list [.int 2], .tuple [], .int 8, .int 9, dd0], Sz 200 8 dq := by
  intro dq hm
  simp only [List.mem_cons, List.not_mem_nil, or_false] at hm
  rcases hm with rfl | rfl | rfl | rfl | rfl | rfl | rfl | rfl | rfl | rfl | rfl | rfl | rfl | rfl | rfl
  all_goals first
    | exact h.mono (by decide) (by decide)
    | exact ⟨by decide +kernel, by decide +kernel, by decide +kernel, by decide +kernel⟩
theorem p_sz {d1 d2 d3 : PyData} (h1 : Sz 200 8 d1) (c1 : Cnt d1) (h2 : Sz 200 8 d2) (c2 : Cnt d2) (h3 : Sz 200 8 d3) (c3 : Cnt d3) : ∀ dq ∈ [d1, d2, d3, PyData.tuple [.int 0], .list [.int 1]], Sz 200 8 dq ∧ Cnt dq := by
  intro dq hm
  simp only [List.mem_cons, List.not_mem_nil, or_false] at hm
  rcases hm with rfl | rfl | rfl | rfl | rfl
  · exact ⟨h1, c1⟩
  · exact ⟨h2, c2⟩
  · exact ⟨h3, c3⟩
  · exact ⟨⟨by decide +kernel, by decide +kernel, by decide +kernel, by decide +kernel⟩, fun es e => by cases e; decide⟩
  · exact ⟨⟨by decide +kernel, by decide +kernel, by decide +kernel, by decide +kernel⟩, fun es e => by cases e⟩
def DueV (K : PySem.W.Frag) (G0 G : Hp) (z : V) : Option PyData → Prop
  | none => z = .non
  | some D => Rig K G0 G D z
theorem DueV.keep {K : PySem.W.Frag} {G0 G G' : Hp} {z : V} {o : Option PyData} (e : Keep G G') (h : DueV K G0 G z o) : DueV K G0 G' z o := by
  cases o with
  | none => exact h
  | some D => exact Rig.keep e h
theorem DueV.toNoT {K : PySem.W.Frag} {d l : Addr} {G0 G : Hp} {z : V} {o : Option PyData} (s : Same G0 G) (h : DueV K (hide d l G0) G z o) : DueV K (noT G) G z o := by
  cases o with
  | none => exact h
  | some D =>
    obtain ⟨p, wd, v, e, h1, h2, h3, h4⟩ := h
    refine ⟨p, wd, v, e, h1, h2, ?_, h4⟩
    rcases h3 with h3 | h3
    · exact .inl (Dq.noT _ _ (Dq.same hide_sub _ _ (Dq.same (same_hide s) _ _ h3)))
    · exact .inr h3
theorem dq_ti {K : PySem.W.Frag} {H : Hp} {v : V} {ns : List Int} (h : Dq K H v (.tuple (ns.map PyData.int))) : TI K H v ns := by
  cases h with
  | tup h1 h2 =>
    rw [ints_eq h2] at h1
    exact ⟨_, rfl, h1⟩
theorem due_none {dq dp : PyData} (h : dueO dq dp = none) : ∃ (q : Int) (ns : List Int), dq = .int q ∧ LetQ q ∧ asInts dp = some (ns.map some) ∧ isPoly ns = true ∧ dp = .tuple (ns.map PyData.int) := by
  unfold dueO at h
  split at h
  · cases h
  rename_i h1
  split at h
  · cases h
  rename_i h2
  have e1 : inFrom 2 5 (asInt dq) = true := by
    cases e : inFrom 2 5 (asInt dq) with
    | true => rfl
    | false => exact absurd e h1
  have e2 : polyQ (asInts dp) = true := by
    cases e : polyQ (asInts dp) with
    | true => rfl
    | false => exact absurd e h2
  obtain ⟨q, eq, lq⟩ := from25 e1
  obtain ⟨ns, ens, pns⟩ := poly_of e2
  refine ⟨q, ns, ?_, lq, ens, pns, asInts_tup ens⟩
  cases dq with
  | int i =>
    obtain rfl : i = q := Option.some.inj eq
    rfl
  | _ => cases eq
theorem due_sz {dq dp D : PyData} (hq : Sz 200 8 dq) (hp : Sz 200 8 dp) (h : dueO dq dp = some D) : Sz 300 10 D := by
  unfold dueO at h
  split at h
  · obtain rfl := (Option.some.inj h).symm
    exact sz_tup ((szAll_cons (sz_text (b := 20) (s := "field") (by decide)) (szAll_cons hq (szAll_nil (b := 0)))).mono (by decide) (by decide))
  · split at h
    · obtain rfl := (Option.some.inj h).symm
      exact sz_tup ((szAll_cons (sz_text (b := 20) (s := "polynomial") (by decide)) (szAll_cons hp (szAll_nil (b := 0)))).mono (by decide) (by decide))
    · cases h
theorem in_q (d : PyData) : inV (.str d.shown) [.str "2", .str "3", .str "4", .str "5"] = inFrom 2 5 (asInt d) := by
  have h := shown_q d
  have e1 : inV (.str d.shown) [.str "2", .str "3", .str "4", .str "5"] = true ↔ d.shown ∈ [("2" : Str), "3", "4", "5"] := by
    unfold inV
    simp only [List.any_cons, List.any_nil, Bool.or_false, Bool.or_eq_true, eqV, beq_iff_eq, List.mem_cons, List.not_mem_nil, or_false]
    constructor
    · rintro (h | h | h | h)
      · exact .inl h.symm
      · exact .inr (.inl h.symm)
      · exact .inr (.inr (.inl h.symm))
      · exact .inr (.inr (.inr h.symm))
    · rintro (h | h | h | h)
      · exact .inl h.symm
      · exact .inr (.inl h.symm)
      · exact .inr (.inr (.inl h.symm))
      · exact .inr (.inr (.inr h.symm))
  have e2 : inFrom 2 5 (asInt d) = true ↔ ∃ q : Int, d = .int q ∧ 2 ≤ q ∧ q ≤ 5 := by
    constructor
    · intro e
      obtain ⟨q, eq, lq⟩ := from25 e
      cases d with
      | int i =>
        obtain rfl : i = q := Option.some.inj eq
        exact ⟨i, rfl, lq.lo, lq.hi⟩
      | _ => cases eq
    · rintro ⟨q, rfl, h1, h2⟩
      exact from_fld ⟨h1, h2⟩
  exact Bool.eq_iff_iff.mpr (e1.trans (h.trans e2.symm))
theorem ok_law (T : Txt K mg) (sm : SM base) (tb__law_are_books_refused : TabB base mg T.c__law_are_books_refused T.tP__law_are_books_refused) (tb_law : TabB base mg T.c_law T.tP_law) : FnG P w K mg base 17 T.a_law T.d_law P_law (spLaw K (TL T)) := by
  refine fnGL T.F_law sc_law (fun vs H Q E h => ?_) (fun A outer s H vs Q E hr hgu h => ?_)
  · obtain ⟨a, ns, rfl, _⟩ := h
    rfl
  · obtain ⟨a, ns, rfl, ha, hl, hT, qq⟩ := h
    refine ⟨_, 
      (pss_cons (ps_set (i := 1) sc_law.nd rfl (Or.inr rfl) (pe_call (ok__law_deck T) (hr.mono (by decide)) rfl T.m__law_deck T.F__law_deck.kp T.b__law_deck .nil pass0 (pa_cons (pv 0) pa_nil)))
      (pss_cons (ps_for PassesOwn.never rfl (pi_range1 rfl T.m_range (pa_cons pe_int pa_nil)) (pg_name (i := 2) sc_law.nd rfl (Or.inl rfl)) (pss_cons (ps_asg (pe_tup (pa_cons (pe_call (ok__law_pick T) (hr.mono (by decide)) rfl T.m__law_pick T.F__law_pick.kp T.b__law_pick .nil pass0 (pa_cons (pv 1) (pa_cons (pe_tup (pa_cons pe_int (pa_cons pe_int (pa_cons pe_int (pa_cons pe_int pa_nil))))) pa_nil))) (pa_cons (pe_call (ok__law_polynomial T) (hr.mono (by decide)) rfl T.m__law_polynomial T.F__law_polynomial.kp T.b__law_polynomial .nil pass0 (pa_cons (pv 1) (pa_cons pe_int pa_nil))) pa_nil))) (pg_tup rfl (pgs_cons (pg_name (i := 10) sc_law.nd rfl (Or.inr rfl)) (pgs_cons (pg_name (i := 9) sc_law.nd rfl (Or.inr rfl)) pgs_nil))))
      (pss_cons (ps_if (pt_not (pt_val (pe_call (ok__law_is_split T) (hr.mono (by decide)) rfl T.m__law_is_split T.F__law_is_split.kp T.b__law_is_split .nil pass0 (pa_cons (pe_call (ok0_subcounts T) (hr.mono (by decide)) rfl T.m_subcounts T.F_subcounts.kp T.b_subcounts .nil pass0 (pa_cons (pv 10) (pa_cons (pv 9) pa_nil))) (pa_cons (pv 9) (pa_cons (pv 10) pa_nil)))))) (pss_one (ps_ret pe_bl)) pss_nil)
      (pss_cons (ps_setLc (i := 3) (own := [("_law_at_here", 11)]) (g := gName 11) (tt := tYes) rfl sc_law.nd rfl rfl (sw_true rfl rfl rfl (by decide +kernel)) (pi_range1 rfl T.m_range (pa_cons (pe_call (ok__law_draw T) (hr.mono (by decide)) rfl T.m__law_draw T.F__law_draw.kp T.b__law_draw .nil pass0 (pa_cons (pv 1) (pa_cons pe_int pa_nil))) pa_nil)) (blkOk_by (own := [("_law_at_here", 11)]) (N := N_law) (sc := defScope s_law) (by decide +kernel)) (fun _ _ _ _ _ => (pg_name (i := 11) sc_law.nd rfl (Or.inl rfl))) (fun _ _ _ _ _ => pts_nil) (fun _ _ _ _ _ => (pe_call (ok__law_pick T) (hr.mono (by decide)) rfl T.m__law_pick T.F__law_pick.kp T.b__law_pick .nil pass0 (pa_cons (pv 1) (pa_cons (pe_tup (pa_cons pe_int (pa_cons pe_int (pa_cons pe_int (pa_cons (pe_un un_neg pe_int) (pa_cons pe_int (pa_cons pe_int (pa_cons pe_int pa_nil)))))))) pa_nil)))))
      (pss_cons (ps_set (i := 3) sc_law.nd rfl (Or.inl rfl) (pe_op op_cat (pv 3) (pe_lst (pa_cons (pe_call (ok__law_pick T) (hr.mono (by decide)) rfl T.m__law_pick T.F__law_pick.kp T.b__law_pick .nil pass0 (pa_cons (pv 1) (pa_cons (pe_tup (pa_cons pe_int (pa_cons pe_int (pa_cons (pe_un un_neg pe_int) (pa_cons pe_int (pa_cons (pe_op op_pow pe_int pe_int) pa_nil)))))) pa_nil))) pa_nil))))
      (pss_cons (ps_if (pt_not (pt_val (pe_callG (ok__law_same T sm) (hr.mono (by decide)) hgu rfl T.m__law_same T.F__law_same.kp T.b__law_same (pa_cons (pe_callK0 (ok0_subcounts T) (hr.mono (by decide)) rfl T.m_subcounts T.F_subcounts.kp T.q_subcounts_polynomial_q (pk_cons (pe_call (ok__law_added T) (hr.mono (by decide)) rfl T.m__law_added T.F__law_added.kp T.b__law_added .nil pass0 (pa_cons (pv 3) (pa_cons (pv 10) pa_nil))) (pk_cons (pv 10) pk_nil))) (pa_cons (pe_callTy call_tuple_of (by rfl) T.m_tuple (by decide +kernel) (pa_cons (pv 3) pa_nil)) pa_nil))))) (pss_one (ps_ret pe_bl)) pss_nil)
      (pss_cons (ps_set (i := 4) sc_law.nd rfl (Or.inl rfl) (pe_op op_add (pe_call (ok__law_draw T) (hr.mono (by decide)) rfl T.m__law_draw T.F__law_draw.kp T.b__law_draw .nil pass0 (pa_cons (pv 1) (pa_cons pe_int pa_nil))) (pe_op op_mul pe_int (pe_callTy call_int1 (by rfl) T.m_int (by decide +kernel) (pa_cons (pe_cmpR op_eq (pe_call (ok__law_draw T) (hr.mono (by decide)) rfl T.m__law_draw T.F__law_draw.kp T.b__law_draw .nil pass0 (pa_cons (pv 1) (pa_cons pe_int pa_nil))) pe_int (nomark _)) pa_nil)))))
      (pss_one (ps_if (pt_not (pt_val (pe_callG (ok__law_same T sm) (hr.mono (by decide)) hgu rfl T.m__law_same T.F__law_same.kp T.b__law_same (pa_cons (pe_lst (pa_cons (pe_call (ok0_subcounts T) (hr.mono (by decide)) rfl T.m_subcounts T.F_subcounts.kp T.b_subcounts .nil pass0 (pa_cons (pv 10) (pa_cons (pe_op op_catA (pe_op op_repA (pe_tup (pa_cons pe_int pa_nil)) (pv 4)) (pe_tup (pa_cons pe_int pa_nil))) pa_nil))) (pa_cons (pe_call (ok0_subcounts T) (hr.mono (by decide)) rfl T.m_subcounts T.F_subcounts.kp T.b_subcounts .nil pass0 (pa_cons (pv 10) (pa_cons (pe_tup pa_nil) pa_nil))) pa_nil))) (pa_cons (pe_lst (pa_cons (pe_call (ok__law_spaces T) (hr.mono (by decide)) rfl T.m__law_spaces T.F__law_spaces.kp T.b__law_spaces .nil pass0 (pa_cons (pv 4) (pa_cons (pv 10) pa_nil))) (pa_cons (pe_tup pa_nil) pa_nil))) pa_nil))))) (pss_one (ps_ret pe_bl)) pss_nil)))))))))
      (pss_cons (ps_for PassesOwn.never rfl (pi_range1 rfl T.m_range (pa_cons pe_int pa_nil)) (pg_name (i := 2) sc_law.nd rfl (Or.inl rfl)) (pss_cons (ps_asg (pe_tup (pa_cons (pe_call (ok__law_draw T) (hr.mono (by decide)) rfl T.m__law_draw T.F__law_draw.kp T.b__law_draw .nil pass0 (pa_cons (pv 1) (pa_cons pe_int pa_nil))) (pa_cons (pe_call (ok__law_pick T) (hr.mono (by decide)) rfl T.m__law_pick T.F__law_pick.kp T.b__law_pick .nil pass0 (pa_cons (pv 1) (pa_cons (pe_tup (pa_cons pe_int (pa_cons pe_int (pa_cons pe_int (pa_cons pe_int pa_nil))))) pa_nil))) (pa_cons (pe_call (ok__law_polynomial T) (hr.mono (by decide)) rfl T.m__law_polynomial T.F__law_polynomial.kp T.b__law_polynomial .nil pass0 (pa_cons (pv 1) (pa_cons pe_int pa_nil))) pa_nil)))) (pg_tup rfl (pgs_cons (pg_name (i := 5) sc_law.nd rfl (Or.inl rfl)) (pgs_cons (pg_name (i := 10) sc_law.nd rfl (Or.inr rfl)) (pgs_cons (pg_name (i := 9) sc_law.nd rfl (Or.inr rfl)) pgs_nil)))))
      (pss_cons (ps_if (pt_cmpR op_gt (pv 5) pe_int (nomark _)) (pss_one (ps_set (i := 10) sc_law.nd rfl (Or.inr rfl) (pe_call (ok__law_pick T) (hr.mono (by decide)) rfl T.m__law_pick T.F__law_pick.kp T.b__law_pick .nil pass0 (pa_cons (pv 1) (pa_cons (pe_tup (pa_cons pe_int (pa_cons pe_int (pa_cons pe_int (pa_cons (pe_un un_neg pe_int) (pa_cons pe_int (pa_cons (pe_op op_pow pe_int pe_int) (pa_cons pe_bl (pa_cons pe_non (pa_cons pe_str (pa_cons (pe_tup (pa_cons pe_int pa_nil)) (pa_cons (pe_lst (pa_cons pe_int pa_nil)) (pa_cons (pe_tup pa_nil) (pa_cons pe_int (pa_cons pe_int (pa_cons (pe_call (ok__law_odd T) (hr.mono (by decide)) rfl T.m__law_odd T.F__law_odd.kp T.b__law_odd .nil pass0 (pa_cons (pv 1) (pa_cons (pv 10) pa_nil))) pa_nil)))))))))))))))) pa_nil))))) pss_nil)
      (pss_cons (ps_if (pt_cmpR op_eq (pe_op op_mod (pe_callTy call_int1 (by rfl) T.m_int (by decide +kernel) (pa_cons (pv 5) pa_nil)) pe_int) pe_int (nomark _)) (pss_one (ps_set (i := 9) sc_law.nd rfl (Or.inr rfl) (pe_call (ok__law_pick T) (hr.mono (by decide)) rfl T.m__law_pick T.F__law_pick.kp T.b__law_pick .nil pass0 (pa_cons (pv 1) (pa_cons (pe_tup (pa_cons (pe_call (ok__law_bent T) (hr.mono (by decide)) rfl T.m__law_bent T.F__law_bent.kp T.b__law_bent .nil pass0 (pa_cons (pv 1) (pa_cons (pv 9) pa_nil))) (pa_cons (pe_call (ok__law_odd T) (hr.mono (by decide)) rfl T.m__law_odd T.F__law_odd.kp T.b__law_odd .nil pass0 (pa_cons (pv 1) (pa_cons (pv 9) pa_nil))) (pa_cons (pe_call (ok__law_bent T) (hr.mono (by decide)) rfl T.m__law_bent T.F__law_bent.kp T.b__law_bent .nil pass0 (pa_cons (pv 1) (pa_cons (pe_tup (pa_cons pe_int (pa_cons pe_int (pa_cons pe_int (pa_cons pe_int pa_nil))))) pa_nil))) (pa_cons (pe_tup (pa_cons pe_int pa_nil)) (pa_cons (pe_lst (pa_cons pe_int pa_nil)) pa_nil)))))) pa_nil))))) pss_nil)
      (pss_cons (ps_par (i := 6) (j := 7) (by rfl) sc_law.nd rfl rfl (by decide) rfl rfl (pa_cons (pe_callB (call_tellW sm hgu hr.units) (by rfl) T.m_repr (by decide +kernel) (pa_cons (pe_tup (pa_cons (pv 10) (pa_cons (pv 9) pa_nil))) pa_nil)) (pa_cons pe_non pa_nil)) (by rfl))
      (pss_cons (ps_if (pt_cmpR (op_notIn_seq) (pe_callB (call_tellW sm hgu hr.units) (by rfl) T.m_repr (by decide +kernel) (pa_cons (pv 10) pa_nil)) (pe_tup (pa_cons pe_str (pa_cons pe_str (pa_cons pe_str (pa_cons pe_str pa_nil))))) rfl) (pss_one (ps_set (i := 7) sc_law.nd rfl (Or.inl rfl) (pe_tup (pa_cons pe_str (pa_cons (pv 10) pa_nil))))) (pss_one (ps_if (pt_not (pt_val (pe_call (ok__law_is_polynomial T) (hr.mono (by decide)) rfl T.m__law_is_polynomial T.F__law_is_polynomial.kp T.b__law_is_polynomial .nil pass0 (pa_cons (pv 9) pa_nil)))) (pss_one (ps_set (i := 7) sc_law.nd rfl (Or.inl rfl) (pe_tup (pa_cons pe_str (pa_cons (pv 9) pa_nil))))) pss_nil)))
      (pss_cons (ps_set (i := 8) sc_law.nd rfl (Or.inl rfl) (pe_lst (pa_cons (pe_tell (T := TL T) (k := 5) (c := T.c_law) (P := T.tP_law) T.F__law_refused T.b__law_refused rfl T.m__law_refused sc__law_refused rfl (Or.inl rfl) (fun _ => gives__law_refused T) tb_law rfl (.tail _ (.head _)) (hu_law T) (hr.mono (by decide)) (lamS_by (sc := defScope s_law) (by decide +kernel)) rfl (fun _ _ _ _ _ => rfl)
        (fun A outer s H E f c' hr => (pe_callS (ok_subcounts T) (hr.mono (by decide)) rfl T.m_subcounts T.F_subcounts.kp T.b_subcounts (fun σ => passAt (takes_of rfl rfl rfl rfl) σ) (pa_cons (pv 10) (pa_cons (pv 9) pa_nil))))) pa_nil)))
      (pss_cons (ps_expr (pe_bm PySem.F.plainAttrs_list PySem.F.slot_list_append PySem.F.type_list_append mt_append (pv 8) (pa_cons (pe_tell (T := TL T) (k := 5) (c := T.c_law) (P := T.tP_law) T.F__law_refused T.b__law_refused rfl T.m__law_refused sc__law_refused rfl (Or.inl rfl) (fun _ => gives__law_refused T) tb_law rfl (.tail _ (.head _)) (hu_law T) (hr.mono (by decide)) (lamS_by (sc := defScope s_law) (by decide +kernel)) rfl (fun _ _ _ _ _ => rfl)
        (fun A outer s H E f c' hr => (pe_callK0S (ok_subcounts T) (hr.mono (by decide)) rfl T.m_subcounts T.F_subcounts.kp T.q_subcounts_polynomial_q (fun σ => passAt (takes_of rfl rfl rfl rfl) σ) (pk_cons (pv 9) (pk_cons (pv 10) pk_nil))))) pa_nil)))
      (pss_cons (ps_if (pt_not (pt_val (pe_callG (ok__law_same T sm) (hr.mono (by decide)) hgu rfl T.m__law_same T.F__law_same.kp T.b__law_same (pa_cons (pe_callB (call_tellW sm hgu hr.units) (by rfl) T.m_repr (by decide +kernel) (pa_cons (pe_tup (pa_cons (pv 10) (pa_cons (pv 9) pa_nil))) pa_nil)) (pa_cons (pv 6) pa_nil))))) (pss_one (ps_ret pe_bl)) pss_nil)
      (pss_cons (ps_if (PW.pt (pw_and (pt_cmpR op_notN (pv 7) pe_non (nomark _)) (pw_and1 (pt_not (pt_val (pe_callG (ok__law_same T sm) (hr.mono (by decide)) hgu rfl T.m__law_same T.F__law_same.kp T.b__law_same (pa_cons (pv 8) (pa_cons (pe_lst (pa_cons (pv 7) (pa_cons (pv 7) pa_nil))) pa_nil)))))))) (pss_one (ps_ret pe_bl)) pss_nil)
      (pss_one (ps_if (PW.pt (pw_and (pt_cmpR op_isN (pv 7) pe_non (nomark _)) (pw_and1 (PW.pt (pw_or (pt_cmpR op_ne (pe_ix (r := rIxT K) ix_tup (pe_ix (r := rIxL K) ix_list (pv 8) pe_int (fun _ _ => rfl)) pe_int (fun _ _ => rfl)) pe_str (nomark _)) (pw_or (pt_not (pt_val (pe_callG (ok__law_same T sm) (hr.mono (by decide)) hgu rfl T.m__law_same T.F__law_same.kp T.b__law_same (pa_cons (pe_ix (r := rIxL K) ix_list (pv 8) pe_int (fun _ _ => rfl)) (pa_cons (pe_ix (r := rIxL K) ix_list (pv 8) pe_int (fun _ _ => rfl)) pa_nil))))) (pw_or1 (pt_not (pt_val (pe_call (ok__law_is_split T) (hr.mono (by decide)) rfl T.m__law_is_split T.F__law_is_split.kp T.b__law_is_split .nil pass0 (pa_cons (pe_ix (r := rIxT K) ix_tup (pe_ix (r := rIxL K) ix_list (pv 8) pe_int (fun _ _ => rfl)) pe_int (fun _ _ => rfl)) (pa_cons (pv 9) (pa_cons (pv 10) pa_nil))))))))))))) (pss_one (ps_ret pe_bl)) pss_nil))))))))))))
      (pss_one (ps_ret (pe_callG (ok__law_are_books_refused T sm tb__law_are_books_refused) (hr.mono (by decide)) hgu rfl T.m__law_are_books_refused T.F__law_are_books_refused.kp T.b__law_are_books_refused (pa_cons (pe_make T.mk_Book (ok_Book___init__ T) (hr.mono (by decide)) rfl T.g_Book T.b_Book___init__ .nil pass0 (pa_cons pe_int (pa_cons pe_int (pa_cons (pe_tup (pa_cons (pe_tup (pa_cons pe_int (pa_cons pe_int pa_nil))) pa_nil)) pa_nil)))) pa_nil))))))), ?_⟩
    refine ⟨_, rfl, a, ns, rfl, ha, hl, fun d l H1 s1 D1 => ?_⟩
    have T1 := hT.ext s1
    refine ⟨_, rfl, by decide, by decide, for_range (lo := 0) (n := 3)
      (fun i σ H' => ∃ o2 o3 o4 o5 o6 o7 o8 o9 o10, σ = [some (.ref a), some (.ref d), o2, o3, o4, o5, o6, o7, o8, o9, o10, none] ∧ Deck kL H' d l ∧ Tabs (TL T) H')
      ⟨none, none, none, none, none, none, none, none, none, rfl, D1, T1⟩ ?_ ?_⟩
    · rintro i _ H2 hi ⟨o2, o3, o4, o5, o6, o7, o8, o9, o10, rfl, D2, T2⟩
      refine ⟨_, rfl, line_s (Nat.le_of_ble_eq_true rfl), fun p hp => ?_⟩
      have e1 := same_upd (o := .tup [.int 2, .int 3, .int 4, .int 5]) hp
      have D3 := D2.same e1
      have T3 := T2.ext e1
      refine ⟨d, l, p, _, rfl, .inl (SqT.of (D2.at_new hp)), by simp, by decide, D3, fun x H4 hx e4 D4 => ?_⟩
      obtain ⟨q, rfl, lq⟩ := pick_q hx
      have T4 := tabs_but D3 e4 T3
      clear hx e1 hp
      refine ⟨_, rfl, d, l, 20, rfl, by decide, by decide, D4, fun v ns H5 e5 D5 hv pv lv bv => ?_⟩
      have T5 := tabs_but D4 e5 T4
      clear D3 T3 e4 D4 T4 e5 D2 T2
      have nv := nrm_drawn (by omega) bv
      refine ⟨line_s (Nat.le_of_ble_eq_true rfl), fun p hp => ?_⟩
      have D6 := D5.same (same_upd (o := .tup [.int q, v]) hp)
      have T6 := T5.ext (same_upd (o := .tup [.int q, v]) hp)
      have hv6 := hv.same (same_upd (o := .tup [.int q, v]) hp)
      refine ⟨p, _, rfl, SqT.of upd_same, rfl, _, _, rfl, _, _, rfl, rfl, ?_⟩
      generalize upd H5 p (.tup [.int q, v]) = H6 at D6 T6 hv6 ⊢
      clear hp D5 T5 hv
      have fb := found_small (q := q) (by have := lq.lo; omega) lq.hi (show ns.length ≤ 26 by omega) nv
      have fl := sfound_len q ns ns.length
      refine ⟨_, rfl, _, rfl, v, q, ns, rfl, lq, hv6, pv, by omega, Nat.le_trans nv (Nat.pow_le_pow_right (by decide) (by decide)), fun z H7 s7 hz => ?_⟩
      refine ⟨_, rfl, _, rfl, z, v, q, _, ns, rfl, lq, hz, hv6.same s7, fl, by omega, Nat.lt_of_le_of_lt nv (Nat.pow_lt_pow_right (by decide) (by decide)), (fun c hc => Nat.lt_trans (fb c hc) (Nat.pow_lt_pow_right (by decide) (by decide))), fun x => found_newton q x ns, fun H8 s8 => ⟨true, rfl, iteF ?_⟩⟩
      have D8 := D6.same (s7.trans s8)
      have T8 := T6.ext (s7.trans s8)
      have hv8 := hv6.same (s7.trans s8)
      clear D6 T6 hz s7 hv6
      refine ⟨_, rfl, d, l, 8, rfl, by decide, by decide, D8, fun r H9 r0 r1 e9 D9 => ?_⟩
      have T9 := tabs_but D8 e9 T8
      refine ⟨_, rfl, by omega, by omega, fun L hL => ?_⟩
      obtain ⟨L1, L2⟩ := D9.off hL
      refine lc_it (walk_range (lo := 0) (n := r.toNat))
        (fun i H' => Deck kL H' d l ∧ Tabs (TL T) H' ∧ ∃ cs : List Int, cs.length = i ∧ (∀ c ∈ cs, c.natAbs ≤ 2 ^ 60) ∧ H' L = some (.lst (cs.map V.int)))
        ⟨D9.upd L1 L2, T9.ext (same_upd hL), [], rfl, (fun c hc => by cases hc), upd_same⟩ (fun _ _ _ _ => trivial) ?_ ?_
      · rintro i x H' _ hi ⟨D', T', cs, hn, hb, hN⟩ ⟨rfl, rfl⟩
        refine ⟨rfl, ?_⟩
        refine ⟨_, rfl, 1, rfl, line_s (Nat.le_of_ble_eq_true rfl), fun p hp => ?_⟩
        have e1 := same_upd (o := .tup [.int 0, .int 1, .int 3, .int (-1), .int 7, .int 155, .int 1000]) hp
        have D3 := D'.same e1
        have T3 := T'.ext e1
        have hN3 := e1 _ _ hN
        refine ⟨d, l, p, [.int 0, .int 1, .int 3, .int (-1), .int 7, .int 155, .int 1000], rfl, .inl (SqT.of (D'.at_new hp)), by simp, by decide, D3, fun x H4 hx e4 D4 => ?_⟩
        obtain ⟨c, rfl, hc⟩ := pick_small hx
        have T4 := tabs_but D3 e4 T3
        have hN4 := e4 _ _ hN3 L1 L2
        refine ⟨_, hN4, ?_, D4.upd L1 L2, tabs_lst T4 hN4, cs ++ [c], by rw [List.length_append, hn]; rfl, ?_, ?_⟩
        · rw [List.length_map, hn]
          exact line_le (by omega)
        · intro z hz
          rcases List.mem_append.mp hz with hz | hz
          · exact hb z hz
          · rw [List.mem_singleton.mp hz]
            exact hc
        · rw [upd_same, List.map_append]
          rfl
      · rintro H10 ⟨D', T', cs, hn, hb, hN⟩
        clear D8 T8 hL D9 T9 e9 s8
        refine ⟨_, rfl, _, rfl, 1, rfl, _, _, rfl, rfl, ⟨by decide, by decide, by decide⟩, ?_⟩
        refine ⟨line_s (Nat.le_of_ble_eq_true rfl), fun p hp => ?_⟩
        have e1 := same_upd (o := .tup [.int 1, .int 1, .int (-1), .int 31, .int ((10 : Int) ^ (12 : Int).toNat)]) hp
        have D3 := D'.same e1
        have T3 := T'.ext e1
        have hN3 := e1 _ _ hN
        refine ⟨d, l, p, [.int 1, .int 1, .int (-1), .int 31, .int ((10 : Int) ^ (12 : Int).toNat)], rfl, .inl (SqT.of (D'.at_new hp)), by simp, by decide, D3, fun x H4 hx e4 D4 => ?_⟩
        obtain ⟨c, rfl, hc, c0⟩ := pick_last hx
        have T4 := tabs_but D3 e4 T3
        have hN4 := e4 _ _ hN3 L1 L2
        clear D3 T3 e4 hN3 D' T' hN e1 hp hx
        refine ⟨line_s (Nat.le_of_ble_eq_true rfl), fun p hp => ?_⟩
        have e5 := same_upd (o := .lst [.int c]) hp
        have D5 := D4.same e5
        have T5 := T4.ext e5
        have hN5 := e5 _ _ hN4
        have h5 : (upd H4 p (.lst [.int c])) p = some (.lst (([c] : List Int).map V.int)) := upd_same
        generalize upd H4 p (.lst [.int c]) = H5 at D5 T5 hN5 h5 ⊢
        clear D4 T4 hN4 hp e5
        refine ⟨L, p, _, _, rfl, rfl, hN5, h5, ?_, fun M hM => ?_⟩
        · simp only [List.length_map, List.length_cons, List.length_nil]
          exact Nat.le_of_lt (line_le (by omega))
        rw [← List.map_append]
        have e6 := same_upd (o := .lst ((cs ++ [c]).map V.int)) hM
        have D6 := D5.same e6
        have T6 := T5.ext e6
        have h6 : (upd H5 M (.lst ((cs ++ [c]).map V.int))) M = some (.lst ((cs ++ [c]).map V.int)) := upd_same
        generalize upd H5 M (.lst ((cs ++ [c]).map V.int)) = H6 at D6 T6 h6 ⊢
        clear D5 T5 hN5 hM e6 h5
        have hi2 : Ints (cs ++ [c]) := ⟨by rw [List.length_append, hn]; simp; omega, fun z hz => (List.mem_append.mp hz).elim (hb z) fun h => by rw [List.mem_singleton.mp h]; exact hc, cs, c, rfl, c0⟩
        have l8 := hi2.l
        refine ⟨_, rfl, _, rfl, M, q, cs ++ [c], rfl, lq, SqL.of h6, hi2, fun z ls H7 s7 hz lz pz ez bz => ?_⟩
        have nz : nrm ls ≤ 2 ^ 2000 := by
          have h2 := nrm_len (l := ls) (k := 2 ^ 310) fun c hc => Nat.le_of_lt (bz c hc)
          have h3 : ls.length * 2 ^ 310 ≤ 2 ^ 3 * 2 ^ 310 := Nat.mul_le_mul_right _ (by rw [lz]; exact l8)
          rw [← Nat.pow_add] at h3
          exact Nat.le_trans h2 (Nat.le_trans h3 (Nat.pow_le_pow_right (by decide) (by decide)))
        refine ⟨_, rfl, z, q, ls, rfl, lq, hz, pz, by omega, nz, fun y H8 s8 hy => ?_⟩
        rw [found_uniq lz ez] at hy
        have s68 := s7.trans s8
        have h8 := s68 _ _ h6
        refine ⟨_, rfl, M, _, rfl, .inl ⟨SqL.of h8, fun p hp => ?_⟩⟩
        have s9 := same_upd (o := .tup ((cs ++ [c]).map V.int)) hp
        refine ⟨y, .ref p, _, rfl, TI.dq0 (hy.same s9), .tup (SqT.of upd_same) (dq_ints _), (wd_told (by omega) fun z hz => Nat.lt_of_le_of_lt (hi2.b z hz) (Nat.pow_lt_pow_right (by decide) (by decide))).tell (by decide) (by decide), true, rfl, iteF ?_⟩
        have D9 := D6.same (s68.trans s9)
        have T9 := T6.ext (s68.trans s9)
        clear hz hy h6 h8 s7 s8 D6 T6
        refine ⟨_, rfl, d, l, 9, rfl, by decide, by decide, D9, fun u H10 u0 u1 e10 D10 => ?_⟩
        have T10 := tabs_but D9 e10 T9
        refine ⟨_, rfl, d, l, 8, rfl, by decide, by decide, D10, fun r H11 r0 r1 e11 D11 => ?_⟩
        have T11 := tabs_but D10 e11 T10
        refine ⟨rfl, .inr ⟨_, rfl, _, _, rfl, rfl, .inl (by decide), _, _, rfl, rfl, ?_⟩⟩
        obtain ⟨m, hm, m19⟩ : ∃ m : Nat, u + 11 * (if decide (V.int r = V.int 0) = true then (1 : Int) else 0) = (m : Int) ∧ m ≤ 19 := by
          split
          · exact ⟨(u + 11).toNat, by omega, by omega⟩
          · exact ⟨u.toNat, by omega, by omega⟩
        rw [show (fun i j : Int => V.int (i + j)) u (11 * if decide (V.int r = V.int 0) = true then (1 : Int) else 0) = V.int (m : Int) from congrArg V.int hm]
        clear hm u0 u1 r0 r1 e10 e11 D9 D10 T9 T10
        refine ⟨_, rfl, line_s (Nat.le_of_ble_eq_true rfl), fun p1 hp1 => ⟨_, rfl, rep_rd (c := 0) ⟨p1, rfl, SqT.of upd_same⟩ (by omega) (by omega) fun z1 H12 s12 hz1 => ?_⟩⟩
        have t12 := (same_upd (o := .tup [.int 0]) hp1).trans s12
        refine ⟨line_s (Nat.le_of_ble_eq_true rfl), fun p2 hp2 => cat_rd (ms := [1]) (hz1.same (same_upd hp2)) ⟨p2, rfl, SqT.of upd_same⟩ (by rw [List.length_replicate]; simp; omega) fun z2 H13 s13 hz2 => ?_⟩
        have t13 := t12.trans ((same_upd (o := .tup [.int 1]) hp2).trans s13)
        rw [Int.toNat_natCast] at hz2
        have lz2 : (List.replicate m (0 : Int) ++ [1]).length = m + 1 := by simp
        refine ⟨z2, q, _, rfl, lq, hz2, by rw [poly_snoc]; rfl, by rw [lz2]; omega, ?_, fun y1 H14 s14 hy1 => ?_⟩
        · rw [nrm_append, nrm_zeros]
          exact Nat.le_trans (by decide : 0 + nrm [1] ≤ 2 ^ 1) (Nat.pow_le_pow_right (by decide) (by decide))
        rw [lz2, found_power] at hy1
        have t14 := t13.trans s14
        refine ⟨_, rfl, line_s (Nat.zero_le _), fun p3 hp3 => ⟨.ref p3, q, [], rfl, lq, ⟨p3, rfl, SqT.of upd_same⟩, rfl, by decide, Nat.zero_le _, fun y2 H15 s15 hy2 => ?_⟩⟩
        have s15' := (same_upd (o := .tup []) hp3).trans s15
        have t15 := t14.trans s15'
        have hy15 := hy1.same s15'
        refine ⟨line_s (Nat.le_of_ble_eq_true rfl), fun p4 hp4 => ?_⟩
        have s16 := same_upd (o := .lst [y1, y2]) hp4
        refine ⟨_, rfl, _, rfl, m, q, rfl, lq, by omega, fun z3 H16 s17 hz3 => ?_⟩
        have s18 := s16.trans s17
        refine ⟨line_s (Nat.zero_le _), fun p5 hp5 => ⟨line_s (Nat.le_of_ble_eq_true rfl), fun p6 hp6 => ?_⟩⟩
        have s19 := (same_upd (o := .tup []) hp5).trans (same_upd (o := .lst [z3, .ref p5]) hp6)
        have bs := spc_bits (q := q) (by have := lq.lo; omega) lq.hi m (by omega)
        refine ⟨.ref p4, .ref p6, .list [.tuple ((spc q m).map PyData.int), .tuple []], rfl, .lst (SqL.of ((s17.trans s19) _ _ upd_same)) (.cons (TI.dq0 (hy15.same (s18.trans s19))) (.cons (TI.dq0 (ns := []) (hy2.same (s18.trans s19))) .nil)),
          .lst (SqL.of upd_same) (.cons (TI.dq0 (hz3.same s19)) (.cons (.tup (SqT.of (same_upd hp6 _ _ upd_same)) .nil) .nil)), ?_, true, rfl, iteF ?_⟩
        · have w1 := wd_told (fs := spc q m) (by rw [spc_len]; omega) fun c hc => Nat.lt_of_lt_of_le (bs c hc) (Nat.pow_le_pow_right (by decide) (by omega))
          have w2 := wd_told (fs := []) (by decide) (fun c hc => by cases hc)
          exact (wd_lst (wdAll_cons w1 (wdAll_cons w2 (wdAll_nil (b := 0))))).tell (by decide) (by decide)
        have tt := t15.trans (s18.trans s19)
        exact ⟨_, _, _, _, _, _, _, _, _, rfl, D11.same tt, T11.ext tt⟩
    rintro _ H3 ⟨o2, o3, o4, o5, o6, o7, o8, o9, o10, rfl, D3, T3⟩
    refine ⟨_, rfl, by decide, by decide, for_range (lo := 0) (n := 6)
      (fun i σ H' => ∃ o2 o3 o4 o5 o6 o7 o8 o9 o10, σ = [some (.ref a), some (.ref d), o2, o3, o4, o5, o6, o7, o8, o9, o10, none] ∧ Deck kL H' d l ∧ Tabs (TL T) H')
      ⟨_, _, _, _, _, _, _, _, _, rfl, D3, T3⟩ ?_ ?_⟩
    · clear D3 T3 o2 o3 o4 o5 o6 o7 o8 o9 o10 D1 T1 s1
      rintro i _ H2 hi ⟨o2, o3, o4, o5, o6, o7, o8, o9, o10, rfl, D2, T2⟩
      refine ⟨_, rfl, d, l, 4, rfl, by decide, by decide, D2, fun way H4 w0 w1 e4 D4 => ?_⟩
      have T4 := tabs_but D2 e4 T2
      refine ⟨_, rfl, line_s (Nat.le_of_ble_eq_true rfl), fun p hp => ?_⟩
      have e1 := same_upd (o := .tup [.int 2, .int 3, .int 4, .int 5]) hp
      have D3 := D4.same e1
      have T3 := T4.ext e1
      refine ⟨d, l, p, _, rfl, .inl (SqT.of (D4.at_new hp)), by simp, by decide, D3, fun x H5 hx e5 D5 => ?_⟩
      obtain ⟨q, rfl, lq⟩ := pick_q hx
      have T5 := tabs_but D3 e5 T3
      clear hx e1 hp
      refine ⟨_, rfl, d, l, 9, rfl, by decide, by decide, D5, fun v ns H6 e6 D6 hv pv lv bv => ?_⟩
      have T6 := tabs_but D5 e6 T5
      clear D3 T3 e4 D4 T4 e5 D5 T5 e6 D2 T2
      refine ⟨line_s (Nat.le_of_ble_eq_true rfl), fun p hp => ?_⟩
      have D7 := D6.same (same_upd (o := .tup [.int way, .int q, v]) hp)
      have T7 := T6.ext (same_upd (o := .tup [.int way, .int q, v]) hp)
      have hv7 := hv.same (same_upd (o := .tup [.int way, .int q, v]) hp)
      refine ⟨p, _, rfl, SqT.of upd_same, rfl, _, _, rfl, _, _, rfl, _, _, rfl, rfl, ?_⟩
      generalize upd H6 p (.tup [.int way, .int q, v]) = H7 at D7 T7 hv7 ⊢
      clear hp D6 T6 hv
      dsimp only
      refine (seq_cutI (fun σ' G => ∃ x dq, σ' = [some (.ref a), some (.ref d), some (.int (0 + (i : Int))), o3, o4, some (.int way), o6, o7, o8, some v, some x, none] ∧ Deck kL G d l ∧ Tabs (TL T) G ∧ Dq K (hide d l G) x dq ∧ Sz 200 8 dq ∧ TI K G v ns) (fun D' go => ?_) ?_)
      · refine ⟨_, rfl, _, _, rfl, rfl, _, rfl, ?_⟩
        refine ite2 (fun _ => ?_) (fun _ => ?_)
        · refine ⟨_, rfl, 2, rfl, _, _, rfl, rfl, ⟨by decide, by decide, by decide⟩, line_s (Nat.le_of_ble_eq_true rfl), fun p1 hp1 => ⟨line_s (Nat.le_of_ble_eq_true rfl), fun p2 hp2 => ⟨line_s (Nat.zero_le _), fun p3 hp3 => ?_⟩⟩⟩
          have f1 := D7.at_new (o := .tup [.int 2]) hp1
          have t1 := same_upd (o := .tup [.int 2]) hp1
          have D71 := D7.same t1
          generalize upd H7 p1 (.tup [.int 2]) = G1 at f1 t1 D71 hp2 hp3 ⊢
          have f2 := D71.at_new (o := .lst [.int 2]) hp2
          have t2 := same_upd (o := .lst [.int 2]) hp2
          have D72 := D71.same t2
          generalize upd G1 p2 (.lst [.int 2]) = G2 at f2 t2 D72 hp3 ⊢
          have f3 := D72.at_new (o := .tup []) hp3
          have t3 := same_upd (o := .tup []) hp3
          have D73 := D72.same t3
          generalize upd G2 p3 (.tup []) = G3 at f3 t3 D73 ⊢
          have T73 := T7.ext (t1.trans (t2.trans t3))
          refine ⟨_, rfl, _, rfl, d, l, .int q, .int q, rfl, D73, .int q, ?_, fun x0 dd0 G4 e4 D74 hx0 sz0 cn0 => ?_⟩
          · have h1 := lq.lo
            have h2 := lq.hi
            show q.natAbs < 10 ^ 40
            exact Nat.lt_of_le_of_lt (by omega : q.natAbs ≤ 5) (by decide)
          have T74 := tabs_but D73 e4 T73
          refine ⟨line_s (Nat.le_of_ble_eq_true rfl), fun p4 hp4 => ?_⟩
          have t5 := same_upd (o := .tup [.int 1, .int 6, .int 0, .int (-2), .int 7, .int ((10 : Int) ^ (39 : Int).toNat), .bl true, .non, .str "2", .ref p1, .ref p2, .ref p3, .int 8, .int 9, x0]) hp4
          have all : DqAll K (hide d l G4) [.int 1, .int 6, .int 0, .int (-2), .int 7, .int ((10 : Int) ^ (39 : Int).toNat), .bl true, .non, .str "2", .ref p1, .ref p2, .ref p3, .int 8, .int 9, x0]
              [.int 1, .int 6, .int 0, .int (-2), .int 7, .int ((10 : Int) ^ (39 : Int).toNat), .bool true, .none, .str "2", .tuple [.int 2], .list [.int 2], .tuple [], .int 8, .int 9, dd0] :=
            have k1 := (same_hide t2).trans ((same_hide t3).trans e4.hide)
            have k2 := (same_hide t3).trans e4.hide
            .cons (.int _) (.cons (.int _) (.cons (.int _) (.cons (.int _) (.cons (.int _) (.cons (.int _) (.cons (.bl _) (.cons .non (.cons (.str _) (.cons (.tup (SqT.of (k1 _ _ f1)) (.cons (.int _) .nil)) (.cons (.lst (SqL.of (k2 _ _ f2)) (.cons (.int _) .nil)) (.cons (.tup (SqT.of (e4.hide _ _ f3)) .nil) (.cons (.int _) (.cons (.int _) (.cons hx0 .nil))))))))))))))
          refine ⟨d, l, p4, _, rfl, .inl (SqT.of (D74.at_new hp4)), by simp, Nat.le_of_ble_eq_true rfl, D74.same t5, fun x G5 hxm e5 D75 => ?_⟩
          obtain ⟨dq, hdm, hdq⟩ := dq_mem all hxm
          refine go _ _ ⟨x, dq, rfl, D75, tabs_but (D74.same t5) e5 (T74.ext t5), Dq.same ((same_hide t5).trans e5.hide) _ _ hdq, ?_, ?_⟩
          · exact q_sz sz0 dq hdm
          · exact hv7.but D7 (((But.of (t1.trans (t2.trans t3))).trans e4).trans ((But.of t5).trans e5))
        · exact go _ _ ⟨.int q, .int q, rfl, D7, T7, .int q, (sz_int (b := 0) (k := 0) (Nat.lt_of_le_of_lt (by have h1 := lq.lo; have h2 := lq.hi; omega : q.natAbs ≤ 5) (by decide))).mono (by decide) (by decide), hv7⟩
      rintro _ H8 ⟨x, dq, rfl, D8, T8, hx, zx, hv8⟩
      have of : OddOf (.tuple (ns.map PyData.int)) := ⟨ns, rfl, by omega, bv⟩
      refine (seq_cutI (fun σ' G => ∃ y dp, σ' = [some (.ref a), some (.ref d), some (.int (0 + (i : Int))), o3, o4, some (.int way), o6, o7, o8, some y, some x, none] ∧ Deck kL G d l ∧ Tabs (TL T) G ∧ Dq K (hide d l G) x dq ∧ Dq K (hide d l G) y dp ∧ Sz 200 8 dp ∧ Cnt dp) (fun D' go => ?_) ?_)
      · refine ⟨_, rfl, .inl ⟨_, rfl, _, _, rfl, rfl, (by decide : (0 : Int) < 2), ?_⟩⟩
        refine ⟨rfl, _, rfl, ?_⟩
        refine ite2 (fun _ => ?_) (fun _ => ?_)
        · refine ⟨_, rfl, _, rfl, _, rfl, d, l, v, _, rfl, D8, TI.dq D8 hv8, of, (fun z => Bool.noConfusion z), fun x1 dd1 G1 e1 D9 hx1 sz1 cn1 => ?_⟩
          have T9 := tabs_but D8 e1 T8
          refine ⟨_, rfl, _, rfl, d, l, v, _, rfl, D9, TI.dq D9 (hv8.but D8 e1), of, fun x2 dd2 G2 e2 D10 hx2 sz2 cn2 => ?_⟩
          have T10 := tabs_but D9 e2 T9
          refine ⟨_, rfl, line_s (Nat.le_of_ble_eq_true rfl), fun p1 hp1 => ?_⟩
          have t1 := same_upd (o := .tup [.int 1, .int 2, .int 0, .int 3]) hp1
          have f1 := D10.at_new (o := .tup [.int 1, .int 2, .int 0, .int 3]) hp1
          have D11 := D10.same t1
          have T11 := T10.ext t1
          generalize upd G2 p1 (.tup [.int 1, .int 2, .int 0, .int 3]) = G3 at t1 f1 D11 T11 ⊢
          refine ⟨d, l, .ref p1, .tuple ([1, 2, 0, 3].map PyData.int), rfl, D11, .tup (SqT.of f1) (dq_ints [1, 2, 0, 3]), ⟨[1, 2, 0, 3], rfl, by decide, by decide⟩, (fun z => Bool.noConfusion z), fun x3 dd3 G4 e4 D12 hx3 sz3 cn3 => ?_⟩
          have T12 := tabs_but D11 e4 T11
          refine ⟨line_s (Nat.le_of_ble_eq_true rfl), fun p2 hp2 => ⟨line_s (Nat.le_of_ble_eq_true rfl), fun p3 hp3 => ⟨line_s (Nat.le_of_ble_eq_true rfl), fun p4 hp4 => ?_⟩⟩⟩
          have f2 := D12.at_new (o := .tup [.int 0]) hp2
          have t2 := same_upd (o := .tup [.int 0]) hp2
          have D13 := D12.same t2
          generalize upd G4 p2 (.tup [.int 0]) = G5 at f2 t2 D13 hp3 hp4 ⊢
          have f3 := D13.at_new (o := .lst [.int 1]) hp3
          have t3 := same_upd (o := .lst [.int 1]) hp3
          have D14 := D13.same t3
          generalize upd G5 p3 (.lst [.int 1]) = G6 at f3 t3 D14 hp4 ⊢
          have T14 := T12.ext (t2.trans t3)
          have t5 := same_upd (o := .tup [x1, x2, x3, .ref p2, .ref p3]) hp4
          have k1 := e2.hide.trans ((same_hide t1).trans (e4.hide.trans (same_hide (t2.trans t3))))
          have k2 := (same_hide t1).trans (e4.hide.trans (same_hide (t2.trans t3)))
          have all : DqAll K (hide d l G6) [x1, x2, x3, .ref p2, .ref p3] [dd1, dd2, dd3, .tuple [.int 0], .list [.int 1]] :=
            .cons (Dq.same k1 _ _ hx1) (.cons (Dq.same k2 _ _ hx2) (.cons (Dq.same (same_hide (t2.trans t3)) _ _ hx3) (.cons (.tup (SqT.of (same_hide t3 _ _ f2)) (.cons (.int _) .nil)) (.cons (.lst (SqL.of f3) (.cons (.int _) .nil)) .nil))))
          refine ⟨d, l, p4, _, rfl, .inl (SqT.of (D14.at_new hp4)), by simp, Nat.le_of_ble_eq_true rfl, D14.same t5, fun y G7 hym e5 D15 => ?_⟩
          obtain ⟨dp, hdm, hdp⟩ := dq_mem all hym
          obtain ⟨zp, cp⟩ := p_sz sz1 cn1 (sz2.mono (by decide) (by decide)) cn2 sz3 cn3 dp hdm
          refine go _ _ ⟨y, dp, rfl, D15, tabs_but (D14.same t5) e5 (T14.ext t5), Dq.same (((e1.hide.trans k1)).trans ((same_hide t5).trans e5.hide)) _ _ hx, Dq.same ((same_hide t5).trans e5.hide) _ _ hdp, zp, cp⟩
        · exact go _ _ ⟨v, _, rfl, D8, T8, hx, TI.dq D8 hv8, (sz_tup (k := 0) (sz_ints (by omega) bv)).mono (by decide) (by decide), fun es e => by cases e; rw [List.length_map]; omega⟩
      rintro _ H9 ⟨y, dp, rfl, D9, T9, hx9, hy9, zp, cp⟩
      have bp := polyB zp cp
      clear D8 T8 hx hv8 of pv lv bv hv7 D7 T7 lq w0 w1
      have sz : Sz 500 9 (.tuple [dq, dp]) := sz_tup ((szAll_cons zx (szAll_cons zp (szAll_nil (b := 0)))).mono (by decide) (by decide))
      refine ⟨_, rfl, _, rfl, line_s (Nat.le_of_ble_eq_true rfl), fun p hp => ⟨_, .tuple [dq, dp], rfl, .tup (SqT.of upd_same) (.cons (Dq.same (same_upd hp) _ _ (Dq.same hide_sub _ _ hx9)) (.cons (Dq.same (same_upd hp) _ _ (Dq.same hide_sub _ _ hy9)) .nil)), sz.told.w, _, _, rfl, ?_⟩⟩
      have s6 := same_upd (o := .tup [x, y]) hp
      have D10 := D9.same s6
      have T10 := T9.ext s6
      have hx10 := Dq.same (same_hide s6) _ _ hx9
      have hy10 := Dq.same (same_hide s6) _ _ hy9
      generalize upd H9 p (.tup [x, y]) = H10 at D10 T10 hx10 hy10 ⊢
      clear s6 hp hx9 hy9 D9 T9
      dsimp only
      refine (seq_cutI (fun σ' G => ∃ zd, σ' = [some (.ref a), some (.ref d), some (.int (0 + (i : Int))), o3, o4, some (.int way), some (.str (PyData.tuple [dq, dp]).shown), some zd, o8, some y, some x, none] ∧ Same H10 G ∧ DueV K (hide d l H10) G zd (dueO dq dp)) (fun D' go => ?_) ?_)
      · refine ⟨_, rfl, x, dq, rfl, Dq.same hide_sub _ _ hx10, (zx.told (by decide) (by decide)).w, line_s (Nat.le_of_ble_eq_true rfl), fun p1 hp1 => ⟨p1, _, rfl, .inr (SqT.of upd_same), rfl, rfl, _, rfl, ?_⟩⟩
        have t1 := same_upd (o := .tup [.str "2", .str "3", .str "4", .str "5"]) hp1
        generalize upd H10 p1 (.tup [.str "2", .str "3", .str "4", .str "5"]) = G1 at t1 ⊢
        show (if (!inV (.str dq.shown) [.str "2", .str "3", .str "4", .str "5"]) = true then _ else _)
        rw [in_q]
        cases eq : inFrom 2 5 (asInt dq) with
        | false =>
          refine iteT ⟨_, rfl, line_s (Nat.le_of_ble_eq_true rfl), fun p2 hp2 => go _ _ ⟨_, rfl, t1.trans (same_upd hp2), ?_⟩⟩
          unfold dueO
          rw [if_pos eq]
          exact ⟨p2, "field", x, dq, rfl, upd_same, .inl hx10, rfl⟩
        | true =>
          refine iteF ⟨_, rfl, y, asInts dp, rfl, dq_lev (Dq.same t1 _ _ (Dq.same hide_sub _ _ hy10)) bp, fun G2 t2 => ⟨_, rfl, ?_⟩⟩
          cases ep : polyQ (asInts dp) with
          | true =>
            refine iteF (go _ _ ⟨_, rfl, t1.trans t2, ?_⟩)
            rw [due_n eq ep]
            rfl
          | false =>
            refine iteT ⟨_, rfl, line_s (Nat.le_of_ble_eq_true rfl), fun p2 hp2 => go _ _ ⟨_, rfl, (t1.trans t2).trans (same_upd hp2), ?_⟩⟩
            unfold dueO
            rw [if_neg (by rw [eq]; decide), if_pos ep]
            exact ⟨p2, "polynomial", y, dp, rfl, upd_same, .inl hy10, rfl⟩
      rintro _ H11 ⟨zd, rfl, s11, hd⟩
      have D11 := D10.same s11
      have T11 := T10.ext s11
      have g1 : Dq K (noT H11) x dq := Dq.noT _ _ (Dq.same hide_sub _ _ (Dq.same (same_hide s11) _ _ hx10))
      have g2 : Dq K (noT H11) y dp := Dq.noT _ _ (Dq.same hide_sub _ _ (Dq.same (same_hide s11) _ _ hy10))
      have kd : DueV K (noT H11) H11 zd (dueO dq dp) := hd.toNoT s11
      clear D10 T10 s11 hx10 hy10 hd
      refine ⟨T11, fun Ha ea Ta => ⟨_, rfl, _, rfl, lam_sub T g1 g2 bp (ground ea) fun y1 Hb sb hz => ⟨line_s (Nat.le_of_ble_eq_true rfl), fun L hL => ?_⟩⟩⟩
      have S1 := Sofar.one (ea.trans (same_extN sb)) (Ta.ext sb) hz hL
      have kk := (Keep.ext ea).trans (Keep.of (sb.trans (same_upd (o := .lst [y1]) hL)))
      replace kd := kd.keep kk
      generalize upd Hb L (.lst [y1]) = Hc at S1 kd ⊢
      clear hz hL sb Ta ea kk
      refine ⟨_, rfl, .inl ⟨rfl, _, SqL.of S1.l⟩, S1.t, fun Ha ea Ta => ⟨_, rfl, _, rfl, lam_sub T g1 g2 bp (S1.g ea) fun y2 Hb sb hz => ⟨L, _, _, rfl, rfl, S1.at ea sb, line_le (Nat.le_of_ble_eq_true rfl), ?_⟩⟩⟩
      have S2 := S1.more ea Ta sb hz
      have kk := (Keep.ext ea).trans ((Keep.of sb).trans (Keep.lst (ys := [y1] ++ [y2]) (S1.at ea sb)))
      replace kd := kd.keep kk
      generalize upd Hb L (.lst ([y1] ++ [y2])) = Hd at S2 kd ⊢
      clear hz sb Ta ea kk S1
      have gd := ground S2.e
      refine ⟨_, rfl, _, rfl, line_s (Nat.le_of_ble_eq_true rfl), fun p2 hp2 => ⟨_, .tuple [dq, dp], rfl, .tup (SqT.of upd_same) (.cons (Dq.same (gd.trans (same_upd hp2)) _ _ g1) (.cons (Dq.same (gd.trans (same_upd hp2)) _ _ g2) .nil)), sz.told.w, _, rfl, _, _, _, rfl, .str _, .str _, (shown_told sz).w, true, rfl, iteF ?_⟩⟩
      have s3 := same_upd (o := .tup [x, y]) hp2
      generalize upd Hd p2 (.tup [x, y]) = He at s3 ⊢
      have De := (D11.extN S2.e).same s3
      have Te := S2.t.ext s3
      replace kd := kd.keep (Keep.of s3)
      have hL := s3 _ _ S2.l
      have r1 : Rig K (noT H11) He (tellD dq dp) y1 := (S2.a y1 (by simp)).keep (Keep.of s3)
      have r2 : Rig K (noT H11) He (tellD dq dp) y2 := (S2.a y2 (by simp)).keep (Keep.of s3)
      have ge := gd.trans s3
      clear S2 s3 hp2 gd
      have d1 := r1.dq ge
      have d2 := r2.dq ge
      cases hdue : dueO dq dp with
      | none =>
        rw [hdue] at kd
        obtain rfl : zd = .non := kd
        obtain ⟨q, ms, rfl, lq, ens, pms, rfl⟩ := due_none hdue
        obtain rfl : x = .int q := by cases g1; rfl
        obtain ⟨lms, nms⟩ := bp.b ms ens
        have hy : TI K He y ms := dq_ti (Dq.same ge _ _ g2)
        have eD : tellD (.int q) (.tuple (ms.map PyData.int)) = .tuple [.str "told", .tuple ((sfound q ms ms.length).map PyData.int)] := by
          unfold tellD foundD
          rw [hdue, rowD_eq ens]
          rfl
        rw [eD] at r1 r2 d1 d2
        obtain ⟨p1, wd, v1, e1, rfl, hp1, hv1, ew⟩ := r1
        obtain ⟨rfl, rfl⟩ : wd = "told" ∧ e1 = .tuple ((sfound q ms ms.length).map PyData.int) := by
          have z := List.cons.inj (PyData.tuple.inj ew)
          exact ⟨(PyData.str.inj z.1).symm, (List.cons.inj z.2).1.symm⟩
        have hv : TI K He v1 (sfound q ms ms.length) := dq_ti (hv1.dq ge)
        have fb := found_small (q := q) (by have := lq.lo; omega) lq.hi lms nms
        have fl := sfound_len q ms ms.length
        refine ⟨_, rfl, rfl, _, rfl, ?_⟩
        rw [decide_eq_true rfl]
        refine iteF ?_
        refine ⟨_, rfl, rfl, _, rfl, ?_⟩
        rw [decide_eq_true rfl]
        refine iteT ?_
        refine ⟨_, rfl, L, _, 0, .ref p1, rfl, rfl, SqL.of hL, atI_nat (j := 0) rfl, p1, _, 0, .str "told", rfl, rfl, SqT.of hp1, atI_nat (j := 0) rfl, rfl, _, rfl, ?_⟩
        rw [decide_eq_true rfl]
        refine iteF ?_
        refine ⟨_, rfl, L, _, 0, .ref p1, rfl, rfl, SqL.of hL, atI_nat (j := 0) rfl, _, rfl, L, _, 1, y2, rfl, rfl, SqL.of hL, atI_nat (j := 1) rfl, .ref p1, y2, _, rfl, d1, d2, ?_, true, rfl, iteF ?_⟩
        · have w1 := wd_told (fs := sfound q ms ms.length) (by rw [fl]; exact lms) fb
          exact (wd_tup (wdAll_cons (wd_text (b := 30) (k := 2) (s := "told") (by decide)) (wdAll_cons w1 (wdAll_nil (b := 0))))).tell (by decide) (by decide)
        refine ⟨_, rfl, L, _, 0, .ref p1, rfl, rfl, SqL.of hL, atI_nat (j := 0) rfl, p1, _, 1, v1, rfl, rfl, SqT.of hp1, atI_nat (j := 1) rfl, _, rfl, _, rfl, v1, y, q, _, ms, rfl, lq, hv, hy, fl, by omega, Nat.lt_of_le_of_lt nms (Nat.pow_lt_pow_right (by decide) (by decide)), (fun c hc => Nat.lt_trans (fb c hc) (Nat.pow_lt_pow_right (by decide) (by decide))), fun z => found_newton q z ms, fun Hf sf => ⟨true, rfl, iteF ?_⟩⟩
        exact ⟨_, _, _, _, _, _, _, _, _, rfl, De.same sf, Te.ext sf⟩
      | some D =>
        rw [hdue] at kd
        have eD : tellD dq dp = D := by
          unfold tellD
          rw [hdue]
          rfl
        rw [eD] at d1 d2
        have k1 : Rig K (noT H11) He D zd := kd
        have kz := k1.dq ge
        obtain ⟨pz, wd, vz, ez, rfl, _⟩ := k1
        have nz : (V.ref pz : V) ≠ .non := by intro z; cases z
        refine ⟨_, rfl, rfl, _, rfl, ?_⟩
        rw [decide_eq_false nz]
        refine iteT ?_
        refine ⟨_, rfl, _, rfl, _, rfl, line_s (Nat.le_of_ble_eq_true rfl), fun p3 hp3 => ?_⟩
        have s3 := same_upd (o := .lst [.ref pz, .ref pz]) hp3
        refine ⟨.ref L, .ref p3, .list [D, D], rfl, .lst (SqL.of (s3 _ _ hL)) (.cons (Dq.same s3 _ _ d1) (.cons (Dq.same s3 _ _ d2) .nil)), .lst (SqL.of upd_same) (.cons (Dq.same s3 _ _ kz) (.cons (Dq.same s3 _ _ kz) .nil)), ?_, true, rfl, iteF ?_⟩
        · have zD : Sz 300 10 D := due_sz zx zp hdue
          exact ((sz_lst (szAll_cons zD (szAll_cons zD (szAll_nil (b := 0))))).told (by decide) (by decide)).w
        refine ⟨_, rfl, rfl, _, rfl, ?_⟩
        rw [decide_eq_false nz]
        exact iteF ⟨_, _, _, _, _, _, _, _, _, rfl, De.same s3, Te.ext s3⟩
    · rintro _ H15 ⟨o2, o3, o4, o5, o6, o7, o8, o9, o10, rfl, D2, T2⟩
      have z1 : (1 : Nat) ≤ sizeLine := by rw [sizeLine_eq]; decide
      refine ⟨line_s (Nat.le_of_ble_eq_true rfl), fun p7 hp7 => ⟨z1, fun p8 hp8 => fun b dx hb hdx hne => ?_⟩⟩
      have u7 := same_upd (o := .tup [.int 1, .int 1]) hp7
      have v1 := same_upd (o := .tup [.ref p7]) hp8
      have T16 := T2.ext (u7.trans v1)
      generalize hH16 : upd (upd H15 p7 (.tup [.int 1, .int 1])) p8 (.tup [.ref p7]) = H16 at hb hdx v1 T16
      have hp7' : SqT K H16 p7 [.int 1, .int 1] := sqT_same v1 (SqT.of upd_same)
      have hp8' : SqT K H16 p8 [.ref p7] := by
        rw [← hH16]
        exact SqT.of upd_same
      have hb2 : (upd H16 dx (.own b)) b = none := by rw [upd_ne hne.symm]; exact hb
      refine ⟨H16, b, dx, 2, 2, .ref p8, [[1, 1]], rfl, (same_upd hdx).trans (same_upd hb2), hb, upd_same, ⟨by decide, by decide⟩, ⟨by decide, by decide⟩, ⟨p8, _, rfl, hp8', .cons ⟨p7, rfl, hp7'⟩ .nil⟩, ?_, by decide, fun H17 s17 hbk => ⟨rfl, ?_⟩⟩
      · intro r hr
        rw [List.mem_singleton.mp hr]
        refine ⟨fun c hc => ?_, rfl⟩
        simp only [List.mem_cons, List.not_mem_nil, or_false] at hc
        rcases hc with rfl | rfl <;> exact ⟨by decide, by decide⟩
      have gl : (gauss 2 2 [[1, 1]]).length ≤ 20 := by decide
      generalize gauss 2 2 [[1, 1]] = Rs at hbk gl
      exact ⟨b, rfl, ⟨2, 2, Rs, hbk, gl⟩, T16.ext s17, fun H18 e18 T18 => qq H18⟩
end
end K28
end
section
set_option maxRecDepth 100000
set_option maxHeartbeats 4000000
namespace K28
open PySem PySem.Spec PyProof.Rows L2 MB
open LamX hiding takes0
theorem tabIn_of {K : PySem.W.Frag} {x : Str} {f c Pt : Addr} {oc cc : Value} {od cd : Option Addr} {fd : FuncData} {sl cs : Array (Option Value)} {vs : Array Value} (a : PySem.W.nsIn K mainGlobals x = some (some (.ref f)))
    (l : K.lookup f = some ⟨oc, od, .func fd, sl⟩) (hc : fd.code = .ref c) (lc : K.lookup c = some ⟨cc, cd, .fields vs, cs⟩) (hv : (vs[11]? : Option Value) = some (.ref Pt)) : PySem.W.tabIn K x = some (c, Pt) := by
  unfold PySem.W.tabIn
  rw [a]
  dsimp only
  rw [l]
  dsimp only
  rw [hc]
  dsimp only
  rw [lc]
  dsimp only
  rw [hv]
theorem kit_sub {K : PySem.W.Frag} {C : Addr} {T : String} {r : Bool} (m : PySem.W.kitMeta T = true) (h : PySem.W.subIn K (.ref C) (.type T) = some r) : PySem.W.kitOne K (.ref C) (.type T) = some r := by
  unfold PySem.W.kitOne
  rw [if_neg (by intro z; cases (eq_of_beq z))]
  show (if PySem.W.kitMeta T = true then PySem.W.subIn K (.ref C) (.type T) else none) = some r
  rw [if_pos m]
  exact h
theorem kit_clsR {K : PySem.W.Frag} {C D : Addr} {r : Bool} (c : PySem.W.isClsIn K D = true) (ty : PySem.W.typeIn K (.ref D) = some (.type "type")) (s : PySem.W.subIn K (.ref C) (.ref D) = some r) : PySem.W.kitCls K (.ref C) (.ref D) = some r := by
  have c' : (PySem.W.clsIn K D).isSome = true := c
  have e2 : ((PySem.W.clsIn K D).isSome && PySem.W.typeIn K (.ref D) == some (.type "type")) = true := by
    rw [c', ty] <;> rfl
  show (if ((PySem.W.clsIn K D).isSome && PySem.W.typeIn K (.ref D) == some (.type "type")) = true then PySem.W.subIn K (.ref C) (.ref D) else none) = some r
  rw [if_pos e2]
  exact s
theorem kit_refT {K : PySem.W.Frag} {C D : Addr} (c : PySem.W.isClsIn K D = true) (ty : PySem.W.typeIn K (.ref D) = some (.type "type")) (s : PySem.W.subIn K (.ref C) (.ref D) = some true) : PySem.W.kitOne K (.ref C) (.ref D) = some true := by
  show (if (Value.ref C == Value.ref D) = true then some true else _) = some true
  split
  · rfl
  · exact kit_clsR c ty s
theorem kit_refF {K : PySem.W.Frag} {C D : Addr} (n : C ≠ D) (c : PySem.W.isClsIn K D = true) (ty : PySem.W.typeIn K (.ref D) = some (.type "type")) (s : PySem.W.subIn K (.ref C) (.ref D) = some false) : PySem.W.kitOne K (.ref C) (.ref D) = some false := by
  show (if (Value.ref C == Value.ref D) = true then some true else _) = some false
  rw [if_neg (fun z => n (Value.ref.inj (eq_of_beq z)))]
  exact kit_clsR c ty s
theorem four_mk {K : PySem.W.Frag} {t r0 r1 r2 r3 : Addr} {d d0 d1 d2 d3 : Option Addr} {n n0 n1 n2 n3 : Nat} {sl sl0 sl1 sl2 sl3 : Array (Option Value)}
    {a0 a1 a2 a3 b0 b1 b2 b3 c0 c1 c2 c3 e0 e1 e2 e3 : Tok}
    (lt : K.lookup t = some ⟨.type "tuple", d, .seq #[.ref r0, .ref r1, .ref r2, .ref r3] n, sl⟩)
    (l0 : K.lookup r0 = some ⟨.type "tuple", d0, .seq #[.int 0 a0, .int 0 a1, .int 0 a2, .int 0 a3] n0, sl0⟩)
    (l1 : K.lookup r1 = some ⟨.type "tuple", d1, .seq #[.int 0 b0, .int 1 b1, .int 2 b2, .int 3 b3] n1, sl1⟩)
    (l2 : K.lookup r2 = some ⟨.type "tuple", d2, .seq #[.int 0 c0, .int 2 c1, .int 3 c2, .int 1 c3] n2, sl2⟩)
    (l3 : K.lookup r3 = some ⟨.type "tuple", d3, .seq #[.int 0 e0, .int 3 e1, .int 1 e2, .int 2 e3] n3, sl3⟩) : FourTab K t := by
  refine ⟨[r0, r1, r2, r3], rfl, fun H => .inr ⟨_, _, _, lt, rfl, rfl, by rw [sizeLine_eq]; exact (by decide : 4 ≤ 16777216), .cons rfl (.cons rfl (.cons rfl (.cons rfl .nil)))⟩, fun i r H e => ?_⟩
  have z : (4 : Nat) ≤ sizeLine := by rw [sizeLine_eq]; decide
  match i, e with
  | 0, e =>
    cases e
    exact .inr ⟨_, _, _, l0, rfl, rfl, z, .cons ⟨_, rfl⟩ (.cons ⟨_, rfl⟩ (.cons ⟨_, rfl⟩ (.cons ⟨_, rfl⟩ .nil)))⟩
  | 1, e =>
    cases e
    exact .inr ⟨_, _, _, l1, rfl, rfl, z, .cons ⟨_, rfl⟩ (.cons ⟨_, rfl⟩ (.cons ⟨_, rfl⟩ (.cons ⟨_, rfl⟩ .nil)))⟩
  | 2, e =>
    cases e
    exact .inr ⟨_, _, _, l2, rfl, rfl, z, .cons ⟨_, rfl⟩ (.cons ⟨_, rfl⟩ (.cons ⟨_, rfl⟩ (.cons ⟨_, rfl⟩ .nil)))⟩
  | 3, e =>
    cases e
    exact .inr ⟨_, _, _, l3, rfl, rfl, z, .cons ⟨_, rfl⟩ (.cons ⟨_, rfl⟩ (.cons ⟨_, rfl⟩ (.cons ⟨_, rfl⟩ .nil)))⟩
theorem all_mk {w : World} {K : PySem.W.Frag} {h : Heap} {mg : Str → Option Value} {fa : Addr} (X : K.In h) (G : h.Ns mainGlobals mg) (hfa : mg "law" = some (.ref fa))
    {q : Program} (tq : ∀ (x : Str) (r : DefRec) (c P : Addr), (recsOf q).find? (fun e => e.name == x) = some r → PySem.W.tabIn K x = some (c, P) → PySem.W.CodeHd h c P ∧ h.get? P = some (PySem.W.tabObj #[])) (nK : PySem.W.noTabs K = true)
    {f0 : Addr} {od0 an0 : Option Addr} {sl0 : Array (Option Value)} {oc0 kV0 dc0 pm0 cd0 ct0 : Value}
    {f1 : Addr} {od1 an1 : Option Addr} {sl1 : Array (Option Value)} {oc1 kV1 dc1 pm1 cd1 ct1 : Value}
    {f2 : Addr} {od2 an2 : Option Addr} {sl2 : Array (Option Value)} {oc2 kV2 dc2 pm2 cd2 ct2 : Value}
    {f3 : Addr} {od3 an3 : Option Addr} {sl3 : Array (Option Value)} {oc3 kV3 dc3 pm3 cd3 ct3 : Value}
    {f4 : Addr} {od4 an4 : Option Addr} {sl4 : Array (Option Value)} {oc4 kV4 dc4 pm4 cd4 ct4 : Value}
    {f5 : Addr} {od5 an5 : Option Addr} {sl5 : Array (Option Value)} {oc5 kV5 dc5 pm5 cd5 ct5 : Value}
    {f6 : Addr} {od6 an6 : Option Addr} {sl6 : Array (Option Value)} {oc6 kV6 dc6 pm6 cd6 ct6 : Value}
    {f7 : Addr} {od7 an7 : Option Addr} {sl7 : Array (Option Value)} {oc7 kV7 dc7 pm7 cd7 ct7 : Value}
    {f8 : Addr} {od8 an8 : Option Addr} {sl8 : Array (Option Value)} {oc8 kV8 dc8 pm8 cd8 ct8 : Value}
    {f9 : Addr} {od9 an9 : Option Addr} {sl9 : Array (Option Value)} {oc9 kV9 dc9 pm9 cd9 ct9 : Value}
    {f10 : Addr} {od10 an10 : Option Addr} {sl10 : Array (Option Value)} {oc10 kV10 dc10 pm10 cd10 ct10 : Value}
    {f11 : Addr} {od11 an11 : Option Addr} {sl11 : Array (Option Value)} {oc11 kV11 dc11 pm11 cd11 ct11 : Value}
    {f12 : Addr} {od12 an12 : Option Addr} {sl12 : Array (Option Value)} {oc12 kV12 dc12 pm12 cd12 ct12 : Value}
    {f13 : Addr} {od13 an13 : Option Addr} {sl13 : Array (Option Value)} {oc13 kV13 dc13 pm13 cd13 ct13 : Value}
    {f14 : Addr} {od14 an14 : Option Addr} {sl14 : Array (Option Value)} {oc14 kV14 dc14 pm14 cd14 ct14 : Value}
    {f15 : Addr} {od15 an15 : Option Addr} {sl15 : Array (Option Value)} {oc15 kV15 dc15 pm15 cd15 ct15 : Value}
    {f16 : Addr} {od16 an16 : Option Addr} {sl16 : Array (Option Value)} {oc16 kV16 dc16 pm16 cd16 ct16 : Value}
    {f17 : Addr} {od17 an17 : Option Addr} {sl17 : Array (Option Value)} {oc17 kV17 dc17 pm17 cd17 ct17 : Value}
    {f18 : Addr} {od18 an18 : Option Addr} {sl18 : Array (Option Value)} {oc18 kV18 dc18 pm18 cd18 ct18 : Value}
    {f19 : Addr} {od19 an19 : Option Addr} {sl19 : Array (Option Value)} {oc19 kV19 dc19 pm19 cd19 ct19 : Value}
    {f20 : Addr} {od20 an20 : Option Addr} {sl20 : Array (Option Value)} {oc20 kV20 dc20 pm20 cd20 ct20 : Value}
    {f21 : Addr} {od21 an21 : Option Addr} {sl21 : Array (Option Value)} {oc21 kV21 dc21 pm21 cd21 ct21 : Value}
    {f22 : Addr} {od22 an22 : Option Addr} {sl22 : Array (Option Value)} {oc22 kV22 dc22 pm22 cd22 ct22 : Value}
    {f23 : Addr} {od23 an23 : Option Addr} {sl23 : Array (Option Value)} {oc23 kV23 dc23 pm23 cd23 ct23 : Value}
    {f24 : Addr} {od24 an24 : Option Addr} {sl24 : Array (Option Value)} {oc24 kV24 dc24 pm24 cd24 ct24 : Value}
    {f25 : Addr} {od25 an25 : Option Addr} {sl25 : Array (Option Value)} {oc25 kV25 dc25 pm25 cd25 ct25 : Value}
    {f26 : Addr} {od26 an26 : Option Addr} {sl26 : Array (Option Value)} {oc26 kV26 dc26 pm26 cd26 ct26 : Value}
    {f27 : Addr} {od27 an27 : Option Addr} {sl27 : Array (Option Value)} {oc27 kV27 dc27 pm27 cd27 ct27 : Value}
    {f28 : Addr} {od28 an28 : Option Addr} {sl28 : Array (Option Value)} {oc28 kV28 dc28 pm28 cd28 ct28 : Value}
    {f29 : Addr} {od29 an29 : Option Addr} {sl29 : Array (Option Value)} {oc29 kV29 dc29 pm29 cd29 ct29 : Value}
    {f30 : Addr} {od30 an30 : Option Addr} {sl30 : Array (Option Value)} {oc30 kV30 dc30 pm30 cd30 ct30 : Value}
    {f31 : Addr} {od31 an31 : Option Addr} {sl31 : Array (Option Value)} {oc31 kV31 dc31 pm31 cd31 ct31 : Value}
    {f32 : Addr} {od32 an32 : Option Addr} {sl32 : Array (Option Value)} {oc32 kV32 dc32 pm32 cd32 ct32 : Value}
    {f33 : Addr} {od33 an33 : Option Addr} {sl33 : Array (Option Value)} {oc33 kV33 dc33 pm33 cd33 ct33 : Value}
    {f34 : Addr} {od34 an34 : Option Addr} {sl34 : Array (Option Value)} {oc34 kV34 dc34 pm34 cd34 ct34 : Value}
    {f35 : Addr} {od35 an35 : Option Addr} {sl35 : Array (Option Value)} {oc35 kV35 dc35 pm35 cd35 ct35 : Value}
    {f36 : Addr} {od36 an36 : Option Addr} {sl36 : Array (Option Value)} {oc36 kV36 dc36 pm36 cd36 ct36 : Value}
    {f37 : Addr} {od37 an37 : Option Addr} {sl37 : Array (Option Value)} {oc37 kV37 dc37 pm37 cd37 ct37 : Value}
    {f38 : Addr} {od38 an38 : Option Addr} {sl38 : Array (Option Value)} {oc38 kV38 dc38 pm38 ct38 : Value}
    {f39 : Addr} {od39 an39 : Option Addr} {sl39 : Array (Option Value)} {oc39 kV39 dc39 pm39 ct39 : Value}
    {c__law_are_books_refused tP__law_are_books_refused : Addr}
    {c_law tP_law : Addr}
    {B0 : Addr} (gB : PySem.W.nsIn K mainGlobals "BookError" = some (some (.ref B0)))
    {C_BadField I_BadField : Addr} (e_BadField : Er.Txt P K mg B0 C_BadField I_BadField "BadField" "thing")
    {C_BadPolynomial I_BadPolynomial : Addr} (e_BadPolynomial : Er.Txt P K mg B0 C_BadPolynomial I_BadPolynomial "BadPolynomial" "thing")
    {C_Book : Addr} (aC_Book : PySem.W.nsIn K mainGlobals "Book" = some (some (.ref C_Book)))
    (a0 : PySem.W.nsIn K mainGlobals "letter_sum" = some (some (.ref f0))) (l0 : K.lookup f0 = some ⟨oc0, od0, .func (PySem.W.fnOf "letter_sum" "letter_sum" (defArgs s_letter_sum) (defBody s_letter_sum) (defScope s_letter_sum) .none kV0 dc0 pm0 an0 cd0 ct0), sl0⟩) (c0 : PySem.W.codeIn K cd0 "letter_sum" = true) (k0 : PySem.W.keepIn K (.ref f0) = true)
    (a1 : PySem.W.nsIn K mainGlobals "letter_negative" = some (some (.ref f1))) (l1 : K.lookup f1 = some ⟨oc1, od1, .func (PySem.W.fnOf "letter_negative" "letter_negative" (defArgs s_letter_negative) (defBody s_letter_negative) (defScope s_letter_negative) .none kV1 dc1 pm1 an1 cd1 ct1), sl1⟩) (c1 : PySem.W.codeIn K cd1 "letter_negative" = true) (k1 : PySem.W.keepIn K (.ref f1) = true)
    (a2 : PySem.W.nsIn K mainGlobals "letter_times" = some (some (.ref f2))) (l2 : K.lookup f2 = some ⟨oc2, od2, .func (PySem.W.fnOf "letter_times" "letter_times" (defArgs s_letter_times) (defBody s_letter_times) (defScope s_letter_times) .none kV2 dc2 pm2 an2 cd2 ct2), sl2⟩) (c2 : PySem.W.codeIn K cd2 "letter_times" = true) (k2 : PySem.W.keepIn K (.ref f2) = true)
    (a3 : PySem.W.nsIn K mainGlobals "letter_inverse" = some (some (.ref f3))) (l3 : K.lookup f3 = some ⟨oc3, od3, .func (PySem.W.fnOf "letter_inverse" "letter_inverse" (defArgs s_letter_inverse) (defBody s_letter_inverse) (defScope s_letter_inverse) .none kV3 dc3 pm3 an3 cd3 ct3), sl3⟩) (c3 : PySem.W.codeIn K cd3 "letter_inverse" = true) (k3 : PySem.W.keepIn K (.ref f3) = true)
    (a4 : PySem.W.nsIn K mainGlobals "row_sum" = some (some (.ref f4))) (l4 : K.lookup f4 = some ⟨oc4, od4, .func (PySem.W.fnOf "row_sum" "row_sum" (defArgs s_row_sum) (defBody s_row_sum) (defScope s_row_sum) .none kV4 dc4 pm4 an4 cd4 ct4), sl4⟩) (c4 : PySem.W.codeIn K cd4 "row_sum" = true) (k4 : PySem.W.keepIn K (.ref f4) = true)
    (a5 : PySem.W.nsIn K mainGlobals "row_times" = some (some (.ref f5))) (l5 : K.lookup f5 = some ⟨oc5, od5, .func (PySem.W.fnOf "row_times" "row_times" (defArgs s_row_times) (defBody s_row_times) (defScope s_row_times) .none kV5 dc5 pm5 an5 cd5 ct5), sl5⟩) (c5 : PySem.W.codeIn K cd5 "row_times" = true) (k5 : PySem.W.keepIn K (.ref f5) = true)
    (a6 : PySem.W.nsIn K mainGlobals "row_support" = some (some (.ref f6))) (l6 : K.lookup f6 = some ⟨oc6, od6, .func (PySem.W.fnOf "row_support" "row_support" (defArgs s_row_support) (defBody s_row_support) (defScope s_row_support) .none kV6 dc6 pm6 an6 cd6 ct6), sl6⟩) (c6 : PySem.W.codeIn K cd6 "row_support" = true) (k6 : PySem.W.keepIn K (.ref f6) = true)
    (a7 : PySem.W.nsIn K mainGlobals "is_integer" = some (some (.ref f7))) (l7 : K.lookup f7 = some ⟨oc7, od7, .func (PySem.W.fnOf "is_integer" "is_integer" (defArgs s_is_integer) (defBody s_is_integer) (defScope s_is_integer) .none kV7 dc7 pm7 an7 cd7 ct7), sl7⟩) (c7 : PySem.W.codeIn K cd7 "is_integer" = true) (k7 : PySem.W.keepIn K (.ref f7) = true)
    (a8 : PySem.W.nsIn K mainGlobals "is_integer_from" = some (some (.ref f8))) (l8 : K.lookup f8 = some ⟨oc8, od8, .func (PySem.W.fnOf "is_integer_from" "is_integer_from" (defArgs s_is_integer_from) (defBody s_is_integer_from) (defScope s_is_integer_from) .none kV8 dc8 pm8 an8 cd8 ct8), sl8⟩) (c8 : PySem.W.codeIn K cd8 "is_integer_from" = true) (k8 : PySem.W.keepIn K (.ref f8) = true)
    (a9 : PySem.W.nsIn K mainGlobals "are_integers" = some (some (.ref f9))) (l9 : K.lookup f9 = some ⟨oc9, od9, .func (PySem.W.fnOf "are_integers" "are_integers" (defArgs s_are_integers) (defBody s_are_integers) (defScope s_are_integers) .none kV9 dc9 pm9 an9 cd9 ct9), sl9⟩) (c9 : PySem.W.codeIn K cd9 "are_integers" = true) (k9 : PySem.W.keepIn K (.ref f9) = true)
    (a10 : PySem.W.nsIn K mainGlobals "are_integers_from" = some (some (.ref f10))) (l10 : K.lookup f10 = some ⟨oc10, od10, .func (PySem.W.fnOf "are_integers_from" "are_integers_from" (defArgs s_are_integers_from) (defBody s_are_integers_from) (defScope s_are_integers_from) .none kV10 dc10 pm10 an10 cd10 ct10), sl10⟩) (c10 : PySem.W.codeIn K cd10 "are_integers_from" = true) (k10 : PySem.W.keepIn K (.ref f10) = true)
    (a11 : PySem.W.nsIn K mainGlobals "are_letters" = some (some (.ref f11))) (l11 : K.lookup f11 = some ⟨oc11, od11, .func (PySem.W.fnOf "are_letters" "are_letters" (defArgs s_are_letters) (defBody s_are_letters) (defScope s_are_letters) .none kV11 dc11 pm11 an11 cd11 ct11), sl11⟩) (c11 : PySem.W.codeIn K cd11 "are_letters" = true) (k11 : PySem.W.keepIn K (.ref f11) = true)
    (a12 : PySem.W.nsIn K mainGlobals "is_row" = some (some (.ref f12))) (l12 : K.lookup f12 = some ⟨oc12, od12, .func (PySem.W.fnOf "is_row" "is_row" (defArgs s_is_row) (defBody s_is_row) (defScope s_is_row) .none kV12 dc12 pm12 an12 cd12 ct12), sl12⟩) (c12 : PySem.W.codeIn K cd12 "is_row" = true) (k12 : PySem.W.keepIn K (.ref f12) = true)
    (a13 : PySem.W.nsIn K mainGlobals "check_field" = some (some (.ref f13))) (l13 : K.lookup f13 = some ⟨oc13, od13, .func (PySem.W.fnOf "check_field" "check_field" (defArgs s_check_field) (defBody s_check_field) (defScope s_check_field) .none kV13 dc13 pm13 an13 cd13 ct13), sl13⟩) (c13 : PySem.W.codeIn K cd13 "check_field" = true) (k13 : PySem.W.keepIn K (.ref f13) = true)
    (a14 : PySem.W.nsIn K mainGlobals "is_polynomial" = some (some (.ref f14))) (l14 : K.lookup f14 = some ⟨oc14, od14, .func (PySem.W.fnOf "is_polynomial" "is_polynomial" (defArgs s_is_polynomial) (defBody s_is_polynomial) (defScope s_is_polynomial) .none kV14 dc14 pm14 an14 cd14 ct14), sl14⟩) (c14 : PySem.W.codeIn K cd14 "is_polynomial" = true) (k14 : PySem.W.keepIn K (.ref f14) = true)
    (a15 : PySem.W.nsIn K mainGlobals "check_polynomial" = some (some (.ref f15))) (l15 : K.lookup f15 = some ⟨oc15, od15, .func (PySem.W.fnOf "check_polynomial" "check_polynomial" (defArgs s_check_polynomial) (defBody s_check_polynomial) (defScope s_check_polynomial) .none kV15 dc15 pm15 an15 cd15 ct15), sl15⟩) (c15 : PySem.W.codeIn K cd15 "check_polynomial" = true) (k15 : PySem.W.keepIn K (.ref f15) = true)
    (a16 : PySem.W.nsIn K mainGlobals "lead_of" = some (some (.ref f16))) (l16 : K.lookup f16 = some ⟨oc16, od16, .func (PySem.W.fnOf "lead_of" "lead_of" (defArgs s_lead_of) (defBody s_lead_of) (defScope s_lead_of) .none kV16 dc16 pm16 an16 cd16 ct16), sl16⟩) (c16 : PySem.W.codeIn K cd16 "lead_of" = true) (k16 : PySem.W.keepIn K (.ref f16) = true)
    (a17 : PySem.W.nsIn K mainGlobals "with_zero_at" = some (some (.ref f17))) (l17 : K.lookup f17 = some ⟨oc17, od17, .func (PySem.W.fnOf "with_zero_at" "with_zero_at" (defArgs s_with_zero_at) (defBody s_with_zero_at) (defScope s_with_zero_at) .none kV17 dc17 pm17 an17 cd17 ct17), sl17⟩) (c17 : PySem.W.codeIn K cd17 "with_zero_at" = true) (k17 : PySem.W.keepIn K (.ref f17) = true)
    (a18 : PySem.W.nsIn K mainGlobals "reduced_rows" = some (some (.ref f18))) (l18 : K.lookup f18 = some ⟨oc18, od18, .func (PySem.W.fnOf "reduced_rows" "reduced_rows" (defArgs s_reduced_rows) (defBody s_reduced_rows) (defScope s_reduced_rows) .none kV18 dc18 pm18 an18 cd18 ct18), sl18⟩) (c18 : PySem.W.codeIn K cd18 "reduced_rows" = true) (k18 : PySem.W.keepIn K (.ref f18) = true)
    (a19 : PySem.W.nsIn K mainGlobals "divided" = some (some (.ref f19))) (l19 : K.lookup f19 = some ⟨oc19, od19, .func (PySem.W.fnOf "divided" "divided" (defArgs s_divided) (defBody s_divided) (defScope s_divided) .none kV19 dc19 pm19 an19 cd19 ct19), sl19⟩) (c19 : PySem.W.codeIn K cd19 "divided" = true) (k19 : PySem.W.keepIn K (.ref f19) = true)
    (a20 : PySem.W.nsIn K mainGlobals "subcounts" = some (some (.ref f20))) (l20 : K.lookup f20 = some ⟨oc20, od20, .func (PySem.W.fnOf "subcounts" "subcounts" (defArgs s_subcounts) (defBody s_subcounts) (defScope s_subcounts) .none kV20 dc20 pm20 an20 cd20 ct20), sl20⟩) (c20 : PySem.W.codeIn K cd20 "subcounts" = true) (k20 : PySem.W.keepIn K (.ref f20) = true)
    (a21 : PySem.W.findIn K (.ref C_Book) "__init__" = some (some (.ref f21))) (l21 : K.lookup f21 = some ⟨oc21, od21, .func (PySem.W.fnOf "__init__" "Book.__init__" (defArgs s_Book___init__) (defBody s_Book___init__) (defScope s_Book___init__) .none kV21 dc21 pm21 an21 cd21 ct21), sl21⟩) (c21 : PySem.W.codeIn K cd21 "Book.__init__" = true) (k21 : PySem.W.keepIn K (.ref f21) = true)
    (a22 : PySem.W.findIn K (.ref C_Book) "__eq__" = some (some (.ref f22))) (l22 : K.lookup f22 = some ⟨oc22, od22, .func (PySem.W.fnOf "__eq__" "Book.__eq__" (defArgs s_Book___eq__) (defBody s_Book___eq__) (defScope s_Book___eq__) .none kV22 dc22 pm22 an22 cd22 ct22), sl22⟩) (c22 : PySem.W.codeIn K cd22 "Book.__eq__" = true) (k22 : PySem.W.keepIn K (.ref f22) = true)
    (a23 : PySem.W.nsIn K mainGlobals "_law_deck" = some (some (.ref f23))) (l23 : K.lookup f23 = some ⟨oc23, od23, .func (PySem.W.fnOf "_law_deck" "_law_deck" (defArgs s__law_deck) (defBody s__law_deck) (defScope s__law_deck) .none kV23 dc23 pm23 an23 cd23 ct23), sl23⟩) (c23 : PySem.W.codeIn K cd23 "_law_deck" = true) (k23 : PySem.W.keepIn K (.ref f23) = true)
    (a24 : PySem.W.nsIn K mainGlobals "_law_draw" = some (some (.ref f24))) (l24 : K.lookup f24 = some ⟨oc24, od24, .func (PySem.W.fnOf "_law_draw" "_law_draw" (defArgs s__law_draw) (defBody s__law_draw) (defScope s__law_draw) .none kV24 dc24 pm24 an24 cd24 ct24), sl24⟩) (c24 : PySem.W.codeIn K cd24 "_law_draw" = true) (k24 : PySem.W.keepIn K (.ref f24) = true)
    (a25 : PySem.W.nsIn K mainGlobals "_law_pick" = some (some (.ref f25))) (l25 : K.lookup f25 = some ⟨oc25, od25, .func (PySem.W.fnOf "_law_pick" "_law_pick" (defArgs s__law_pick) (defBody s__law_pick) (defScope s__law_pick) .none kV25 dc25 pm25 an25 cd25 ct25), sl25⟩) (c25 : PySem.W.codeIn K cd25 "_law_pick" = true) (k25 : PySem.W.keepIn K (.ref f25) = true)
    (a26 : PySem.W.nsIn K mainGlobals "_law_figures" = some (some (.ref f26))) (l26 : K.lookup f26 = some ⟨oc26, od26, .func (PySem.W.fnOf "_law_figures" "_law_figures" (defArgs s__law_figures) (defBody s__law_figures) (defScope s__law_figures) .none kV26 dc26 pm26 an26 cd26 ct26), sl26⟩) (c26 : PySem.W.codeIn K cd26 "_law_figures" = true) (k26 : PySem.W.keepIn K (.ref f26) = true)
    (a27 : PySem.W.nsIn K mainGlobals "_law_polynomial" = some (some (.ref f27))) (l27 : K.lookup f27 = some ⟨oc27, od27, .func (PySem.W.fnOf "_law_polynomial" "_law_polynomial" (defArgs s__law_polynomial) (defBody s__law_polynomial) (defScope s__law_polynomial) .none kV27 dc27 pm27 an27 cd27 ct27), sl27⟩) (c27 : PySem.W.codeIn K cd27 "_law_polynomial" = true) (k27 : PySem.W.keepIn K (.ref f27) = true)
    (a28 : PySem.W.nsIn K mainGlobals "_law_is_polynomial" = some (some (.ref f28))) (l28 : K.lookup f28 = some ⟨oc28, od28, .func (PySem.W.fnOf "_law_is_polynomial" "_law_is_polynomial" (defArgs s__law_is_polynomial) (defBody s__law_is_polynomial) (defScope s__law_is_polynomial) .none kV28 dc28 pm28 an28 cd28 ct28), sl28⟩) (c28 : PySem.W.codeIn K cd28 "_law_is_polynomial" = true) (k28 : PySem.W.keepIn K (.ref f28) = true)
    (a29 : PySem.W.nsIn K mainGlobals "_law_at" = some (some (.ref f29))) (l29 : K.lookup f29 = some ⟨oc29, od29, .func (PySem.W.fnOf "_law_at" "_law_at" (defArgs s__law_at) (defBody s__law_at) (defScope s__law_at) .none kV29 dc29 pm29 an29 cd29 ct29), sl29⟩) (c29 : PySem.W.codeIn K cd29 "_law_at" = true) (k29 : PySem.W.keepIn K (.ref f29) = true)
    (a30 : PySem.W.nsIn K mainGlobals "_law_odd" = some (some (.ref f30))) (l30 : K.lookup f30 = some ⟨oc30, od30, .func (PySem.W.fnOf "_law_odd" "_law_odd" (defArgs s__law_odd) (defBody s__law_odd) (defScope s__law_odd) .none kV30 dc30 pm30 an30 cd30 ct30), sl30⟩) (c30 : PySem.W.codeIn K cd30 "_law_odd" = true) (k30 : PySem.W.keepIn K (.ref f30) = true)
    (a31 : PySem.W.nsIn K mainGlobals "_law_bent" = some (some (.ref f31))) (l31 : K.lookup f31 = some ⟨oc31, od31, .func (PySem.W.fnOf "_law_bent" "_law_bent" (defArgs s__law_bent) (defBody s__law_bent) (defScope s__law_bent) .none kV31 dc31 pm31 an31 cd31 ct31), sl31⟩) (c31 : PySem.W.codeIn K cd31 "_law_bent" = true) (k31 : PySem.W.keepIn K (.ref f31) = true)
    (a32 : PySem.W.nsIn K mainGlobals "_law_same" = some (some (.ref f32))) (l32 : K.lookup f32 = some ⟨oc32, od32, .func (PySem.W.fnOf "_law_same" "_law_same" (defArgs s__law_same) (defBody s__law_same) (defScope s__law_same) .none kV32 dc32 pm32 an32 cd32 ct32), sl32⟩) (c32 : PySem.W.codeIn K cd32 "_law_same" = true) (k32 : PySem.W.keepIn K (.ref f32) = true)
    (a33 : PySem.W.nsIn K mainGlobals "_law_is_refused" = some (some (.ref f33))) (l33 : K.lookup f33 = some ⟨oc33, od33, .func (PySem.W.fnOf "_law_is_refused" "_law_is_refused" (defArgs s__law_is_refused) (defBody s__law_is_refused) (defScope s__law_is_refused) .none kV33 dc33 pm33 an33 cd33 ct33), sl33⟩) (c33 : PySem.W.codeIn K cd33 "_law_is_refused" = true) (k33 : PySem.W.keepIn K (.ref f33) = true)
    (a34 : PySem.W.nsIn K mainGlobals "_law_is_split" = some (some (.ref f34))) (l34 : K.lookup f34 = some ⟨oc34, od34, .func (PySem.W.fnOf "_law_is_split" "_law_is_split" (defArgs s__law_is_split) (defBody s__law_is_split) (defScope s__law_is_split) .none kV34 dc34 pm34 an34 cd34 ct34), sl34⟩) (c34 : PySem.W.codeIn K cd34 "_law_is_split" = true) (k34 : PySem.W.keepIn K (.ref f34) = true)
    (a35 : PySem.W.nsIn K mainGlobals "_law_added" = some (some (.ref f35))) (l35 : K.lookup f35 = some ⟨oc35, od35, .func (PySem.W.fnOf "_law_added" "_law_added" (defArgs s__law_added) (defBody s__law_added) (defScope s__law_added) .none kV35 dc35 pm35 an35 cd35 ct35), sl35⟩) (c35 : PySem.W.codeIn K cd35 "_law_added" = true) (k35 : PySem.W.keepIn K (.ref f35) = true)
    (a36 : PySem.W.nsIn K mainGlobals "_law_spaces" = some (some (.ref f36))) (l36 : K.lookup f36 = some ⟨oc36, od36, .func (PySem.W.fnOf "_law_spaces" "_law_spaces" (defArgs s__law_spaces) (defBody s__law_spaces) (defScope s__law_spaces) .none kV36 dc36 pm36 an36 cd36 ct36), sl36⟩) (c36 : PySem.W.codeIn K cd36 "_law_spaces" = true) (k36 : PySem.W.keepIn K (.ref f36) = true)
    (a37 : PySem.W.nsIn K mainGlobals "_law_refused" = some (some (.ref f37))) (l37 : K.lookup f37 = some ⟨oc37, od37, .func (PySem.W.fnOf "_law_refused" "_law_refused" (defArgs s__law_refused) (defBody s__law_refused) (defScope s__law_refused) .none kV37 dc37 pm37 an37 cd37 ct37), sl37⟩) (c37 : PySem.W.codeIn K cd37 "_law_refused" = true) (k37 : PySem.W.keepIn K (.ref f37) = true)
    (a38 : PySem.W.nsIn K mainGlobals "_law_are_books_refused" = some (some (.ref f38))) (l38 : K.lookup f38 = some ⟨oc38, od38, .func (PySem.W.fnOf "_law_are_books_refused" "_law_are_books_refused" (defArgs s__law_are_books_refused) (defBody s__law_are_books_refused) (defScope s__law_are_books_refused) .none kV38 dc38 pm38 an38 (.ref c__law_are_books_refused) ct38), sl38⟩) (c38 : PySem.W.codeIn K (.ref c__law_are_books_refused) "_law_are_books_refused" = true) (k38 : PySem.W.keepIn K (.ref f38) = true) {occ__law_are_books_refused : Value} {ocd__law_are_books_refused : Option Addr} {vsc__law_are_books_refused : Array Value} {ocs__law_are_books_refused : Array (Option Value)} (lc__law_are_books_refused : K.lookup c__law_are_books_refused = some ⟨occ__law_are_books_refused, ocd__law_are_books_refused, .fields vsc__law_are_books_refused, ocs__law_are_books_refused⟩) (vp__law_are_books_refused : (vsc__law_are_books_refused[11]? : Option Value) = some (.ref tP__law_are_books_refused)) (rc__law_are_books_refused : ((recsOf q).find? (fun e => e.name == ("_law_are_books_refused" : Str))).isSome = true)
    (a39 : PySem.W.nsIn K mainGlobals "law" = some (some (.ref f39))) (l39 : K.lookup f39 = some ⟨oc39, od39, .func (PySem.W.fnOf "law" "law" (defArgs s_law) (defBody s_law) (defScope s_law) .none kV39 dc39 pm39 an39 (.ref c_law) ct39), sl39⟩) (c39 : PySem.W.codeIn K (.ref c_law) "law" = true) (k39 : PySem.W.keepIn K (.ref f39) = true) {occ_law : Value} {ocd_law : Option Addr} {vsc_law : Array Value} {ocs_law : Array (Option Value)} (lc_law : K.lookup c_law = some ⟨occ_law, ocd_law, .fields vsc_law, ocs_law⟩) (vp_law : (vsc_law[11]? : Option Value) = some (.ref tP_law)) (rc_law : ((recsOf q).find? (fun e => e.name == ("law" : Str))).isSome = true)
    (pg_Book : PySem.W.plainGet K C_Book Str.empty = true) (hd_Book : PySem.W.hasDictIn K C_Book = true) (po_Book : PySem.W.plainOver K C_Book = true) (sa_Book : PySem.W.findIn K (.ref C_Book) "__setattr__" = some (some (.builtin "object.__setattr__")))
    (ma_Book : PySem.W.makesIn K C_Book = true) (kp_Book : PySem.W.keepIn K (.ref C_Book) = true) (fn_Book : PySem.W.isFn K (.ref f21) = true)
    (ha_Book : PySem.W.findIn K (.ref C_Book) "__class__" = some (some (.builtin "object.__class__"))) (hn_Book : PySem.W.specialIn K (.builtin "object.__class__") "__get__" = some (some (.builtin "getset_descriptor.__get__"))) (ht_Book : PySem.W.takesIn K (.builtin "object.__class__") = some true) (hm_Book : PySem.W.mroIn K C_Book (.type "object") = some true) (nt_Book : PySem.W.subIn K (.ref C_Book) (.type "tuple") = some false) (ni_Book : PySem.W.subIn K (.ref C_Book) (.type "int") = some false)
    (no_Book_q : PySem.W.findIn K (.ref C_Book) "q" = some none)
    (no_Book_n : PySem.W.findIn K (.ref C_Book) "n" = some none)
    (no_Book_rows : PySem.W.findIn K (.ref C_Book) "rows" = some none)
    (no_Book_dimension : PySem.W.findIn K (.ref C_Book) "dimension" = some none)
    (ef_Book : PySem.W.isFn K (.ref f22) = true)
    {t_MOST_PLACES : Tok} (m_MOST_PLACES : PySem.W.nsIn K mainGlobals "MOST_PLACES" = some (some (.int 8 t_MOST_PLACES)))
    {t_MOST_ROWS : Tok} (m_MOST_ROWS : PySem.W.nsIn K mainGlobals "MOST_ROWS" = some (some (.int 16 t_MOST_ROWS)))
    {t_four : Addr} (aF : PySem.W.nsIn K mainGlobals "FOUR_TIMES" = some (some (.ref t_four))) (fF : FourTab K t_four)
    (xPF : PySem.W.subIn K (.ref C_BadPolynomial) (.ref C_BadField) = some false)
    (tnd : [tP__law_are_books_refused, tP_law].Nodup)
    (z_abs : PySem.W.nsIn K mainGlobals "abs" = some none)
    (z_all : PySem.W.nsIn K mainGlobals "all" = some none)
    (z_bool : PySem.W.nsIn K mainGlobals "bool" = some none)
    (z_enumerate : PySem.W.nsIn K mainGlobals "enumerate" = some none)
    (z_int : PySem.W.nsIn K mainGlobals "int" = some none)
    (z_isinstance : PySem.W.nsIn K mainGlobals "isinstance" = some none)
    (z_len : PySem.W.nsIn K mainGlobals "len" = some none)
    (z_list : PySem.W.nsIn K mainGlobals "list" = some none)
    (z_max : PySem.W.nsIn K mainGlobals "max" = some none)
    (z_min : PySem.W.nsIn K mainGlobals "min" = some none)
    (z_range : PySem.W.nsIn K mainGlobals "range" = some none)
    (z_repr : PySem.W.nsIn K mainGlobals "repr" = some none)
    (z_reversed : PySem.W.nsIn K mainGlobals "reversed" = some none)
    (z_str : PySem.W.nsIn K mainGlobals "str" = some none)
    (z_tuple : PySem.W.nsIn K mainGlobals "tuple" = some none)
    (z_zip : PySem.W.nsIn K mainGlobals "zip" = some none) :
    ∃ (fd : FuncData) (tabs : List Tb), (∀ t ∈ tabs, TabAt h t) ∧ PySem.W.noTabs K = true ∧ (∀ (s : Shared) (v : Value), BindsTo s fd ⟨[v], []⟩ [("_law_script", v)]) ∧ ∀ base : Heap, K.In base → base.Ns mainGlobals mg → SM base → (∀ t ∈ tabs, TabB base mg t.1 t.2.1) → FnG P w K mg base 17 fa fd ["_law_script"] (spLaw K (tbs tabs)) := by
  obtain rfl : f39 = fa := PySem.Value.ref.inj (Option.some.inj ((PySem.W.mg_of X G a39).symm.trans hfa))
  have F0 := fun_mk (st := s_letter_sum) l0 c0 k0
  have F1 := fun_mk (st := s_letter_negative) l1 c1 k1
  have F2 := fun_mk (st := s_letter_times) l2 c2 k2
  have F3 := fun_mk (st := s_letter_inverse) l3 c3 k3
  have F4 := fun_mk (st := s_row_sum) l4 c4 k4
  have F5 := fun_mk (st := s_row_times) l5 c5 k5
  have F6 := fun_mk (st := s_row_support) l6 c6 k6
  have F7 := fun_mk (st := s_is_integer) l7 c7 k7
  have F8 := fun_mk (st := s_is_integer_from) l8 c8 k8
  have F9 := fun_mk (st := s_are_integers) l9 c9 k9
  have F10 := fun_mk (st := s_are_integers_from) l10 c10 k10
  have F11 := fun_mk (st := s_are_letters) l11 c11 k11
  have F12 := fun_mk (st := s_is_row) l12 c12 k12
  have F13 := fun_mk (st := s_check_field) l13 c13 k13
  have F14 := fun_mk (st := s_is_polynomial) l14 c14 k14
  have F15 := fun_mk (st := s_check_polynomial) l15 c15 k15
  have F16 := fun_mk (st := s_lead_of) l16 c16 k16
  have F17 := fun_mk (st := s_with_zero_at) l17 c17 k17
  have F18 := fun_mk (st := s_reduced_rows) l18 c18 k18
  have F19 := fun_mk (st := s_divided) l19 c19 k19
  have F20 := fun_mk (st := s_subcounts) l20 c20 k20
  have F21 := fun_mk (st := s_Book___init__) l21 c21 k21
  have F22 := fun_mk (st := s_Book___eq__) l22 c22 k22
  have F23 := fun_mk (st := s__law_deck) l23 c23 k23
  have F24 := fun_mk (st := s__law_draw) l24 c24 k24
  have F25 := fun_mk (st := s__law_pick) l25 c25 k25
  have F26 := fun_mk (st := s__law_figures) l26 c26 k26
  have F27 := fun_mk (st := s__law_polynomial) l27 c27 k27
  have F28 := fun_mk (st := s__law_is_polynomial) l28 c28 k28
  have F29 := fun_mk (st := s__law_at) l29 c29 k29
  have F30 := fun_mk (st := s__law_odd) l30 c30 k30
  have F31 := fun_mk (st := s__law_bent) l31 c31 k31
  have F32 := fun_mk (st := s__law_same) l32 c32 k32
  have F33 := fun_mk (st := s__law_is_refused) l33 c33 k33
  have F34 := fun_mk (st := s__law_is_split) l34 c34 k34
  have F35 := fun_mk (st := s__law_added) l35 c35 k35
  have F36 := fun_mk (st := s__law_spaces) l36 c36 k36
  have F37 := fun_mk (st := s__law_refused) l37 c37 k37
  have F38 := funL_mk (st := s__law_are_books_refused) l38 c38 k38
  have F39 := funL_mk (st := s_law) l39 c39 k39
  let T : Txt K mg := {
    a_letter_sum := f0, d_letter_sum := _, F_letter_sum := F0, m_letter_sum := PySem.W.mg_of X G a0,
    b_letter_sum := F0.binds (ps := P_letter_sum) fun _ _ _ _ _ _ us hl => match us, hl with | [_, _, _], _ => rfl,
    a_letter_negative := f1, d_letter_negative := _, F_letter_negative := F1, m_letter_negative := PySem.W.mg_of X G a1,
    b_letter_negative := F1.binds (ps := P_letter_negative) fun _ _ _ _ _ _ us hl => match us, hl with | [_, _], _ => rfl,
    a_letter_times := f2, d_letter_times := _, F_letter_times := F2, m_letter_times := PySem.W.mg_of X G a2,
    b_letter_times := F2.binds (ps := P_letter_times) fun _ _ _ _ _ _ us hl => match us, hl with | [_, _, _], _ => rfl,
    a_letter_inverse := f3, d_letter_inverse := _, F_letter_inverse := F3, m_letter_inverse := PySem.W.mg_of X G a3,
    b_letter_inverse := F3.binds (ps := P_letter_inverse) fun _ _ _ _ _ _ us hl => match us, hl with | [_, _], _ => rfl,
    a_row_sum := f4, d_row_sum := _, F_row_sum := F4, m_row_sum := PySem.W.mg_of X G a4,
    b_row_sum := F4.binds (ps := P_row_sum) fun _ _ _ _ _ _ us hl => match us, hl with | [_, _, _], _ => rfl,
    a_row_times := f5, d_row_times := _, F_row_times := F5, m_row_times := PySem.W.mg_of X G a5,
    b_row_times := F5.binds (ps := P_row_times) fun _ _ _ _ _ _ us hl => match us, hl with | [_, _, _], _ => rfl,
    a_row_support := f6, d_row_support := _, F_row_support := F6, m_row_support := PySem.W.mg_of X G a6,
    b_row_support := F6.binds (ps := P_row_support) fun _ _ _ _ _ _ us hl => match us, hl with | [_], _ => rfl,
    a_is_integer := f7, d_is_integer := _, F_is_integer := F7, m_is_integer := PySem.W.mg_of X G a7,
    b_is_integer := F7.binds (ps := P_is_integer) fun _ _ _ _ _ _ us hl => match us, hl with | [_], _ => rfl,
    a_is_integer_from := f8, d_is_integer_from := _, F_is_integer_from := F8, m_is_integer_from := PySem.W.mg_of X G a8,
    b_is_integer_from := F8.binds (ps := P_is_integer_from) fun _ _ _ _ _ _ us hl => match us, hl with | [_, _, _], _ => rfl,
    a_are_integers := f9, d_are_integers := _, F_are_integers := F9, m_are_integers := PySem.W.mg_of X G a9,
    b_are_integers := F9.binds (ps := P_are_integers) fun _ _ _ _ _ _ us hl => match us, hl with | [_], _ => rfl,
    a_are_integers_from := f10, d_are_integers_from := _, F_are_integers_from := F10, m_are_integers_from := PySem.W.mg_of X G a10,
    b_are_integers_from := F10.binds (ps := P_are_integers_from) fun _ _ _ _ _ _ us hl => match us, hl with | [_, _, _], _ => rfl,
    a_are_letters := f11, d_are_letters := _, F_are_letters := F11, m_are_letters := PySem.W.mg_of X G a11,
    b_are_letters := F11.binds (ps := P_are_letters) fun _ _ _ _ _ _ us hl => match us, hl with | [_, _], _ => rfl,
    a_is_row := f12, d_is_row := _, F_is_row := F12, m_is_row := PySem.W.mg_of X G a12,
    b_is_row := F12.binds (ps := P_is_row) fun _ _ _ _ _ _ us hl => match us, hl with | [_, _, _], _ => rfl,
    a_check_field := f13, d_check_field := _, F_check_field := F13, m_check_field := PySem.W.mg_of X G a13,
    b_check_field := F13.binds (ps := P_check_field) fun _ _ _ _ _ _ us hl => match us, hl with | [_], _ => rfl,
    a_is_polynomial := f14, d_is_polynomial := _, F_is_polynomial := F14, m_is_polynomial := PySem.W.mg_of X G a14,
    b_is_polynomial := F14.binds (ps := P_is_polynomial) fun _ _ _ _ _ _ us hl => match us, hl with | [_], _ => rfl,
    a_check_polynomial := f15, d_check_polynomial := _, F_check_polynomial := F15, m_check_polynomial := PySem.W.mg_of X G a15,
    b_check_polynomial := F15.binds (ps := P_check_polynomial) fun _ _ _ _ _ _ us hl => match us, hl with | [_], _ => rfl,
    a_lead_of := f16, d_lead_of := _, F_lead_of := F16, m_lead_of := PySem.W.mg_of X G a16,
    b_lead_of := F16.binds (ps := P_lead_of) fun _ _ _ _ _ _ us hl => match us, hl with | [_], _ => rfl,
    a_with_zero_at := f17, d_with_zero_at := _, F_with_zero_at := F17, m_with_zero_at := PySem.W.mg_of X G a17,
    b_with_zero_at := F17.binds (ps := P_with_zero_at) fun _ _ _ _ _ _ us hl => match us, hl with | [_, _, _, _], _ => rfl,
    a_reduced_rows := f18, d_reduced_rows := _, F_reduced_rows := F18, m_reduced_rows := PySem.W.mg_of X G a18,
    b_reduced_rows := F18.binds (ps := P_reduced_rows) fun _ _ _ _ _ _ us hl => match us, hl with | [_, _, _], _ => rfl,
    a_divided := f19, d_divided := _, F_divided := F19, m_divided := PySem.W.mg_of X G a19,
    b_divided := F19.binds (ps := P_divided) fun _ _ _ _ _ _ us hl => match us, hl with | [_, _], _ => rfl,
    a_subcounts := f20, d_subcounts := _, F_subcounts := F20, m_subcounts := PySem.W.mg_of X G a20,
    b_subcounts := F20.binds (ps := P_subcounts) fun _ _ _ _ _ _ us hl => match us, hl with | [_, _], _ => rfl,
    q_subcounts_polynomial_q := kb2s fun _ _ => rfl,
    a_Book___init__ := f21, d_Book___init__ := _, F_Book___init__ := F21,
    b_Book___init__ := F21.binds (ps := P_Book___init__) fun _ _ _ _ _ _ us hl => match us, hl with | [_, _, _, _], _ => rfl,
    a_Book___eq__ := f22, d_Book___eq__ := _, F_Book___eq__ := F22,
    b_Book___eq__ := F22.binds (ps := P_Book___eq__) fun _ _ _ _ _ _ us hl => match us, hl with | [_, _], _ => rfl,
    a__law_deck := f23, d__law_deck := _, F__law_deck := F23, m__law_deck := PySem.W.mg_of X G a23,
    b__law_deck := F23.binds (ps := P__law_deck) fun _ _ _ _ _ _ us hl => match us, hl with | [_], _ => rfl,
    a__law_draw := f24, d__law_draw := _, F__law_draw := F24, m__law_draw := PySem.W.mg_of X G a24,
    b__law_draw := F24.binds (ps := P__law_draw) fun _ _ _ _ _ _ us hl => match us, hl with | [_, _], _ => rfl,
    a__law_pick := f25, d__law_pick := _, F__law_pick := F25, m__law_pick := PySem.W.mg_of X G a25,
    b__law_pick := F25.binds (ps := P__law_pick) fun _ _ _ _ _ _ us hl => match us, hl with | [_, _], _ => rfl,
    a__law_figures := f26, d__law_figures := _, F__law_figures := F26, m__law_figures := PySem.W.mg_of X G a26,
    b__law_figures := F26.binds (ps := P__law_figures) fun _ _ _ _ _ _ us hl => match us, hl with | [_], _ => rfl,
    a__law_polynomial := f27, d__law_polynomial := _, F__law_polynomial := F27, m__law_polynomial := PySem.W.mg_of X G a27,
    b__law_polynomial := F27.binds (ps := P__law_polynomial) fun _ _ _ _ _ _ us hl => match us, hl with | [_, _], _ => rfl,
    a__law_is_polynomial := f28, d__law_is_polynomial := _, F__law_is_polynomial := F28, m__law_is_polynomial := PySem.W.mg_of X G a28,
    b__law_is_polynomial := F28.binds (ps := P__law_is_polynomial) fun _ _ _ _ _ _ us hl => match us, hl with | [_], _ => rfl,
    a__law_at := f29, d__law_at := _, F__law_at := F29, m__law_at := PySem.W.mg_of X G a29,
    b__law_at := F29.binds (ps := P__law_at) fun _ _ _ _ _ _ us hl => match us, hl with | [_, _], _ => rfl,
    a__law_odd := f30, d__law_odd := _, F__law_odd := F30, m__law_odd := PySem.W.mg_of X G a30,
    b__law_odd := F30.binds (ps := P__law_odd) fun _ _ _ _ _ _ us hl => match us, hl with | [_, _], _ => rfl,
    a__law_bent := f31, d__law_bent := _, F__law_bent := F31, m__law_bent := PySem.W.mg_of X G a31,
    b__law_bent := F31.binds (ps := P__law_bent) fun _ _ _ _ _ _ us hl => match us, hl with | [_, _], _ => rfl,
    a__law_same := f32, d__law_same := _, F__law_same := F32, m__law_same := PySem.W.mg_of X G a32,
    b__law_same := F32.binds (ps := P__law_same) fun _ _ _ _ _ _ us hl => match us, hl with | [_, _], _ => rfl,
    a__law_is_refused := f33, d__law_is_refused := _, F__law_is_refused := F33, m__law_is_refused := PySem.W.mg_of X G a33,
    b__law_is_refused := F33.binds (ps := P__law_is_refused) fun _ _ _ _ _ _ us hl => match us, hl with | [_, _, _], _ => rfl,
    a__law_is_split := f34, d__law_is_split := _, F__law_is_split := F34, m__law_is_split := PySem.W.mg_of X G a34,
    b__law_is_split := F34.binds (ps := P__law_is_split) fun _ _ _ _ _ _ us hl => match us, hl with | [_, _, _], _ => rfl,
    a__law_added := f35, d__law_added := _, F__law_added := F35, m__law_added := PySem.W.mg_of X G a35,
    b__law_added := F35.binds (ps := P__law_added) fun _ _ _ _ _ _ us hl => match us, hl with | [_, _], _ => rfl,
    a__law_spaces := f36, d__law_spaces := _, F__law_spaces := F36, m__law_spaces := PySem.W.mg_of X G a36,
    b__law_spaces := F36.binds (ps := P__law_spaces) fun _ _ _ _ _ _ us hl => match us, hl with | [_, _], _ => rfl,
    a__law_refused := f37, d__law_refused := _, F__law_refused := F37, m__law_refused := PySem.W.mg_of X G a37,
    b__law_refused := F37.binds (ps := P__law_refused) fun _ _ _ _ _ _ us hl => match us, hl with | [_], _ => rfl,
    c__law_are_books_refused := c__law_are_books_refused, tP__law_are_books_refused := tP__law_are_books_refused,
    a__law_are_books_refused := f38, d__law_are_books_refused := _, F__law_are_books_refused := F38, m__law_are_books_refused := PySem.W.mg_of X G a38,
    b__law_are_books_refused := F38.bindsL (ps := P__law_are_books_refused) fun _ _ _ _ _ _ us hl => match us, hl with | [_], _ => rfl,
    c_law := c_law, tP_law := tP_law,
    a_law := f39, d_law := _, F_law := F39, m_law := PySem.W.mg_of X G a39,
    b_law := F39.bindsL (ps := P_law) fun _ _ _ _ _ _ us hl => match us, hl with | [_], _ => rfl,
    B0 := B0, gB := PySem.W.mg_of X G gB,
    C_BadField := C_BadField, I_BadField := I_BadField, e_BadField := e_BadField,
    C_BadPolynomial := C_BadPolynomial, I_BadPolynomial := I_BadPolynomial, e_BadPolynomial := e_BadPolynomial,
    C_Book := C_Book, g_Book := PySem.W.mg_of X G aC_Book, cl_Book := ⟨pg_Book, hd_Book, po_Book, sa_Book⟩, mk_Book := ⟨ma_Book, a21, fn_Book, kp_Book⟩, is_Book := ⟨ha_Book, hn_Book, ht_Book, hm_Book, kit_sub (by decide +kernel) nt_Book, kit_sub (by decide +kernel) ni_Book⟩,
    no_Book_q := no_Book_q,
    no_Book_n := no_Book_n,
    no_Book_rows := no_Book_rows,
    no_Book_dimension := no_Book_dimension,
    eq_Book := a22, eqf_Book := ef_Book,
    t_MOST_PLACES := t_MOST_PLACES, m_MOST_PLACES := PySem.W.mg_of X G m_MOST_PLACES,
    t_MOST_ROWS := t_MOST_ROWS, m_MOST_ROWS := PySem.W.mg_of X G m_MOST_ROWS,
    t_four := t_four, m_four := PySem.W.mg_of X G aF, four := fF,
    x_pf := xPF,
    tnd := tnd,
    m_abs := PySem.W.mg_none_of X G z_abs,
    m_all := PySem.W.mg_none_of X G z_all,
    m_bool := PySem.W.mg_none_of X G z_bool,
    m_enumerate := PySem.W.mg_none_of X G z_enumerate,
    m_int := PySem.W.mg_none_of X G z_int,
    m_isinstance := PySem.W.mg_none_of X G z_isinstance,
    m_len := PySem.W.mg_none_of X G z_len,
    m_list := PySem.W.mg_none_of X G z_list,
    m_max := PySem.W.mg_none_of X G z_max,
    m_min := PySem.W.mg_none_of X G z_min,
    m_range := PySem.W.mg_none_of X G z_range,
    m_repr := PySem.W.mg_none_of X G z_repr,
    m_reversed := PySem.W.mg_none_of X G z_reversed,
    m_str := PySem.W.mg_none_of X G z_str,
    m_tuple := PySem.W.mg_none_of X G z_tuple,
    m_zip := PySem.W.mg_none_of X G z_zip }
  obtain ⟨r__law_are_books_refused, hr__law_are_books_refused⟩ := Option.isSome_iff_exists.mp rc__law_are_books_refused
  have ta__law_are_books_refused := tq _ _ _ _ hr__law_are_books_refused (tabIn_of a38 l38 rfl lc__law_are_books_refused vp__law_are_books_refused)
  obtain ⟨r_law, hr_law⟩ := Option.isSome_iff_exists.mp rc_law
  have ta_law := tq _ _ _ _ hr_law (tabIn_of a39 l39 rfl lc_law vp_law)
  exact ⟨_, [(c__law_are_books_refused, tP__law_are_books_refused, qL__law_are_books_refused), (c_law, tP_law, qL_law)], fun t ht => ((List.mem_cons.mp ht).elim (fun e => by rw [e]; exact ⟨ta__law_are_books_refused.1, ta__law_are_books_refused.2⟩) fun ht => ((List.mem_cons.mp ht).elim (fun e => by rw [e]; exact ⟨ta_law.1, ta_law.2⟩) fun ht => (nomatch ht))), nK, fun s v => .of_eq rfl, fun base _ _ sm hTB => ok_law T sm (hTB _ (.head _)) (hTB _ (.tail _ (.head _)))⟩
end K28
end
section
set_option maxRecDepth 100000
open PySem PySem.W PyProof.Rows in
set_option maxRecDepth 100000 in
set_option maxHeartbeats 0 in
theorem PySem.Challenge.cw_mirrorbook_k28_subcounts_of_any_polynomi_holds : PySem.Challenge.rw_mirrorbook_k28_subcounts_of_any_polynomi.Holds := by
  w_on; o_law; k_head; (case hw => w_witness2)
  k_fill
  refine MB.walkT (l := PySem.Challenge.rw_mirrorbook_k28_subcounts_of_any_polynomi) (n := 63) (k := 17) (x := "_law_script") (sp := K28.spLaw) rfl (by decide) rfl (by decide +kernel) ⟨rfl, by decide, by decide⟩ (fun w h Y => PySem.W.km_in_of Y) ?F ?S
  case S =>
    exact fun K H a ns _ hl hT hS => ⟨a, ns, rfl, hS, hl, hT, fun _ => rfl⟩
  case F =>
    intro w mg fa h KX G tq hmg
    refine' K28.all_mk KX G hmg tq ?nK ?gB ?e_BadField ?e_BadPolynomial ?aC_Book ?a0 ?l0 ?c0 ?k0 ?a1 ?l1 ?c1 ?k1 ?a2 ?l2 ?c2 ?k2 ?a3 ?l3 ?c3 ?k3 ?a4 ?l4 ?c4 ?k4 ?a5 ?l5 ?c5 ?k5 ?a6 ?l6 ?c6 ?k6 ?a7 ?l7 ?c7 ?k7 ?a8 ?l8 ?c8 ?k8 ?a9 ?l9 ?c9 ?k9 ?a10 ?l10 ?c10 ?k10 ?a11 ?l11 ?c11 ?k11 ?a12 ?l12 ?c12 ?k12 ?a13 ?l13 ?c13 ?k13 ?a14 ?l14 ?c14 ?k14 ?a15 ?l15 ?c15 ?k15 ?a16 ?l16 ?c16 ?k16 ?a17 ?l17 ?c17 ?k17 ?a18 ?l18 ?c18 ?k18 ?a19 ?l19 ?c19 ?k19 ?a20 ?l20 ?c20 ?k20 ?a21 ?l21 ?c21 ?k21 ?a22 ?l22 ?c22 ?k22 ?a23 ?l23 ?c23 ?k23 ?a24 ?l24 ?c24 ?k24 ?a25 ?l25 ?c25 ?k25 ?a26 ?l26 ?c26 ?k26 ?a27 ?l27 ?c27 ?k27 ?a28 ?l28 ?c28 ?k28 ?a29 ?l29 ?c29 ?k29 ?a30 ?l30 ?c30 ?k30 ?a31 ?l31 ?c31 ?k31 ?a32 ?l32 ?c32 ?k32 ?a33 ?l33 ?c33 ?k33 ?a34 ?l34 ?c34 ?k34 ?a35 ?l35 ?c35 ?k35 ?a36 ?l36 ?c36 ?k36 ?a37 ?l37 ?c37 ?k37 ?a38 ?l38 ?c38 ?k38 ?lc__law_are_books_refused ?vp__law_are_books_refused ?rc__law_are_books_refused ?a39 ?l39 ?c39 ?k39 ?lc_law ?vp_law ?rc_law ?pg_Book ?hd_Book ?po_Book ?sa_Book ?ma_Book ?kp_Book ?fn_Book ?ha_Book ?hn_Book ?ht_Book ?hm_Book ?nt_Book ?ni_Book ?no_Book_q ?no_Book_n ?no_Book_rows ?no_Book_dimension ?ef_Book ?m_MOST_PLACES ?m_MOST_ROWS ?aF ?fF ?xPF ?tnd ?z_abs ?z_all ?z_bool ?z_enumerate ?z_int ?z_isinstance ?z_len ?z_list ?z_max ?z_min ?z_range ?z_repr ?z_reversed ?z_str ?z_tuple ?z_zip
    (case nK => rfl)
    (case gB => k_is)
    (case e_BadField =>
      refine' MB.Er.of KX G ?aC ?lB ?fB ?lC ?sa ?ga ?gg ?noF ?iC ?tC ?kC ?exC ?exE ?suC ?ssC ?isC ?tyC ?hdC ?op ?su ?lI ?cI ?lc ?lcc ?top ?line ?fl ?fi ?fok ?bi
      (case aC => k_is)
      (case iC => k_is)
      (case lC => k_is)
      (case lB => k_is)
      (case fB => k_is)
      (case sa => k_is)
      (case ga => k_is)
      (case gg => k_is)
      (case noF => k_is)
      (case tC => k_is)
      (case kC => k_is)
      (case exC => k_is)
      (case exE => k_is)
      (case suC => k_is)
      (case ssC => k_is)
      (case isC => k_is)
      (case tyC => k_is)
      (case hdC => k_is)
      (case op => k_is)
      (case su => k_is)
      (case lI => k_is)
      (case cI => k_is)
      (case lc => k_is)
      (case lcc => k_is)
      (case top => rfl)
      (case line => rfl)
      (case fl => rfl)
      (case fi => rfl)
      (case fok => exact ⟨by decide, by decide, by decide, by decide⟩)
      (case bi => exact fun s a b => .of_eq rfl))
    (case e_BadPolynomial =>
      refine' MB.Er.of KX G ?aC ?lB ?fB ?lC ?sa ?ga ?gg ?noF ?iC ?tC ?kC ?exC ?exE ?suC ?ssC ?isC ?tyC ?hdC ?op ?su ?lI ?cI ?lc ?lcc ?top ?line ?fl ?fi ?fok ?bi
      (case aC => k_is)
      (case iC => k_is)
      (case lC => k_is)
      (case lB => k_is)
      (case fB => k_is)
      (case sa => k_is)
      (case ga => k_is)
      (case gg => k_is)
      (case noF => k_is)
      (case tC => k_is)
      (case kC => k_is)
      (case exC => k_is)
      (case exE => k_is)
      (case suC => k_is)
      (case ssC => k_is)
      (case isC => k_is)
      (case tyC => k_is)
      (case hdC => k_is)
      (case op => k_is)
      (case su => k_is)
      (case lI => k_is)
      (case cI => k_is)
      (case lc => k_is)
      (case lcc => k_is)
      (case top => rfl)
      (case line => rfl)
      (case fl => rfl)
      (case fi => rfl)
      (case fok => exact ⟨by decide, by decide, by decide, by decide⟩)
      (case bi => exact fun s a b => .of_eq rfl))
    (case aC_Book => k_is)
    (case a0 => k_is)
    (case l0 => k_is)
    (case c0 => k_is)
    (case k0 => k_is)
    (case a1 => k_is)
    (case l1 => k_is)
    (case c1 => k_is)
    (case k1 => k_is)
    (case a2 => k_is)
    (case l2 => k_is)
    (case c2 => k_is)
    (case k2 => k_is)
    (case a3 => k_is)
    (case l3 => k_is)
    (case c3 => k_is)
    (case k3 => k_is)
    (case a4 => k_is)
    (case l4 => k_is)
    (case c4 => k_is)
    (case k4 => k_is)
    (case a5 => k_is)
    (case l5 => k_is)
    (case c5 => k_is)
    (case k5 => k_is)
    (case a6 => k_is)
    (case l6 => k_is)
    (case c6 => k_is)
    (case k6 => k_is)
    (case a7 => k_is)
    (case l7 => k_is)
    (case c7 => k_is)
    (case k7 => k_is)
    (case a8 => k_is)
    (case l8 => k_is)
    (case c8 => k_is)
    (case k8 => k_is)
    (case a9 => k_is)
    (case l9 => k_is)
    (case c9 => k_is)
    (case k9 => k_is)
    (case a10 => k_is)
    (case l10 => k_is)
    (case c10 => k_is)
    (case k10 => k_is)
    (case a11 => k_is)
    (case l11 => k_is)
    (case c11 => k_is)
    (case k11 => k_is)
    (case a12 => k_is)
    (case l12 => k_is)
    (case c12 => k_is)
    (case k12 => k_is)
    (case a13 => k_is)
    (case l13 => k_is)
    (case c13 => k_is)
    (case k13 => k_is)
    (case a14 => k_is)
    (case l14 => k_is)
    (case c14 => k_is)
    (case k14 => k_is)
    (case a15 => k_is)
    (case l15 => k_is)
    (case c15 => k_is)
    (case k15 => k_is)
    (case a16 => k_is)
    (case l16 => k_is)
    (case c16 => k_is)
    (case k16 => k_is)
    (case a17 => k_is)
    (case l17 => k_is)
    (case c17 => k_is)
    (case k17 => k_is)
    (case a18 => k_is)
    (case l18 => k_is)
    (case c18 => k_is)
    (case k18 => k_is)
    (case a19 => k_is)
    (case l19 => k_is)
    (case c19 => k_is)
    (case k19 => k_is)
    (case a20 => k_is)
    (case l20 => k_is)
    (case c20 => k_is)
    (case k20 => k_is)
    (case a21 => k_is)
    (case l21 => k_is)
    (case c21 => k_is)
    (case k21 => k_is)
    (case a22 => k_is)
    (case l22 => k_is)
    (case c22 => k_is)
    (case k22 => k_is)
    (case a23 => k_is)
    (case l23 => k_is)
    (case c23 => k_is)
    (case k23 => k_is)
    (case a24 => k_is)
    (case l24 => k_is)
    (case c24 => k_is)
    (case k24 => k_is)
    (case a25 => k_is)
    (case l25 => k_is)
    (case c25 => k_is)
    (case k25 => k_is)
    (case a26 => k_is)
    (case l26 => k_is)
    (case c26 => k_is)
    (case k26 => k_is)
    (case a27 => k_is)
    (case l27 => k_is)
    (case c27 => k_is)
    (case k27 => k_is)
    (case a28 => k_is)
    (case l28 => k_is)
    (case c28 => k_is)
    (case k28 => k_is)
    (case a29 => k_is)
    (case l29 => k_is)
    (case c29 => k_is)
    (case k29 => k_is)
    (case a30 => k_is)
    (case l30 => k_is)
    (case c30 => k_is)
    (case k30 => k_is)
    (case a31 => k_is)
    (case l31 => k_is)
    (case c31 => k_is)
    (case k31 => k_is)
    (case a32 => k_is)
    (case l32 => k_is)
    (case c32 => k_is)
    (case k32 => k_is)
    (case a33 => k_is)
    (case l33 => k_is)
    (case c33 => k_is)
    (case k33 => k_is)
    (case a34 => k_is)
    (case l34 => k_is)
    (case c34 => k_is)
    (case k34 => k_is)
    (case a35 => k_is)
    (case l35 => k_is)
    (case c35 => k_is)
    (case k35 => k_is)
    (case a36 => k_is)
    (case l36 => k_is)
    (case c36 => k_is)
    (case k36 => k_is)
    (case a37 => k_is)
    (case l37 => k_is)
    (case c37 => k_is)
    (case k37 => k_is)
    (case a38 => k_is)
    (case l38 => k_is)
    (case c38 => k_is)
    (case k38 => k_is)
    (case lc__law_are_books_refused => k_is)
    (case vp__law_are_books_refused => rfl)
    (case rc__law_are_books_refused => rfl)
    (case a39 => k_is)
    (case l39 => k_is)
    (case c39 => k_is)
    (case k39 => k_is)
    (case lc_law => k_is)
    (case vp_law => rfl)
    (case rc_law => rfl)
    (case pg_Book => k_is)
    (case hd_Book => k_is)
    (case po_Book => k_is)
    (case sa_Book => k_is)
    (case ma_Book => k_is)
    (case kp_Book => k_is)
    (case fn_Book => k_is)
    (case ha_Book => k_is)
    (case hn_Book => k_is)
    (case ht_Book => k_is)
    (case hm_Book => k_is)
    (case nt_Book => k_is)
    (case ni_Book => k_is)
    (case no_Book_q => k_is)
    (case no_Book_n => k_is)
    (case no_Book_rows => k_is)
    (case no_Book_dimension => k_is)
    (case ef_Book => k_is)
    (case m_MOST_PLACES => k_is)
    (case m_MOST_ROWS => k_is)
    (case aF => k_is)
    (case fF => 
      refine' K28.four_mk ?lt ?lr0 ?lr1 ?lr2 ?lr3
      (case lt => k_is)
      (case lr0 => k_is)
      (case lr1 => k_is)
      (case lr2 => k_is)
      (case lr3 => k_is))
    (case xPF => k_is)
    (case tnd => decide)
    (case z_abs => k_is)
    (case z_all => k_is)
    (case z_bool => k_is)
    (case z_enumerate => k_is)
    (case z_int => k_is)
    (case z_isinstance => k_is)
    (case z_len => k_is)
    (case z_list => k_is)
    (case z_max => k_is)
    (case z_min => k_is)
    (case z_range => k_is)
    (case z_repr => k_is)
    (case z_reversed => k_is)
    (case z_str => k_is)
    (case z_tuple => k_is)
    (case z_zip => k_is)
end
