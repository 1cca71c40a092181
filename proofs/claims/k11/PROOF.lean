import PyProof.Rows.All
import Wide.All
import OpenK.AllK
import Wide.FinOn
import HandS.ForMost
import HandS.Ends
import HandS.Style
import HandS.TupAny
import HandS.TupMul
import HandS.Zip
import HandS.Rev
import HandS.Walk
import KE.GoesMore
import KE.KSuper
import KE.KExcInit
import HandS.ExcSuper
import HandS.ExcOwn
import HandS.ExcField
import HandS.TryMany
import HandS.WordsExc
import HandS.IsInst
import PyProof.ReprBulk
import HandS.Lambda
import KE.KNest
import PyProof.ReprLen
import HandS.ExcIs
import KE.KExcIs
import HandS.Gcd
import HandS.Wide
import KE.KPar
import HandS.TupSets
import HandS.SortRule
import PyProof.NeKinds
import HandS.TupLe
import HandS.Conv
import KE.GoesEnum
import HandS.Strs
import PySem.Challenge.RW_mirrorbook_k11_all_words_and_stacks
set_option Elab.async false
set_option linter.all false
section
set_option maxRecDepth 100000
set_option maxHeartbeats 4000000
namespace MB
open PySem PySem.Spec PyProof.Rows L2
mutual
theorem Dp.flat {K : PySem.W.Frag} {H : Hp} : ∀ (d : PyData) (v : V), Dp K H v d → d.hasDict = false
  | .none, _, _ => by simp only [PyData.hasDict]
  | .bool _, _, _ => by simp only [PyData.hasDict]
  | .int _, _, _ => by simp only [PyData.hasDict]
  | .str _, _, _ => by simp only [PyData.hasDict]
  | .list ds, _, h => by
    cases h with
    | lst _ ha =>
      simp only [PyData.hasDict]
      exact Dp.flats ds _ ha
  | .tuple ds, _, h => by
    cases h with
    | tup _ ha =>
      simp only [PyData.hasDict]
      exact Dp.flats ds _ ha
  | .dict _, _, h => by cases h
theorem Dp.flats {K : PySem.W.Frag} {H : Hp} : ∀ (ds : List PyData) (vs : List V), DpAll K H vs ds → PyData.hasDictAll ds = false
  | [], _, _ => by simp only [PyData.hasDictAll]
  | d :: ds, _, h => by
    cases h with
    | cons h1 h2 =>
      simp only [PyData.hasDictAll]
      rw [Dp.flat d _ h1, Dp.flats ds _ h2]
      rfl
end
def rRepr (K : PySem.W.Frag) : List V → Hp → VK → Prop := fun xs H Q => ∃ x d, xs = [x] ∧ Dp K H x d ∧
  d.showable = true ∧ d.depth ≤ 60 ∧ d.shown.length ≤ sizeLine ∧ Q (.str d.shown) H
theorem call_repr {X : Cx} (hgu : X.A.guards = some []) (hu : X.A.units + 64 < cLine) : CallR X (.builtin "repr") (rRepr X.K) := by
  intro pins s σ H xs us Q I r h
  obtain ⟨x, d, rfl, hd, hs, hz, hl, q⟩ := h
  obtain ⟨u, rfl, ru⟩ := vals1 r
  have hu1 : X.A.units + 1 < cLine := by omega
  cases hd with
  | non =>
    cases ru
    simp only [PyData.shown] at q
    exact PySem.P.repr_of_none ⟨.str _, H, I.tok _, ⟨_, rfl⟩, q⟩
  | bl b =>
    cases ru
    simp only [PyData.shown] at q
    exact PySem.P.repr_of_bool ⟨.str _, H, I.tok _, ⟨_, rfl⟩, q⟩
  | int i =>
    obtain ⟨t, rfl⟩ := ru
    simp only [PyData.shown] at q
    simp only [PyData.showable, decide_eq_true_eq] at hs
    exact PySem.P.repr_of_int hs ⟨.str _, H, I.tok _, ⟨_, rfl⟩, q⟩
  | str z =>
    obtain ⟨t, rfl⟩ := ru
    simp only [PyData.shown] at q hl
    exact PySem.P.repr_of_str ⟨.str _, H, I.tok _, ⟨_, rfl⟩, q⟩ hl
  | @lst a ys ds h1 h2 =>
    obtain ⟨as, rd⟩ := Dp.reads I _ _ _ (Dp.lst h1 h2) ru
    cases ru
    refine repr_of_reads' rd hs (PyData.noDict_hsm (Dp.flat _ _ (Dp.lst h1 h2))) hgu (by omega) (fun _ _ e => e) (fun h' u tk k => ?_) hl
    exact ⟨.str _, H, I.kept (t' := tk) k, ⟨_, rfl⟩, q⟩
  | @tup a ys ds h1 h2 =>
    obtain ⟨as, rd⟩ := Dp.reads I _ _ _ (Dp.tup h1 h2) ru
    cases ru
    refine repr_of_reads' rd hs (PyData.noDict_hsm (Dp.flat _ _ (Dp.tup h1 h2))) hgu (by omega) (fun _ _ e => e) (fun h' u tk k => ?_) hl
    exact ⟨.str _, H, I.kept (t' := tk) k, ⟨_, rfl⟩, q⟩
theorem adj_back (n : Nat) : Builtin.Slice.sliceAdjust none none (-1) (n : Int) = ((n : Int) - 1, -1) := rfl
theorem places_back (n : Nat) : Builtin.Slice.slicePlaces ((n : Int) - 1) (-1) (-1) = n := by
  unfold Builtin.Slice.slicePlaces
  rw [if_neg (by decide)]
  split
  · have e : (-(-1) : Int) = 1 := rfl
    rw [e, Int.ediv_one]
    omega
  · omega
theorem picked_back (xs : Array Value) :
    ((List.range xs.size).filterMap fun (k : Nat) => xs[(((xs.size : Nat) : Int) - 1 + (k : Int) * (-1)).toNat]?) = xs.toList.reverse := by
  have e : ∀ k ∈ List.range xs.size, xs[(((xs.size : Nat) : Int) - 1 + (k : Int) * (-1)).toNat]? = xs[xs.size - 1 - k]? := by
    intro k hk
    have := List.mem_range.mp hk
    have z : (((xs.size : Nat) : Int) - 1 + (k : Int) * (-1)).toNat = xs.size - 1 - k := by omega
    rw [z]
  have fc : ∀ (l : List Nat) (f g : Nat → Option Value), (∀ k ∈ l, f k = g k) → l.filterMap f = l.filterMap g := by
    intro l f g
    induction l with
    | nil => intro _; rfl
    | cons z r ih =>
      intro hh
      rw [List.filterMap_cons, List.filterMap_cons, hh z List.mem_cons_self, ih fun k hk => hh k (List.mem_cons_of_mem _ hk)]
  rw [fc _ _ _ e]
  have e2 : (List.range xs.size).filterMap (fun k => xs[xs.size - 1 - k]?) = ((List.range xs.size).map fun k => xs.size - 1 - k).filterMap (fun k => xs[k]?) := by
    rw [List.filterMap_map]
    rfl
  rw [e2, PySem.W.krv_range, List.filterMap_reverse]
  have := PySem.W.krv_all xs
  rw [this]
section
variable {prog : Program} {w : World} {A : Around} {E : Value → Shared → Prop} {s : Shared}
theorem getItem_tup_back {t sl : Addr} {items : Array Value} {vl vu vk : Value} {Q : Value → Shared → Prop} (ht : IsTup s.heap t items)
    (hs : s.heap.IsSliceOf sl vl vu vk) (pl : IsPart vl none) (pu : IsPart vu none) (pk : IsPart vk (some (-1))) (hz : items.size ≤ sizeLine)
    (h : Q (.ref s.heap.objs.size) { s with heap := s.heap.push { cls := .type "tuple", data := .seq items.toList.reverse.toArray } }) :
    wpAny (model prog w) A (getItem (.ref t) (.ref sl)) Q E s := by
  have okz : sizeOk (.seq items.toList.reverse.toArray) := by
    show items.toList.reverse.toArray.size ≤ sizeLine
    rw [List.size_toArray, List.length_reverse, Array.length_toList]
    exact hz
  obtain ⟨os, hos, hcs, hds⟩ := id hs
  have hT : s.TypeIs (.ref sl) "slice" := ⟨os, hos, hcs⟩
  unfold getItem
  try with_reducible refine wpAny_holding ?_
  first
    | refine wpAny_bind (wpAny_pure ?_)
    | skip
  refine wpAny_bind (wpAny_sequenceKey ht.typeIs (by decide) ?_)
  refine wpAny_bind (wpAny_callSpecial?_slot (name := Str.ofString "__getitem__") ht.typeIs slot_tuple_getitem
    (wpAny_call_entry slot_tuple_getitem ht.typeIs PyProof.Rows.entry_tuple_getitem ?_ (PyProof.Rows.args_tuple_getitem _ _)))
  show wpAny _ _ (Builtin.Tuple.tupleItemsOf (.ref t) >>= _) _ _ s
  refine wpAny_bind (PyProof.Rows.tupleItemsOf_ ht ?_)
  refine wpAny_bind (wpAny_typeOf hT ?_)
  rw [if_pos (by decide)]
  have sa : ∀ {Q' : Int × Int × Nat → Shared → Prop} {E' : Value → Shared → Prop} {A' : Around}, Q' (((items.size : Nat) : Int) - 1, -1, items.size) s →
      wpAny (model prog w) A' (Builtin.Slice.sliceApplied (.ref sl) (pure ((items.size : Nat) : Int))) Q' E' s := by
    intro Q' E' A' q
    unfold Builtin.Slice.sliceApplied Builtin.Slice.sliceFields
    refine wpAny_bind (wpAny_bind (wpAny_field hos hds (x := vl) rfl (wpAny_bind
      (wpAny_field hos hds (x := vu) rfl (wpAny_bind (wpAny_field hos hds (x := vk) rfl (wpAny_pure ?_)))))))
    refine wpAny_bind (HT.slicePart_ pk ?_)
    show wpAny _ _ (if ((-1 : Int) == 0) = true then _ else _) _ _ s
    rw [if_neg (by decide)]
    refine wpAny_bind (HT.slicePart_ pl (wpAny_bind (HT.slicePart_ pu (wpAny_bind (wpAny_pure ?_)))))
    show wpAny _ _ (match Builtin.Slice.sliceAdjust none none (-1) ((items.size : Nat) : Int) with
      | (lo, hi) => pure (lo, (-1 : Int), Builtin.Slice.slicePlaces lo hi (-1))) _ _ s
    rw [adj_back]
    show wpAny _ _ (pure (((items.size : Nat) : Int) - 1, (-1 : Int), Builtin.Slice.slicePlaces (((items.size : Nat) : Int) - 1) (-1) (-1))) _ _ s
    rw [places_back]
    exact wpAny_pure q
  refine wpAny_bind (sa ?_)
  have hno : ¬ (((((items.size : Nat) : Int) - 1 == 0) && ((-1 : Int) == 1) && (items.size == items.size)) = true) := by
    intro q
    rw [Bool.and_eq_true, Bool.and_eq_true] at q
    exact absurd (eq_of_beq q.1.2) (by decide)
  show wpAny _ _ (if ((((items.size : Nat) : Int) - 1 == 0) && ((-1 : Int) == 1) && (items.size == items.size)) = true then _ else _) _ _ s
  rw [if_neg hno, picked_back]
  first
    | exact wpAny_bind (m := Builtin.Tuple.tupleExact _) (wpAny_newObj_type (wpAny_pure ⟨_, rfl, wpAny_pure h⟩) okz)
    | exact wpAny_bind (m := Builtin.Tuple.tupleExact _) (wpAny_newObj_type (wpAny_bind (wpAny_pure (wpAny_pure ⟨_, rfl, wpAny_pure h⟩))) okz)
    | exact wpAny_bind (wpAny_bind (m := Builtin.Tuple.tupleExact _) (wpAny_newObj_type (wpAny_pure (wpAny_pure ⟨_, rfl, wpAny_pure h⟩)) okz))
    | exact wpAny_bind (wpAny_bind (m := Builtin.Tuple.tupleExact _) (wpAny_newObj_type (wpAny_pure ⟨_, rfl, wpAny_pure h⟩) okz))
end
def tRevT (K : PySem.W.Frag) (te : TE) : TE := fun σ H Q => te σ H fun x H1 => ∃ a xs, x = .ref a ∧ SqT K H1 a xs ∧
  ∀ p, H1 p = none → Q (.ref p) (upd H1 p (.tup xs.reverse))
theorem pe_revT {X : Cx} {e : Expr} {te : TE} {k : Nat} {p1 p2 p3 pos : Pos} (he : PE X e te) :
    PE X (.Subscript e (.Slice none none (some (.UnaryOp .USub (.Constant (.int 1) k p1) p2)) p3) pos) (tRevT X.K te) := by
  refine ⟨fun pins s σ H Q I h => ?_⟩
  refine Subscript_ (thn (he.run pins s σ H _ I h) fun v s1 ⟨x, H1, I1, r1, q1⟩ => ?_)
  obtain ⟨a, xs, rfl, hx, q⟩ := q1
  cases r1
  have back : PO X (some (.UnaryOp .USub (.Constant (.int 1) k p1) p2)) (tPart (tUn (rU fun i => .int (-i)) (tC (.int 1)))) :=
    po_some (pe_un un_neg pe_int)
  refine wpAny_Slice (thn (po_none.run pins s1 σ H1 (fun o H2 => o = none ∧ H2 = H1) I1 ⟨rfl, rfl⟩) fun vl s2 ⟨l, H2, I2, pl, el, e2⟩ => ?_)
  subst el e2
  refine thn (po_none.run pins s2 σ H2 (fun o H3 => o = none ∧ H3 = H2) I2 ⟨rfl, rfl⟩) fun vu s3 ⟨u, H3, I3, pu, eu, e3⟩ => ?_
  subst eu e3
  refine thn (back.run pins s3 σ H3 (fun o H4 => o = some (-1) ∧ H4 = H3) I3 ⟨1, rfl, -1, rfl, rfl, rfl⟩) fun vk s4 ⟨o, H4, I4, pk, eo, e4⟩ => ?_
  subst eo e4
  have I5 : Inv X pins σ H4 { s4 with heap := s4.heap.push { cls := .type "slice", data := .fields #[vl, vu, vk] } } :=
    I4.kept (t' := s4.toks) fun b ob z => Heap.get?_push_of_some _ z
  obtain ⟨its, r, ht, hz⟩ := I5.tuple hx
  have hlen := r.length
  show wpAny (model X.prog X.w) X.A (subscriptTail e (.Slice none none (some (.UnaryOp .USub (.Constant (.int 1) k p1) p2)) p3)
    (.ref a) (.ref s4.heap.objs.size)) (EP X pins σ Q) X.xe { s4 with heap := s4.heap.push { cls := .type "slice", data := .fields #[vl, vu, vk] } }
  refine tail_any (ops := [.ref a, .ref s4.heap.objs.size]) ht.typeIs slot_tuple_getitem.lookup ?_ (by with_unfolding_all rfl)
  refine getItem_tup_back ht (Heap.IsSliceOf.new _ vl vu vk) pl pu pk (by rw [List.size_toArray]; omega) ?_
  refine ⟨.ref _, _, I5.laid (t' := s4.toks) (o := .tup xs.reverse) (fun b ob z => Heap.get?_push_of_some _ z) (Nat.le_refl _) ?_, rfl,
    q _ (I5.hok.fresh (Nat.le_refl _))⟩
  exact ⟨by rw [List.length_reverse]; omega, _, r.reverse, IsTup.new _ _⟩
section
variable {K : PySem.W.Frag} {a b : Addr} {xs ys : List V}
theorem walk_zipT {n : Nat} (hn : n = min xs.length ys.length) :
    Walk (RZ.ItzT K a b) n (fun H => SqT K H a xs ∧ SqT K H b ys) (YPair (fun i => xs[i]?) (fun i => ys[i]?)) := by
  subst hn
  refine ⟨fun i _ hi q => ?_, fun _ q => ⟨xs, ys, q.1, q.2, by omega⟩, fun i H v H' _ q y => ?_⟩
  · have h1 : i < xs.length := by omega
    have h2 : i < ys.length := by omega
    exact ⟨xs, ys, xs[i], ys[i], q.1, q.2, by simp [h1], by simp [h2]⟩
  · obtain ⟨T, x, z, h1, h2, h3, h4, h5⟩ := y
    exact ⟨T, x, z, h1, h2, h3, h4 xs q.1, h5 ys q.2⟩
theorem walk_revT : Walk (RT.ItvT K a xs.length) xs.length (fun H => SqT K H a xs) (fun i H x H' => H' = H ∧ xs[xs.length - 1 - i]? = some x) := by
  refine ⟨fun i _ hi q => ⟨hi, xs, xs[xs.length - 1 - i]'(by omega), q, by simp [show xs.length - 1 - i < xs.length by omega]⟩, fun _ _ => Nat.le_refl _, ?_⟩
  intro i H x H' _ q y
  exact ⟨y.1, y.2 xs q⟩
end
end MB
end
section
set_option maxRecDepth 100000
set_option maxHeartbeats 4000000
namespace MB
open PySem PySem.Spec PyProof.Rows L2
theorem mul_once (l : Addr) (items : Array Value) (n : Nat) (dd : Option Addr) (sl : Array (Option Value)) (u : Tok) :
    Meets (Builtin.«tuple.__mul__» ⟨[.ref l, .int 1 u], []⟩) (fun _ R s =>
      s.heap.get? l = some { cls := .type "tuple", dict := dd, data := .seq items n, slots := sl } ∧ R (.ok (.ret (.ref l))) s) :=
  .of_wp fun prog w A R s h => by
    obtain ⟨hp, g, d, tk, os⟩ := s
    obtain ⟨hl, h⟩ := h
    have f1 := AutoSeq1.idx_int
    wp_walk using wpAny_loadPart' hl
    repeat (first
      | (refine wpAny_ite_false (by decide) ?_; wp_walk using wpAny_loadPart' hl)
      | (refine wpAny_ite_true (by simp) ?_; wp_walk using wpAny_loadPart' hl))
    all_goals exact ⟨_, rfl, h⟩
theorem mul_none (l : Addr) (items : Array Value) (n : Nat) (dd : Option Addr) (sl : Array (Option Value)) (x : Int) (u : Tok)
    (c0 : (decide (x < -(2 ^ 63)) || decide (x ≥ 2 ^ 63)) = false) (c1 : (items.isEmpty || x == 1) = false) (c2 : (decide (x ≤ 0) || items.isEmpty) = true) :
    Meets (Builtin.«tuple.__mul__» ⟨[.ref l, .int x u], []⟩) (fun _ R s =>
      s.heap.get? l = some { cls := .type "tuple", dict := dd, data := .seq items n, slots := sl } ∧
      R (.ok (.ret (Value.ref s.heap.objs.size))) { s with heap := s.heap.push { cls := Value.type "tuple", data := Data.seq #[] }, toks := s.toks }) :=
  .of_wp fun prog w A R s h => by
    obtain ⟨hp, g, d, tk, os⟩ := s
    obtain ⟨hl, h⟩ := h
    have f1 := AutoSeq1.idx_int
    wp_walk using wpAny_loadPart' hl
    repeat (first
      | (refine wpAny_ite_false (decide_eq_false (by rw [c0]; exact Bool.false_ne_true)) ?_; wp_walk using wpAny_loadPart' hl)
      | (refine wpAny_ite_false (decide_eq_false (by rw [c1]; exact Bool.false_ne_true)) ?_; wp_walk using wpAny_loadPart' hl)
      | (refine wpAny_ite_true (decide_eq_true c2) ?_; wp_walk using wpAny_loadPart' hl))
    exact ⟨_, rfl, h⟩
def rRepA (K : PySem.W.Frag) : R2 := fun x y H Q => ∃ l k xs, x = .ref l ∧ y = .int k ∧ SqT K H l xs ∧ xs ≠ [] ∧ -(2 ^ 63) ≤ k ∧ k ≤ 1000 ∧ xs.length ≤ 1000 ∧
  (k = 1 → Q (.ref l) H) ∧ (k ≠ 1 → ∀ p, H p = none → Q (.ref p) (upd H p (.tup (List.replicate k.toNat xs).flatten)))
theorem op_repA {X : Cx} : OpR X (binaryOp .Mult) (rRepA X.K) := by
  intro pins s σ H x y v u Q I rx ry h
  obtain ⟨l, k, xs, rfl, rfl, hT, hne, h0, h2, hz, q1, qn⟩ := h
  by_cases hbig : 2 ≤ k
  · exact op_repT pins s σ H _ _ v u Q I rx ry ⟨l, k, xs, rfl, rfl, hT, hne, hbig, h2, hz, qn (by omega)⟩
  · cases rx
    obtain ⟨t, rfl⟩ := ry
    obtain ⟨its, r, ⟨⟨cls, dd, data, sl⟩, ho, hc, n, hd⟩, hs⟩ := I.tuple hT
    simp only at hc hd
    subst hc hd
    have hle : its.length = xs.length := r.length.symm
    have hi : its.toArray.isEmpty = false := by
      cases its with
      | nil => exact absurd (List.eq_nil_of_length_eq_zero hle.symm) hne
      | cons _ _ => rfl
    refine wpAny_binaryOp_repeat_ref (T := "tuple") (U := "int") (by decide) ⟨_, ho, rfl⟩ (fun s' => typeIs_int s' k t) noFill_tuple_mul
      F.fills_int_mul F.slot_int_rmul repeat_tuple F.slot_int_index.lookup (call_meets F.slot_int_rmul (typeIs_int s k t) F.entry_int_rmul
        (F.args_int_rmul_2 _ _) (int_rmul_tuple k t l its.toArray n dd sl) ⟨ho, rfl, ⟨_, ho, rfl⟩, ?_⟩)
    by_cases h1 : k = 1
    · subst h1
      exact call_meets F.slot_tuple_mul ⟨_, ho, rfl⟩ F.entry_tuple_mul (F.args_tuple_mul_2 _ _) (mul_once l its.toArray n dd sl t)
        ⟨ho, .ref l, H, I, rfl, q1 rfl⟩
    · have c0 : (decide (k < -(2 ^ 63)) || decide (k ≥ 2 ^ 63)) = false := by
        rw [decide_eq_false (by omega), decide_eq_false (by omega)]
        rfl
      have c1 : (its.toArray.isEmpty || k == 1) = false := by
        rw [hi, Bool.false_or]
        exact beq_eq_false_iff_ne.mpr h1
      have c2 : (decide (k ≤ 0) || its.toArray.isEmpty) = true := by
        rw [decide_eq_true (by omega)]
        rfl
      refine call_meets F.slot_tuple_mul ⟨_, ho, rfl⟩ F.entry_tuple_mul (F.args_tuple_mul_2 _ _) (mul_none l its.toArray n dd sl k t c0 c1 c2) ⟨ho, ?_⟩
      have e0 : (List.replicate k.toNat xs).flatten = [] := by
        rw [show k.toNat = 0 by omega]
        rfl
      have q := qn h1
      rw [e0] at q
      refine ⟨.ref s.heap.objs.size, _, I.laid (t' := s.toks) (o := .tup []) (fun b ob z => Heap.get?_push_of_some _ z) (Nat.le_refl _) ?_, rfl,
        q _ (I.hok.fresh (Nat.le_refl _))⟩
      exact ⟨Nat.zero_le _, [], .nil, IsTup.new _ _⟩
end MB
end
section
set_option maxRecDepth 100000
set_option maxHeartbeats 4000000
namespace MB
open PySem PySem.Spec PyProof.Rows L2
open AutoSeq1 (wpAny_loadPart')
abbrev tupIt (t : Addr) : Obj := { cls := .type "tuple_iterator", data := .fields #[.ref t, .int 0 0] }
abbrev enumObj (it : Addr) : Obj := { cls := .type "enumerate", data := .fields #[.none, .bool false, .ref it, rawInt 0, .none, .none] }
theorem new_enum_tup (l : Addr) (items : Array Value) (n : Nat) (dct : Option Addr) (sl : Array (Option Value)) :
    Meets (Builtin.«enumerate.__new__» ⟨[.type "enumerate", .ref l], []⟩) (fun _ R s =>
      s.heap.get? l = some { cls := .type "tuple", dict := dct, data := .seq items n, slots := sl } ∧
      R (.ok (.ret (.ref (s.heap.push (tupIt l)).objs.size))) { s with heap := (s.heap.push (tupIt l)).push (enumObj s.heap.objs.size) }) :=
  .of_wp fun prog w A R s h => by
    obtain ⟨hp, g, d, tk, os⟩ := s
    obtain ⟨hl, h⟩ := h
    have hsub := sub_enumerate
    have hL : Heap.IsTuple (Shared.heap ⟨hp, g, d, tk, os⟩) l items := ⟨_, hl, rfl, n, rfl⟩
    wp_walk using wpAny_loadPart' hl
    refine wpAny_stack_any fun st => wpAny_pure ?_
    split
    · rename_i c _ _ _ _ _
      cases (c == Value.type "enumerate") <;>
      · wp_walk using wpAny_loadPart' hl, wpAny_pyIter_tuple hL
        exact ⟨_, rfl, h⟩
    · wp_walk using wpAny_loadPart' hl, wpAny_pyIter_tuple hL
      exact ⟨_, rfl, h⟩
section
variable {prog : Program} {w : World} {A : Around} {E : Value → Shared → Prop} {s : Shared}
theorem call_enum_tup {l : Addr} {items : Array Value} {Q : Value → Shared → Prop} (hL : s.heap.IsTuple l items)
    (h : ∀ h', IsEnum h' (s.heap.objs.size + 1) s.heap.objs.size 0 .none → h'.IsTupleIter s.heap.objs.size l 0 →
      (∀ b o, s.heap.get? b = some o → h'.get? b = some o) → Q (.ref (s.heap.objs.size + 1)) { s with heap := h' }) :
    wpAny (model prog w) A (call (.type "enumerate") [.ref l]) Q E s := by
  obtain ⟨⟨c, dct, dt, sl⟩, hl, hc, n, hd⟩ := hL
  replace hc : c = .type "tuple" := hc
  replace hd : dt = .seq items n := hd
  subst hc hd
  refine callType_new F.called_enumerate (by decide) (F.typeCall_enumerate_1 _) (F.newCall_enumerate_1 _)
    (fun obj => F.args_object_init_2 obj _) F.entry_enumerate_new (new_enum_tup l items n dct sl) ⟨hl, ?_⟩
  have hz : (s.heap.push (tupIt l)).objs.size = s.heap.objs.size + 1 := Heap.size_push ..
  show _ ∧ _
  rw [hz]
  have he : IsEnum ((s.heap.push (tupIt l)).push (enumObj s.heap.objs.size)) (s.heap.objs.size + 1) s.heap.objs.size 0 .none := by
    have q := Heap.get?_push_size (s.heap.push (tupIt l)) (o := enumObj s.heap.objs.size) rfl
    rw [hz] at q
    exact q
  exact ⟨⟨_, he, rfl⟩, h _ he ⟨_, Heap.get?_push_of_some _ (Heap.get?_push_size _ rfl), rfl, rfl⟩
    fun b o x => Heap.get?_push_of_some _ (Heap.get?_push_of_some _ x)⟩
end
def IteT (K : PySem.W.Frag) (a : Addr) : It :=
  ⟨fun i H => ∃ (xs : List V) (x : V), SqT K H a xs ∧ xs[i]? = some x,
   fun i H v H' => ∃ T x, v = .ref T ∧ H T = none ∧ H' = upd H T (.tup [.int (i : Nat), x]) ∧ ∀ xs, SqT K H a xs → xs[i]? = some x,
   fun i H => ∃ xs : List V, SqT K H a xs ∧ xs.length = i⟩
theorem turn_enumT {P : Program} {w : World} {K : PySem.W.Frag} {elts : List Expr} {kk : Nat} {tpos : Pos} (a e it : Addr) (hai : a ≠ it) (hae : a ≠ e) :
    Turn P w K (.Tuple elts kk tpos) (IteT K a) [e, it] e
      (fun i h => (∃ old, IsEnum h e it ((i : Nat) : Int) old) ∧ h.IsTupleIter it a i ∧ e ≠ it) where
  mem := by simp
  obj := fun i h st b hb => by
    obtain ⟨⟨old, he⟩, ⟨o, ho, hc, hd⟩, _⟩ := st
    have hb' : b = e ∨ b = it := by simpa using hb
    rcases hb' with z | z
    · subst z
      exact ⟨_, he, fun v q => nomatch q⟩
    · subst z
      exact ⟨o, ho, fun v q => by rw [hd] at q; cases q⟩
  keep := fun i h h' st k => by
    obtain ⟨⟨old, he⟩, hi, hne⟩ := st
    exact ⟨⟨old, k e (by simp) _ he⟩, hi.at fun o q => k it (by simp) o q, hne⟩
  item := by
    intro X hP hw hK hc i pins s σ H E I hf st hg
    subst hP hw hK
    obtain ⟨⟨old, he⟩, hit, hne⟩ := st
    obtain ⟨xs, x, hq, hx⟩ := hg
    obtain ⟨its, rv, p, hz⟩ := I.tuple hq
    obtain ⟨u, hu, ru⟩ := rv.get hx
    have hel : e < s.heap.objs.size := Heap.lt_size he
    have hil : it < s.heap.objs.size := by
      obtain ⟨_, q, _⟩ := hit
      exact Heap.lt_size q
    have hlt : i < its.toArray.size := by
      rw [List.size_toArray]
      exact (List.getElem?_eq_some_iff.mp hu).1
    have hh : X.A.in1.handled = none := I.ok.hd hc
    refine wpAny_pyNext_enum_itemD (Draws.tuple hh it a hai its.toArray) he ⟨hit, p⟩ hlt hne (by simp [hne, Ne.symm hae]) fun y h' tk hy ho hst hT hsz hk => ?_
    have eyu : y = u := by
      have z : its.toArray[i]? = some u := by simpa using hu
      rw [z] at hy
      exact (Option.some.inj hy).symm
    subst eyu
    refine ⟨_, rfl, wpAny_letOwnedTupleGo_enum (s := { s with heap := h', toks := tk + 1 }) ho fun h'' he' sb => ?_⟩
    have hT2 : h''.get? s.heap.objs.size = some { cls := .type "tuple", data := .seq #[.int i tk, y] } :=
      (sb.2 _ (Nat.ne_of_gt hel)).trans hT
    have new : ObjOk X.prog X.w (upd H s.heap.objs.size (.tup [.int (i : Nat), x])) h'' s.heap.objs.size (.tup [.int (i : Nat), x]) :=
      ⟨(by decide : 2 ≤ sizeLine), [.int i tk, y], .cons ⟨_, rfl⟩ (.cons ru .nil), ⟨_, hT2, rfl, _, rfl⟩⟩
    have I1 : Inv X pins σ (upd H s.heap.objs.size (.tup [.int (i : Nat), x])) { s with heap := h'', toks := tk + 1 } :=
      I.turnedNew (ch := [e, it]) (fun b ob hb q => (sb.2 b (fun z => hb (by simp [z]))).trans
        (hk b ob (fun z => hb (by simp [z])) (fun z => hb (by simp [z])) q)) hf (Nat.le_refl _) new
    refine ⟨.ref s.heap.objs.size, _, I1, rfl, ⟨_, x, rfl, I.hok.fresh (Nat.le_refl _), rfl, fun ys hy => by rw [I.tuple_inj hy hq]; exact hx⟩,
      ⟨⟨y, ?_⟩, hst.1.at fun o q => (sb.2 it (Ne.symm hne)).trans q, hne⟩, fun b hb => ?_⟩
    · have e1 : ((i + 1 : Nat) : Int) = (i : Int) + 1 := by omega
      rw [e1]
      exact he'
    · have hb' : b < s.heap.objs.size := by
        have z : b = e ∨ b = it := by simpa using hb
        rcases z with z | z <;> subst z <;> assumption
      rw [upd_ne (Nat.ne_of_lt hb')]
      exact (hf b hb).1
  done := by
    intro X hP hw hK hc i pins s σ H E I hf st hg
    subst hP hw hK
    obtain ⟨⟨old, he⟩, hit, hne⟩ := st
    obtain ⟨xs, hq, hx⟩ := hg
    obtain ⟨its, rv, p, hz⟩ := I.tuple hq
    obtain ⟨f0, f1, f2, f3, f4, f5⟩ := hf it (by simp)
    have hn : its.toArray.size = i := by
      rw [List.size_toArray, ← rv.length]
      exact hx
    rw [← hn] at hit
    have hh : X.A.in1.handled = none := I.ok.hd hc
    exact wpAny_pyNext_enum_endD (Draws.tuple hh it a hai its.toArray) he ⟨hit, p⟩
      fun h' eb => ⟨rfl, I.turned (t' := s.toks) (fun b o hb q => eb b o hb q) f0 f1 f3 f4 f5⟩
  self := fun A i s Q E st h => by
    obtain ⟨⟨_, he⟩, _⟩ := st
    exact wpAny_pyIter_enum he h
def iEnumT (K : PySem.W.Frag) (ta : TA) : TI := fun σ H R => ta σ H fun vs H1 => ∃ a xs, vs = [.ref a] ∧ SqT K H1 a xs ∧ R (IteT K a) H1
theorem pi_enumT {X : Cx} {e : Expr} {ta : TA} {p pos tpos : Pos} {elts : List Expr} {kk : Nat} (hg : Gl X "enumerate") (hm : X.mg "enumerate" = none)
    (ha : PA X [e] ta) (hs : starEach [e] X.env = [(false, eval e X.env)] := by rfl) :
    PI X (.Tuple elts kk tpos) (.Call (.Name "enumerate" p) [e] [] pos) (iEnumT X.K ta) := by
  refine ⟨fun pins s σ H R I h => ?_⟩
  refine Call_ (ld_blt I hg hm boot_enumerate (callWith_type1 (thn (ha.run pos pins s σ H _ I h) fun us s1 ⟨vs, H1, I1, r1, q1⟩ => ?_) hs rfl))
  obtain ⟨a, xs, ex, hq, q⟩ := q1
  subst ex
  obtain ⟨u, rfl, r⟩ := vals1 r1
  cases r
  obtain ⟨its, rv, p', hz⟩ := I1.tuple hq
  have hal : a < s1.heap.objs.size := p'.lt
  refine call_enum_tup p' fun h' he hit hk => wpAny_pyIter_enum he ?_
  have I2 : Inv X pins σ H1 { s1 with heap := h' } := I1.kept (t' := s1.toks) hk
  refine ⟨s1.heap.objs.size + 1, [s1.heap.objs.size + 1, s1.heap.objs.size], _, _, H1, rfl, I2,
    turn_enumT a (s1.heap.objs.size + 1) s1.heap.objs.size (Nat.ne_of_lt hal) (Nat.ne_of_lt (Nat.lt_succ_of_lt hal)),
    ⟨⟨.none, he⟩, hit, Nat.succ_ne_self _⟩, fun b hb => ?_, q⟩
  have hle : s1.heap.objs.size ≤ b := by
    have z : b = s1.heap.objs.size + 1 ∨ b = s1.heap.objs.size := by simpa using hb
    rcases z with z | z
    · rw [z]
      exact Nat.le_succ _
    · rw [z]
      exact Nat.le_refl _
  exact I1.fpOk hle (I1.hok.fresh hle)
theorem walk_enumT {K : PySem.W.Frag} {a : Addr} {xs : List V} :
    Walk (IteT K a) xs.length (fun H => SqT K H a xs) (YPair (fun i => some (.int (i : Nat))) (fun i => xs[i]?)) := by
  refine ⟨fun i _ hi q => ⟨xs, xs[i], q, by simp [hi]⟩, fun _ q => ⟨xs, q, rfl⟩, fun i H v H' _ q y => ?_⟩
  obtain ⟨T, x, h1, h2, h3, h4⟩ := y
  exact ⟨T, .int (i : Nat), x, h1, h2, h3, rfl, h4 xs q⟩
end MB
end
section
set_option maxRecDepth 100000
set_option maxHeartbeats 4000000
namespace MB
open PySem PySem.Spec PyProof.Rows L2
structure FnG (P : Program) (w : World) (K : PySem.W.Frag) (mg : Str → Option Value)
    (base : Heap) (k : Nat) (f : Addr) (fd : FuncData) (ps : List Str) (sp : Sp) : Prop where
  many : ∀ xs H Q E, sp xs H Q E → xs.length = ps.length
  goes : ∀ (A : Around) (outer : List Env) (s : Shared) (H : Hp) (args : Args)
    (us : List Value) (xs : List V) (Q : VK) (E : XK), Room k A → A.guards = some [] →
    Env0 P w K mg base A outer s H → BindsTo s fd args (ps.zip us) → Vals xs us →
    sp xs H Q E → codeAny (model P w) A (.call (.ref f) args) (CR CX0 outer P w H s Q E) s
section
variable {P : Program} {w : World} {K : PySem.W.Frag} {mg : Str → Option Value} {base : Heap}
variable {k : Nat} {f : Addr} {fd : FuncData} {ps : List Str} {sp : Sp}
theorem FnG.ofOk (F : FnOk P w K mg base CX0 k f fd ps sp) : FnG P w K mg base k f fd ps sp :=
  ⟨F.len, fun A outer s H args us xs Q E hr _ => F.run A outer s H args us xs Q E hr⟩
theorem fnG {x qual : Str} {st : Stmt} {N : List Str} (F : Fun K x qual st f fd)
    (S : FnScope N ps (defScope st)) (many : ∀ xs H Q E, sp xs H Q E → xs.length = ps.length)
    (body : ∀ (cdv : Value) (A : Around) (outer : List Env) (s : Shared) (H : Hp) (xs : List V)
      (Q : VK) (E : XK),
      Room k (A.deeper (envOfC qual (defScope st) s.heap.objs.size f cdv)) → A.guards = some [] →
      sp xs H Q E → ∃ t, PSs (cxOf CX0 P w K mg base N qual (defScope st) f cdv A outer s H E).nox (defBody st) t ∧
        t { nx := fun _ H' => Q .non H', rt := Q } (start N xs) H) :
    FnG P w K mg base (k + 1) f fd ps sp := by
  obtain ⟨oc, od, kV, doc, pm, an, cdv, ct, osl, efd, lk, hcd⟩ := F.ex
  refine ⟨many, fun A outer s H args us xs Q E hr hgu e0 hb r hsp => ?_⟩
  subst efd
  have hlen := many _ _ _ _ hsp
  have KX : K.In s.heap := e0.mod.kin.keeps fun b o e => (e0.bs b o e).1
  have lim : s.heap.NoLimit := e0.mod.nolimit.keeps fun b o e => (e0.bs b o e).1
  have kinds : ∀ y ∈ ps.zip us, (defScope st).names.lookup y.1 = some .local ∨
      ((defScope st).names.lookup y.1 = some .cell ∧
        ((cellsFrom (s.heap.objs.size + 1) (defScope st).names []).lookup y.1).isSome = true) := by
    rintro ⟨n, v⟩ hy
    rcases S.par n (List.of_mem_zip hy).1 with q | q
    · exact Or.inl q
    · exact Or.inr ⟨q, PySem.W.cellsFrom_some _ _ _ (Or.inl q)⟩
  refine codeAny_call_function hr.depth (KX _ _ lk) rfl S.co S.gen rfl
    (PySem.W.codeRec_of KX hcd) (hb _ _ _ _ ?_)
  refine wpAny_newFunctionEnv_cells S.kind kinds fun env he s1 x => ?_
  subst he
  refine ⟨lim.keeps x.toInCall.keep, codeAny_func ?_⟩
  obtain ⟨t, ht, hq⟩ := body cdv A outer s H xs Q E (hr.deeper _) hgu hsp
  have I : Inv (cxOf CX0 P w K mg base N qual (defScope st) f cdv A outer s H E) [] (start N xs) H s1 :=
    inv_start S hr.hd e0 hlen r x
  refine wpAny_mono (ht.nox.run [] s1 (start N xs) H _ I hq) (fun fl s' hs => ?_) fun e s' hs => hs
  cases fl with
  | ret u =>
    obtain ⟨v, σ', H', J, rv, q⟩ := hs
    exact ⟨v, H', J.os, J.bare, J.base, J.hok, rv, q⟩
  | next =>
    obtain ⟨σ', H', J, q⟩ := hs
    exact ⟨V.non, H', J.os, J.bare, J.base, J.hok, rfl, q⟩
  | brk =>
    obtain ⟨_, _, _, q⟩ := hs
    exact False.elim q
  | cont =>
    obtain ⟨_, _, _, q⟩ := hs
    exact False.elim q
end
section
variable {X : Cx} {k : Nat} {f : Addr} {fd : FuncData} {ps ks : List Str} {sp : Sp}
variable {x : Str} {p pos : Pos} {e : Expr} {es : List Expr} {t : TA}
theorem runG {pins : List (Addr × Obj)} {σ : L2.St} {H : Hp} {s : Shared} {Q : VK} {us as : List Value}
    {xs : List V} {kw : List (Str × Value)} (F : FnG X.prog X.w X.K X.mg X.base k f fd ps sp) (hr : Room k X.A) (hgu : X.A.guards = some [])
    (hb : BindsTo s fd ⟨us, kw⟩ (ps.zip as)) (I : Inv X pins σ H s) (r : Vals xs as) (h : sp xs H Q E0) :
    wpAny (model X.prog X.w) X.A (call (.ref f) us kw) (EP X pins σ Q) X.xe s := by
  refine wpAny_call (codeAny_mono (F.goes X.A X.stack s H ⟨us, kw⟩ as xs Q E0 hr hgu I.env0 hb r h)
    fun q s' hq => ?_)
  cases q with
  | error e => exact hq.elim
  | ok fl =>
    cases fl with
    | ret u => exact I.after hq
    | next => exact False.elim hq
    | brk => exact False.elim hq
    | cont => exact False.elim hq
theorem pe_callG (F : FnG X.prog X.w X.K X.mg X.base k f fd ps sp) (hr : Room k X.A) (hgu : X.A.guards = some [])
    (hg : Gl X x) (hm : X.mg x = some (.ref f)) (hk : PySem.W.keepIn X.K (.ref f) = true) (hb : Binds X.K fd ps [])
    (ha : PA X (e :: es) t) (hdb : (x == ("__debug__" : Str)) = false := by decide)
    (he : starEach (e :: es) X.env = (false, eval e X.env) :: starEach es X.env := by rfl)
    (hpl : (backTo pos (starEach es X.env)).any (·.1) = false := by rfl) :
    PE X (.Call (.Name x p) (e :: es) [] pos) (tCall sp [] E0 t) := by
  refine ⟨fun pins s σ H Q I h => ?_⟩
  refine wpAny_Call_Name_kw (ld_glob I hg hm ?_ hdb)
  refine PySem.W.callWith_K (h₀ := X.base) I.ok.mod.kin hk
    (thn (ha.run pos pins s σ H _ I h) fun us s1 ⟨xs, H1, I1, r, q⟩ => ⟨I1.kIn, ?_⟩) he hpl
  have q' : sp (xs ++ []) H1 Q E0 := q
  rw [List.append_nil] at q'
  have hl : (us ++ ([] : List Value)).length = ps.length := by
    rw [List.append_nil, ← r.length]
    exact F.many _ _ _ _ q'
  have bb := hb s1 us I1.kIn hl
  rw [List.append_nil] at bb
  exact runG F hr hgu bb I1 r q'
end
theorem lawG_at {P : Program} {w : World} {K : PySem.W.Frag} {mg mb : Str → Option Value} {k : Nat} {fa a : Addr}
    {fd : FuncData} {x : Str} {sp : Sp} {s₁ : Shared} {us : List Value} {ns : List Int} {H : Hp}
    (KX : K.In s₁.heap) (hns : s₁.heap.Ns mainGlobals mg) (hb : s₁.heap.Ns builtinsNs mb)
    (hbb : ∀ x : Str, x ≠ "__name__" → mb x = bootBuiltins x) (hlim : s₁.heap.NoLimit) (hg : s₁.gens = #[])
    (ha : s₁.heap.get? a = some { cls := .type "list", data := .seq us.toArray }) (hr : Room k callerA)
    (F : ∀ base : Heap, K.In base → base.Ns mainGlobals mg → FnG P w K mg base k fa fd [x] sp)
    (hbind : ∀ (s : Shared) (u : Value), BindsTo s fd ⟨[u], []⟩ [(x, u)])
    (hsp : sp [.ref a] H (fun v _ => v = .bl true) E0) (hO : Only H) (hok : HOk P w H s₁.heap)
    (hA : ∀ b, H b ≠ none → b = a) (hK : H a ≠ none → K.lookup a = none) :
    codeAny (model P w) callerA (.call (.ref fa) ⟨[.ref a], []⟩)
      (fun r s' => r = .ok (.ret (.bool true)) ∧ OldK s₁.heap s'.heap ∧ s'.os = s₁.os ∧ AllBare s'.gens) s₁ := by
  have noA : ∀ {b : Addr} {o : Obj} {es : Array DictEntry} {ep : Nat},
      s₁.heap.get? b = some o → o.data = .dict es ep → H b = none := by
    intro b o es ep e d
    cases q : H b with
    | none => rfl
    | some u =>
      obtain rfl : b = a := hA b (by simp [q])
      rw [ha] at e
      cases e
      exact absurd d (by intro z; cases z)
  have nsK : ∀ {b : Addr} {m : Str → Option Value}, s₁.heap.Ns b m → (hidT s₁.heap H).Ns b m :=
    fun {b m} ⟨o, es, ep, e, d, r⟩ => ⟨o, es, ep, hidT_get e (noA e d), d, r⟩
  have hKb : K.In (hidT s₁.heap H) := by
    intro b o e
    refine hidT_get (KX b o e) ?_
    cases q : H b with
    | none => rfl
    | some u =>
      obtain rfl : b = a := hA b (by simp [q])
      rw [hK (by simp [q])] at e
      cases e
  have hM : Mod K mg (hidT s₁.heap H) :=
    ⟨hKb, nsK hns, ⟨mb, nsK hb, hbb⟩, let ⟨mc, h1, h2⟩ := hlim; ⟨mc, nsK h1, h2⟩⟩
  have e0 : Env0 P w K mg (hidT s₁.heap H) callerA [] s₁ H :=
    ⟨rfl, hM, fun b o e => of_hidT e, Nat.le_of_eq (hidT_size _ _), trivial,
      fun b hb => absurd (show b ∈ ([] : List Addr) from hb) (by simp), hok, .of_eq hg⟩
  refine codeAny_mono ((F _ hKb (nsK hns)).goes callerA [] s₁ H ⟨[.ref a], []⟩ [.ref a] [.ref a] _ _ hr rfl e0
    (hbind s₁ (.ref a)) (.cons rfl .nil) hsp) fun r s' h => ?_
  cases r with
  | error e => exact h.elim
  | ok fl =>
    cases fl with
    | next => exact False.elim h
    | brk => exact False.elim h
    | cont => exact False.elim h
    | ret u =>
      obtain ⟨v, H', os, bare, un, hok', r', q⟩ := h
      have q' : v = .bl true := q
      subst q'
      obtain rfl : u = Value.bool true := r'
      refine ⟨rfl, OldK.of_keep fun b o e => ?_, os, bare⟩
      cases q : H b with
      | none => exact un.keep b o e q (fun z => absurd (show b ∈ ([] : List Addr) from z) (by simp)) (by simp)
      | some u =>
        rcases hO b with z | ⟨ob, xs, z⟩
        · rw [q] at z
          cases z
        · obtain ⟨e1, _⟩ := hok b _ z
          obtain ⟨e2, _⟩ := hok' b _ (un.frzs b ob _ z)
          rw [e] at e1
          cases e1
          exact e2
theorem lawG_call {P : Program} {w : World} {K : PySem.W.Frag} {mg mb : Str → Option Value} {k : Nat} {fa a : Addr}
    {fd : FuncData} {x : Str} {sp : Sp} {s₁ : Shared} {us : List Value} {ns : List Int}
    (KX : K.In s₁.heap) (hns : s₁.heap.Ns mainGlobals mg) (hb : s₁.heap.Ns builtinsNs mb)
    (hbb : ∀ x : Str, x ≠ "__name__" → mb x = bootBuiltins x) (hlim : s₁.heap.NoLimit) (hg : s₁.gens = #[])
    (ha : s₁.heap.get? a = some { cls := .type "list", data := .seq us.toArray }) (hi : IntsAre us ns)
    (hl : ns.length ≤ sizeLine) (hr : Room k callerA)
    (F : ∀ base : Heap, K.In base → base.Ns mainGlobals mg → FnG P w K mg base k fa fd [x] sp)
    (hbind : ∀ (s : Shared) (u : Value), BindsTo s fd ⟨[u], []⟩ [(x, u)])
    (hsp : ∀ H : Hp, Only H → SqL K H a (ns.map V.int) → sp [.ref a] H (fun v _ => v = .bl true) E0) :
    codeAny (model P w) callerA (.call (.ref fa) ⟨[.ref a], []⟩)
      (fun r s' => r = .ok (.ret (.bool true)) ∧ OldK s₁.heap s'.heap ∧ s'.os = s₁.os ∧ AllBare s'.gens) s₁ := by
  have rv := vals_ints hi
  have len1 := hi.length
  cases hk : K.lookup a with
  | some o =>
    have e := KX a o hk
    rw [ha] at e
    cases e
    have hS : SqL K (fun _ => none) a (ns.map V.int) :=
      Or.inr ⟨_, us.toArray, _, hk, rfl, rfl, rfl, by rw [List.size_toArray, len1]; exact hl, by simpa using rv⟩
    exact lawG_at (H := fun _ => none) (ns := ns) KX hns hb hbb hlim hg ha hr F hbind
      (hsp _ (fun _ => Or.inl rfl) hS) (fun _ => Or.inl rfl)
      (fun b u z => by cases (show (none : Option HO) = some u from z)) (fun b z => absurd rfl z) fun z => absurd rfl z
  | none =>
    let ob : Obj := { cls := .type "list", data := .seq us.toArray }
    let H0 : Hp := fun b => if b = a then some (.frz ob (.lst (ns.map V.int))) else none
    have at0 : H0 a = some (.frz ob (.lst (ns.map V.int))) := if_pos rfl
    have off : ∀ b, b ≠ a → H0 b = none := fun b hb => if_neg hb
    have hO : Only H0 := fun b => by
      by_cases hb : b = a
      · subst hb
        exact Or.inr ⟨_, _, at0⟩
      · exact Or.inl (off b hb)
    have hok : HOk P w H0 s₁.heap := fun b u z => by
      by_cases hb : b = a
      · subst hb
        rw [at0] at z
        cases z
        exact ⟨ha, by rw [List.length_map]; exact hl, us, _, rv, ha⟩
      · rw [off b hb] at z
        cases z
    refine lawG_at (H := H0) (ns := ns) KX hns hb hbb hlim hg ha hr F hbind
      (hsp H0 hO (Or.inl (Or.inr ⟨_, at0⟩))) hO hok (fun b z => ?_) fun _ => hk
    by_cases hb : b = a
    · exact hb
    · exact absurd (off b hb) z
theorem walkG {l : PySem.W.OpenLaw} {n k : Nat} {q : Program} {loose : List Str}
    {XP : (Str → Option Value) → Heap → Prop} {YP : World → Heap → Prop} {d : DefRec}
    {K : Params → PySem.W.Frag} {sp : PySem.W.Frag → Sp} {x : Str} (hn : l.most = some n) (hn2 : n ≤ sizeLine)
    (hdf : d.params.defaults = []) (hr : Room k callerA) (hY : ∀ (w : World) (h : Heap), YP w h → (K w.params).In h)
    (F : ∀ (w : World) (mg : Str → Option Value) (fa : Addr) (h : Heap), (K w.params).In h → h.Ns mainGlobals mg →
      mg d.name = some (.ref fa) → ∃ fd : FuncData, (∀ (s : Shared) (u : Value), BindsTo s fd ⟨[u], []⟩ [(x, u)]) ∧
        ∀ base : Heap, (K w.params).In base → base.Ns mainGlobals mg →
          FnG l.prog w (K w.params) mg base k fa fd [x] (sp (K w.params)))
    (hsp : ∀ (K : PySem.W.Frag) (H : Hp) (a : Addr) (ns : List Int), ns.length ≤ n → Only H →
      SqL K H a (ns.map V.int) → sp K [.ref a] H (fun v _ => v = .bl true) E0) :
    PySem.W.WalkO q loose XP YP l.row.toRowW d [] (fun f vs => PySem.call f vs) := by
  refine Att.attach_call hn hdf fun w s₀ s₁ mg mb fa o pm cd doc a vs ns G Y ho hd hcd hmg hobj hints hlen hg => ?_
  have KX := hY w _ Y
  obtain ⟨fd, hb, hF⟩ := F w mg fa _ KX G.T.g hmg
  exact lawG_call KX G.T.g G.T.b G.T.builtins G.T.nolimit hg hobj hints (Nat.le_trans hlen hn2) hr hF hb
    fun H hO hS => hsp _ H a ns hlen hO hS
end MB
end
section
set_option maxRecDepth 100000
set_option maxHeartbeats 4000000
namespace MB
open PySem PySem.Spec PyProof.Rows L2
section
variable {α : Type}
def one1 : List α → List α → List α
  | [], [a] => [a]
  | _, _ => []
def two2 : List α → List α → List α
  | [], [a, b] => [a, b]
  | _, _ => []
def two2s : List α → List α → List α
  | [], [a, b] => [b, a]
  | _, _ => []
end
theorem kb1 {K : PySem.W.Frag} {fd : FuncData} {p : Str} (h : ∀ a : Value, bindArgs fd ⟨[], [(p, a)]⟩ = pure [(p, a)]) :
    KBinds K fd [p] [p] one1 one1 where
  to := fun s us ws _ hl => by
    match us, ws, hl with
    | [], [a], _ => exact .of_eq (h a)
  rel := fun {vs us zs ws} r rz => by
    cases r with
    | nil =>
      cases rz with
      | nil => exact .nil
      | cons r1 r2 =>
        cases r2 with
        | nil => exact .cons r1 .nil
        | cons _ _ => exact .nil
    | cons _ _ => exact .nil
theorem kb2 {K : PySem.W.Frag} {fd : FuncData} {p q : Str} (h : ∀ a b : Value, bindArgs fd ⟨[], [(p, a), (q, b)]⟩ = pure [(p, a), (q, b)]) :
    KBinds K fd [p, q] [p, q] two2 two2 where
  to := fun s us ws _ hl => by
    match us, ws, hl with
    | [], [a, b], _ => exact .of_eq (h a b)
  rel := fun {vs us zs ws} r rz => by
    cases r with
    | nil =>
      cases rz with
      | nil => exact .nil
      | cons r1 r2 =>
        cases r2 with
        | nil => exact .nil
        | cons r2 r3 =>
          cases r3 with
          | nil => exact .cons r1 (.cons r2 .nil)
          | cons _ _ => exact .nil
    | cons _ _ => exact .nil
theorem kb2s {K : PySem.W.Frag} {fd : FuncData} {p q : Str} (h : ∀ a b : Value, bindArgs fd ⟨[], [(q, b), (p, a)]⟩ = pure [(p, a), (q, b)]) :
    KBinds K fd [p, q] [q, p] two2s two2s where
  to := fun s us ws _ hl => by
    match us, ws, hl with
    | [], [a, b], _ => exact .of_eq (h b a)
  rel := fun {vs us zs ws} r rz => by
    cases r with
    | nil =>
      cases rz with
      | nil => exact .nil
      | cons r1 r2 =>
        cases r2 with
        | nil => exact .nil
        | cons r2 r3 =>
          cases r3 with
          | nil => exact .cons r2 (.cons r1 .nil)
          | cons _ _ => exact .nil
    | cons _ _ => exact .nil
section
variable {X : Cx} {k : Nat} {f : Addr} {fd : FuncData} {ps ks : List Str} {sp : Sp} {x : Str} {p pos : Pos} {kws : List Keyword} {tk : TA}
variable {g : List Value → List Value → List Value} {gV : List V → List V → List V}
theorem pe_callK0 (F : FnOk X.prog X.w X.K X.mg X.base CX0 k f fd ps sp) (hr : Room k X.A) (hg : Gl X x) (hm : X.mg x = some (.ref f))
    (hk : PySem.W.keepIn X.K (.ref f) = true) (hb : KBinds X.K fd ps ks g gV) (hkw : PK X kws tk)
    (hall : (backToKw pos (keywordEach kws X.env)).all (·.1.isSome) = true := by rfl)
    (hks : (backToKw pos (keywordEach kws X.env)).filterMap (·.1) = ks := by rfl)
    (hdb : (x == ("__debug__" : Str)) = false := by decide)
    (hpl : ((backTo pos (starEach [] X.env)).any (·.1) || (backToKw pos (keywordEach kws X.env)).any (·.1.isNone)) = false := by rfl) :
    PE X (.Call (.Name x p) [] kws pos) (fun σ H Q => tk σ H fun zs H1 => sp (gV [] zs) H1 Q E0) := by
  refine ⟨fun pins s σ H Q I h => ?_⟩
  refine wpAny_Call_Name_kw (ld_glob I hg hm ?_ hdb)
  refine PySem.W.callWith_KW0 (h₀ := X.base) I.ok.mod.kin hk hall (thn (hkw.run pos pins s σ H _ I h) fun ws s1 ⟨zs, H1, I1, rz, q1⟩ => ⟨I1.kIn, ?_⟩) hpl
  rw [hks]
  exact run_fnk F hr hb pass0 I1 .nil rz q1
end
end MB
end
section
set_option maxRecDepth 100000
set_option maxHeartbeats 4000000
namespace MB
namespace Er
open PySem PySem.W PySem.Calls PyProof.Rows PySem.HandSPX
abbrev above (B0 : Addr) : List Value := .ref B0 :: PySem.ESX.exTail
def eA (f : Str) (p1 p2 : Pos) : Arguments :=
  { posonlyargs := [], args := [{ arg := "self", annotation := none, pos := p1 }, { arg := f, annotation := none, pos := p2 }], vararg := none,
    kwonlyargs := [], kw_defaults := [], kwarg := none, defaults := [] }
def eB (f msg : Str) (q1 q2 q3 q4 q5 q6 q7 q8 q9 q10 : Pos) : List Stmt :=
  [.Expr (.Call (.Attribute (.Call (.Name "super" q1) [] [] q2) "__init__" q3) [.Constant (.str msg) 0 q4] [] q5) q6,
   .Assign [.Attribute (.Name "self" q7) f q8] (.Name f q9) q10]
def eS (f : Str) : Scope :=
  { kind := .function, names := [(PySem.Str.ofString "self", .local), (f, .local), (PySem.Str.ofString "__class__", .free), (PySem.Str.ofString "super", .globalImplicit)],
    isGenerator := false, isCoroutine := false, more := [] }
structure NameOk (f : Str) : Prop where
  self : (f == ("self" : Str)) = false
  cls : (("__class__" : Str) == f) = false
  sup : (("super" : Str) == f) = false
  dbg : (f == ("__debug__" : Str)) = false
structure Txt (P : Program) (K : Frag) (mg : Str → Option Value) (B0 C fI : Addr) (x f : Str) : Prop where
  gC : mg x = some (.ref C)
  cls : ∃ nm q N bs sn sub ab col dd k0 k1 k2 k3 k5, K.lookup C = some (excClassObj nm q C N bs (above B0) true sn sub ab col dd k0 k1 k2 k3 k5 "Exception.__new__")
  sa : findIn K (.ref C) "__setattr__" = some (some (.builtin "object.__setattr__"))
  al : alongIn K "__init__" (above B0) = some (some (.builtin "Exception.__init__"))
  ga : findIn K (.ref C) "__getattribute__" = some (some (.builtin "BaseException.__getattribute__"))
  gg : findIn K (.ref C) "__getattr__" = some none
  noF : findIn K (.ref C) f = some none
  ov : excOver K C PySem.ESX.exTail = true
  iC : findIn K (.ref C) "__init__" = some (some (.ref fI))
  tC : typeIn K (.ref fI) = some (.type "function")
  kC : keepIn K (.ref C) = true
  exC : subIn K (.ref C) (.type "BaseException") = some true
  exE : subIn K (.ref C) (.type "Exception") = some true
  suC : mroIn K C (.ref C) = some true
  tyC : typeIn K (.ref C) = some (.type "type")
  hdC : hasDictIn K C = true
  te : exmOne K (.ref C) (.ref C) = some true
  op : nsIn K cStatics "thirdparty.any" = some none
  su : mg "super" = none
  top : (P.main.scope.names.lookup ("super" : Str)).isSome = false
  fok : NameOk f
  fn : ∃ (qual msg : Str) (oc : Value) (od : Option Addr) (doc pm : Value) (an : Option Addr) (cda : Addr) (ct : Value) (cc : Addr) (osl : Array (Option Value))
      (p1 p2 q1 q2 q3 q4 q5 q6 q7 q8 q9 q10 : Pos),
    K.lookup fI = some ⟨oc, od, .func (ksFn "__init__" qual (eA f p1 p2) (eB f msg q1 q2 q3 q4 q5 q6 q7 q8 q9 q10) (eS f) .none .none doc pm an (.ref cda) ct cc), osl⟩ ∧
    codeIn K (.ref cda) qual = true ∧ (q3.endLine == q5.line) = true ∧
    (∀ (s : Shared) (a b : Value), BindsTo s (ksFn "__init__" qual (eA f p1 p2) (eB f msg q1 q2 q3 q4 q5 q6 q7 q8 q9 q10) (eS f) .none .none doc pm an (.ref cda) ct cc) ⟨[a, b], []⟩ [("self", a), (f, b)]) ∧
    (∃ (ccl : Value) (cdd : Option Addr) (vs : Array Value) (ccs : Array (Option Value)) (file : Str) (tf : Tok),
      K.lookup cda = some ⟨ccl, cdd, .fields vs, ccs⟩ ∧ vs[2]? = some (.str file tf) ∧ ((P.main.file : Str) == file) = true) ∧
    (∃ (cl : Value) (cld : Option Addr) (csl : Array (Option Value)), K.lookup cc = some ⟨cl, cld, .cell (some (.ref C)), csl⟩)
structure InitEnd (h h' : Heap) (x C dx t1 : Addr) (f : Str) (v : Value) : Prop where
  keep : ∀ b o, b ≠ x → h.get? b = some o → h'.get? b = some o
  obj : h'.get? x = some { cls := .ref C, dict := some dx, data := .fields #[.ref t1, .none, .none, .none, .bool false, .none] }
  dbig : h.objs.size ≤ dx
  dne : dx ≠ x
  ns : h'.Ns1 dx (fun y => if y = f then some v else none)
structure OwnMade (h h' : Heap) (e C d : Addr) (f : Str) (v : Value) : Prop where
  keep : ∀ b o, h.get? b = some o → h'.get? b = some o
  new : h.objs.size ≤ e
  obj : ∃ oe vs, h'.get? e = some oe ∧ oe.cls = .ref C ∧ oe.dict = some d ∧ oe.data = .fields vs ∧ vs[1]? = some .none
  dbig : h.objs.size ≤ d
  dne : d ≠ e
  ns : h'.Ns1 d (fun y => if y = f then some v else none)
theorem one_size (v : Value) : [v].length ≤ sizeLine := by
  rw [sizeLine_eq]
  exact (by decide : 1 ≤ 16777216)
theorem above_contains (B0 : Addr) (X : String) : (above B0).contains (.type X) = PySem.ESX.exTail.contains (.type X) := by
  show ((Value.type X == Value.ref B0) || PySem.ESX.exTail.contains (.type X)) = _
  rw [show (Value.type X == Value.ref B0) = false from rfl, Bool.false_or]
section
open Builtin Builtin.ObjectAttr
variable {prog : Program} {w : World} {A : Around} {R : Result → Shared → Prop} {hp : Heap} {gs : Array GenState} {dr : Drawn} {tk : Nat} {os : OsState}
variable {K : Frag} {name : Str} {tn : Tok} {v : Value} {a C u : Addr}
theorem keeps_first (X : K.In hp) (ha : hp.get? a = some (excO C u)) (ov : excOver K C PySem.ESX.exTail = true) (hd : hasDictIn K C = true)
    (no : findIn K (.ref C) name = some none)
    (goal : ∀ (heap : Heap) (toks : Nat) (t : Addr), (∀ b o, b ≠ a → hp.get? b = some o → heap.get? b = some o) → hp.objs.size ≤ t → t ≠ a →
      heap.get? a = some { cls := .ref C, dict := some t, data := .fields #[.ref u, .none, .none, .none, .bool false, .none] } → heap.Ns1 t (fun y => if y = name then some v else none) →
      R (.ok (.ret .none)) ⟨heap, gs, dr, toks, os⟩) :
    codeAny (model prog w) A (.call (.builtin "object.__setattr__") ⟨[.ref a, .str name tn, v], []⟩) R ⟨hp, gs, dr, tk, os⟩ := by
  have tno : takerIn K C name = some none := by
    unfold takerIn
    rw [no]
    rfl
  have far : a ≠ hp.objs.size := Nat.ne_of_lt (Heap.lt_size ha)
  refine osa_openX (od := none) F.store_Exception X ⟨ha, rfl, rfl, trivial⟩ ov tno fun b => ?_
  obtain ⟨cd, hc, hd'⟩ := any_some hd
  refine wpAny_bind (wpAny_pure (wpAny_bind (instanceDict_exc (c2 := .none) (t := u) ha (looks_clsIn X hc) hd' ?_)))
  show wpAny _ _ (storeInDict hp.objs.size (.str name tn) name v) _ _ _
  have hin : ∀ b o, hp.get? b = some o → (hp.push (dictOf [] 0)).get? b = some o := fun b o e => Heap.get?_push_of_some _ e
  refine store_in_new ⟨_, #[], _, (Heap.get?_update_ne _ _ _ _ far.symm).trans (Heap.get?_push_at rfl rfl), rfl, fun e he => absurd he (by simp), fun _ => rfl⟩ fun h' tk' hn' same => ?_
  refine goal h' tk' hp.objs.size (fun b o hb ho => ?_) (Nat.le_refl _) far.symm ?_ hn'
  · rw [same.2 b (Nat.ne_of_lt (Heap.lt_size ho)), Heap.get?_update_ne _ _ _ _ hb]
    exact hin b o ho
  · rw [same.2 a far]
    exact Heap.get?_update_self _ (hin _ _ ha) rfl
end
section
variable {prog : Program} {w : World} {A : Around} {E : Value → Shared → Prop} {R : Result → Shared → Prop} {K : Frag} {mg : Str → Option Value} {B0 C fI : Addr} {x f : Str}
theorem cls_in (T : Txt prog K mg B0 C fI x f) : ∃ cd, clsIn K C = some cd ∧ cd.mro = .ref C :: above B0 ∧ cd.hasDict = true := by
  obtain ⟨nm, q, N, bs, sn, sub, ab, col, dd, k0, k1, k2, k3, k5, hC⟩ := T.cls
  refine ⟨{ name := nm, bases := bs, mro := .ref C :: above B0, ns := N, qualname := q, hasDict := true, slotNames := sn, subclasses := sub, abstract := ab, collection := col, hasDel := false }, ?_, rfl, rfl⟩
  unfold clsIn
  rw [hC] <;> rfl
theorem init (T : Txt prog K mg B0 C fI x f) {s : Shared} {a t0 : Addr} {v : Value} (X : K.In s.heap) (G : s.heap.Ns mainGlobals mg)
    (Bt : ∃ mb, s.heap.Ns builtinsNs mb ∧ ∀ x : Str, x ≠ "__name__" → mb x = bootBuiltins x) (hlim : s.heap.NoLimit)
    (hx : s.heap.get? a = some (excO C t0)) (hnk : K.lookup a = none) (hroom : A.depth < recursionLimit)
    (hq : ∀ h' tk dx t1, InitEnd s.heap h' a C dx t1 f v → R (.ok (.ret .none)) { s with heap := h', toks := tk }) :
    codeAny (model prog w) A (.call (.ref fI) ⟨[.ref a, v], []⟩) R s := by
  obtain ⟨qual, msg, oc, od, doc, pm, an, cda, ct, cc, osl, p1, p2, q1, q2, q3, q4, q5, q6, q7, q8, q9, q10, ho, hcd, hline, hbind, ⟨ccl, cdd, vs, ccs, file, tf, hcode, hvs, hfile⟩, ⟨cl, cld, csl, hcell⟩⟩ := T.fn
  obtain ⟨nm, q, N, bs, sn, sub, ab, col, dd, k0, k1, k2, k3, k5, hC⟩ := T.cls
  obtain ⟨cd, hcl, hmro, hhd⟩ := cls_in T
  have nself : (eS f).names.lookup ("self" : Str) = some .local := rfl
  have nf : (eS f).names.lookup f = some .local := by
    show List.lookup f [(PySem.Str.ofString "self", NameKind.local), (f, .local), (PySem.Str.ofString "__class__", .free), (PySem.Str.ofString "super", .globalImplicit)] = _
    rw [List.lookup_cons, T.fok.self, List.lookup_cons, beq_self_eq_true]
  have nc : (eS f).names.lookup ("__class__" : Str) = some .free := by
    show List.lookup ("__class__" : Str) [(PySem.Str.ofString "self", NameKind.local), (f, .local), (PySem.Str.ofString "__class__", .free), (PySem.Str.ofString "super", .globalImplicit)] = _
    rw [List.lookup_cons, show (("__class__" : Str) == PySem.Str.ofString "self") = false from by decide, List.lookup_cons, T.fok.cls]
    rfl
  have ns : (eS f).names.lookup ("super" : Str) = some .globalImplicit := by
    show List.lookup ("super" : Str) [(PySem.Str.ofString "self", NameKind.local), (f, .local), (PySem.Str.ofString "__class__", .free), (PySem.Str.ofString "super", .globalImplicit)] = _
    rw [List.lookup_cons, show (("super" : Str) == PySem.Str.ofString "self") = false from by decide, List.lookup_cons, T.fok.sup]
    rfl
  obtain ⟨hp, gs, dr, tk, os⟩ := s
  refine ks_codeAny_call_defAt (fd := ksFn "__init__" qual (eA f p1 p2) (eB f msg q1 q2 q3 q4 q5 q6 q7 q8 q9 q10) (eS f) .none .none doc pm an (.ref cda) ct cc)
    (body := eB f msg q1 q2 q3 q4 q5 q6 q7 q8 q9 q10) (binds := [("self", .ref a), (f, v)]) hroom (X _ _ ho) rfl hlim (codeRec_of X hcd) rfl (hbind _ _ _) ?_ ?_ (fun h₁ hns hk₁ => ?_) rfl rfl rfl
  · intro y hy
    have hy' : y ∈ [(PySem.Str.ofString "self", NameKind.local), (f, .local), (PySem.Str.ofString "__class__", .free), (PySem.Str.ofString "super", .globalImplicit)] := hy
    simp only [List.mem_cons, List.not_mem_nil, or_false] at hy'
    rcases hy' with rfl | rfl | rfl | rfl <;> simp
  · intro y hy
    simp only [List.mem_cons, List.not_mem_nil, or_false] at hy
    rcases hy with rfl | rfl
    · exact nself
    · exact nf
  · have hx₁ := hk₁ _ _ hx
    have X₁ : K.In h₁ := X.keeps hk₁
    obtain ⟨mb, hB, hbb⟩ := Bt
    have hD1 : h₁.get? C = _ := hk₁ _ _ (X _ _ hC)
    have hxC : a ≠ C := fun z => by
      rw [z, hC] at hnk
      cases hnk
    have hin : ∀ h' : Heap, (∀ b o, h₁.get? b = some o → h'.get? b = some o) → Looks (model prog w) h' (isInstance (.ref a) (.type "Exception")) true := fun h' k =>
      (show InstAt h' a (excO C t0) C none from ⟨k _ _ hx₁, rfl, rfl, trivial⟩).type.andThen (looks_subIn (X₁.keeps k) T.exE)
    refine ks_wpAt_execs_cons (ks_wpAt_Expr_any ?_ rfl rfl)
    generalize hE : callEnv (ksFn "__init__" qual (eA f p1 p2) (eB f msg q1 q2 q3 q4 q5 q6 q7 q8 q9 q10) (eS f) .none .none doc pm an (.ref cda) ct cc) (⟨hp, gs, dr, tk, os⟩ : Shared).heap.objs.size fI = env
    have ek : env.scope.kind = .function := by rw [← hE]; rfl
    have es : env.kindOf "super" = some .globalImplicit := by rw [← hE]; exact ns
    have ec : env.kindOf "__class__" = some .free := by rw [← hE]; exact nc
    have e0 : env.kindOf "self" = some .local := by rw [← hE]; exact nself
    have ef : env.kindOf f = some .local := by rw [← hE]; exact nf
    have efu : env.func = some fI := by rw [← hE]; rfl
    have eco : env.code = .ref cda := by rw [← hE]; rfl
    have eg : env.globals = mainGlobals := by rw [← hE]; rfl
    have eb : env.builtins = builtinsNs := by rw [← hE]; rfl
    have el : env.locals = hp.objs.size := by rw [← hE]; rfl
    have ecl : env.cells.lookup ("__class__" : Str) = some cc := by rw [← hE]; rfl
    refine ks_wpAt_MethodCall (pl := (do return (← importBound (.Call (.Name "super" q1) [] [] q2) env).getD true)) ?_ ?he
    case he =>
      rw [arm_eval_Call]
      have hform : methodCallForm ([Expr.Constant (Const.str msg) 0 q4].length + ([] : List Keyword).length) (backTo q5 (starEach [Expr.Constant (Const.str msg) 0 q4] env)) (backToKw q5 (keywordEach [] env)) = true := rfl
      have hpos : methodCallPos true (.Call (.Name "super" q1) [] [] q2) env q3 q5 = pure q5 := by unfold methodCallPos; simp [hline]
      unfold methodCall
      rw [hform]
      simp only [hpos, pure_bind, calleeOf, if_true]
      rfl
    refine ks_wpAt_super_base (f := fI) (cc := cda) es ec (by decide) efu (hk₁ _ _ (X _ _ ho)) rfl rfl eco (hk₁ _ _ (X _ _ hcode)) rfl hvs hfile T.top ?_
    refine ks_loadName_global ek es (loadGlobal_builtin (by rw [eg]; exact G.keeps hk₁) T.su (by rw [eb]; exact hB.keeps hk₁) ((hbb _ (by decide)).trans Boot.«super») ⟨rfl, ?_⟩)
    refine wpAny_loadName_free ek ec ecl ⟨_, hk₁ _ _ (X _ _ hcell), rfl⟩ ?_
    have b0 : List.lookup ("self" : Str) [(("self" : Str), Value.ref a), (f, v)].reverse = some (.ref a) := by
      show List.lookup ("self" : Str) [(f, v), (("self" : Str), Value.ref a)] = _
      rw [List.lookup_cons, show (("self" : Str) == f) = false from by rw [BEq.comm]; exact T.fok.self]
      rfl
    have b1 : List.lookup f [(("self" : Str), Value.ref a), (f, v)].reverse = some v := by
      show List.lookup f [(f, v), (("self" : Str), Value.ref a)] = _
      rw [List.lookup_cons, beq_self_eq_true]
    refine wpAny_loadName_local ek e0 (by rw [el]; exact hns) b0 ?_
    refine ks_wpAny_isType_cls hD1 rfl ⟨rfl, ?_⟩
    refine ks_wpAny_call_super hD1 rfl hx₁ rfl (fun c e => by cases e) (looks_mroIn X₁ T.suC) (fun h₂ e₂ k₂ => ?_)
    have X₂ : K.In h₂ := X₁.keeps k₂
    refine PySem.ESX.getMethod_super e₂ (looks_opaque X₂ T.op) (l₀ := cd.mro) ((looks_clsIn X₂ hcl).andThen .now) (by rw [hmro, PySem.ESX.drop_own]) X₂ T.al hxC (by decide) (hin _ k₂) ?_
    have k₃ : ∀ b o, h₁.get? b = some o → (h₂.push (PySem.ESX.bw a)).get? b = some o := fun b o e => Heap.get?_push_of_some _ (k₂ _ _ e)
    show wpAny _ _ (callWith q5 (.ref h₂.objs.size) [] (backTo q5 (starEach [Expr.Constant (Const.str msg) 0 q4] env)) []) _ _ _
    refine PySem.ESX.callWith_bound (x := a) (spliced_cons (Constant_str (k := 0) (pos := q4) (spliced_nil ⟨Heap.get?_push_at rfl rfl, ?_⟩)))
    refine PySem.ESX.call_bw (k₃ _ _ hD1) (k₃ _ _ hx₁) (Heap.get?_push_at rfl rfl) (one_size _) (fun h₄ t1 k₄ e₄ => ?_)
    have k₅ : ∀ b o, b ≠ a → h₁.get? b = some o → h₄.get? b = some o := fun b o hb e => k₄ b o hb (k₃ b o e)
    have X₄ : K.In h₄ := fun b o e => k₅ b o (fun z => by rw [z, hnk] at e; cases e) (X₁ b o e)
    have hxL : hp.objs.size ≠ a := Nat.ne_of_gt (Heap.lt_size hx)
    have hns₄ : h₄.Ns hp.objs.size (fun y => List.lookup y [(("self" : Str), Value.ref a), (f, v)].reverse) := by
      obtain ⟨oL, es', ep, z1, z2, z3⟩ := hns
      exact ⟨oL, es', ep, k₅ _ _ hxL z1, z2, z3⟩
    refine wpAt_of_wpAny ?_
    show wpAny _ _ (execs [.Assign [.Attribute (.Name "self" q7) f q8] (.Name f q9) q10] env) _ _ _
    refine wpAny_execs_cons (plainObj_wpAny_Assign_Attribute ?_)
    refine wpAny_Name (wpAny_loadName_local ek ef (by rw [el]; exact hns₄) b1 ?_) T.fok.dbg
    refine wpAny_Name (wpAny_loadName_local ek e0 (by rw [el]; exact hns₄) b0 ?_) (by decide)
    refine set_plain X₄ (ox := excO C t1) (od := none) ⟨e₄, rfl, rfl, trivial⟩ T.sa ?_
    refine keeps_first X₄ e₄ T.ov T.hdC T.noF (fun h₆ tk₆ dx k₆ dn dne hx₆ hn₆ => ?_)
    show wpAny _ _ (execs [] env) _ _ _
    have z : hp.objs.size ≤ h₄.objs.size := by
      obtain ⟨oL, es', ep, z1, z2, z3⟩ := hns₄
      exact Nat.le_of_lt (Heap.lt_size z1)
    exact wpAny_execs_nil (hq h₆ _ dx t1 ⟨fun b o hb e => k₆ b o hb (k₅ b o hb (hk₁ b o e)), hx₆, Nat.le_trans z dn, dne, hn₆⟩)
theorem made (T : Txt prog K mg B0 C fI x f) {s : Shared} {v : Value} (X : K.In s.heap) (G : s.heap.Ns mainGlobals mg)
    (Bt : ∃ mb, s.heap.Ns builtinsNs mb ∧ ∀ x : Str, x ≠ "__name__" → mb x = bootBuiltins x) (hlim : s.heap.NoLimit) (hroom : A.depth + 1 < recursionLimit)
    (hq : ∀ h' tk e d, OwnMade s.heap h' e C d f v → R (.ok (.ret (.ref e))) { s with heap := h', toks := tk }) :
    codeAny (model prog w) A (.call (.ref C) ⟨[v], []⟩) R s := by
  obtain ⟨nm, q, N, bs, sn, sub, ab, col, dd, k0, k1, k2, k3, k5, hC⟩ := T.cls
  obtain ⟨mb, hB, hbb⟩ := Bt
  obtain ⟨hp, g, dr, tk, os⟩ := s
  have k : ∀ b o, hp.get? b = some o → ((hp.push (kdv_tup [v])).push (excO C hp.objs.size)).get? b = some o := fun b o e => Heap.get?_push_of_some _ (Heap.get?_push_of_some _ e)
  have hget : ((hp.push (kdv_tup [v])).push (excO C hp.objs.size)).get? (hp.objs.size + 1) = some (excO C hp.objs.size) := by heap_get
  have hnx : K.lookup (hp.objs.size + 1) = none := by
    cases e : K.lookup (hp.objs.size + 1) with
    | none => rfl
    | some o =>
      have z : hp.get? (hp.objs.size + 1) = some o := X _ _ e
      exact absurd (Nat.lt_of_succ_lt (Heap.lt_size z)) (Nat.lt_irrefl _)
  refine call_own F.excBase_Exception (fun Y => above_contains B0 Y) (X _ _ hC) (looks_findIn X T.iC) (fun self => bind_fn X self T.tC) (one_size v) ?_
  refine init (s := ⟨(hp.push (kdv_tup [v])).push (excO C hp.objs.size), g, dr, tk, os⟩) T (X.keeps k) (G.keeps k) ⟨mb, hB.keeps k, hbb⟩ (hlim.keeps k) hget hnx ?_ fun h' tk' dx t1 ⟨k', hx, dn, dne, hns⟩ => ?_
  · show A.depth + 1 < recursionLimit
    exact hroom
  · have old : ∀ b o, hp.get? b = some o → h'.get? b = some o := fun b o e => k' b o (Nat.ne_of_lt (Nat.lt_succ_of_lt (Heap.lt_size e))) (k b o e)
    have z : hp.objs.size + 1 + 1 ≤ dx := by
      first
        | (simpa only [Heap.size_push] using dn)
        | exact dn
        | (have q := dn; rw [Heap.size_push, Heap.size_push] at q; exact q)
    exact ⟨rfl, hq h' tk' (hp.objs.size + 1) dx ⟨old, Nat.le_succ _, ⟨_, _, hx, rfl, rfl, rfl, rfl⟩, Nat.le_trans (Nat.le_trans (Nat.le_succ _) (Nat.le_succ _)) z, dne, hns⟩⟩
end
theorem meets_self {K : PySem.W.Frag} {S : Addr} (h1 : PySem.W.subIn K (.ref S) (.type "BaseException") = some true) (h2 : PySem.W.isClsIn K S = true)
    (h3 : PySem.W.typeIn K (.ref S) = some (.type "type")) (h4 : PySem.W.subIn K (.ref S) (.ref S) = some true) : PySem.W.exmOne K (.ref S) (.ref S) = some true := by
  have e1 : (PySem.W.subIn K (.ref S) (.type "BaseException") == some true) = true := by rw [h1] <;> rfl
  have e2 : ((PySem.W.clsIn K S).isSome && PySem.W.typeIn K (.ref S) == some (.type "type")) = true := by
    have h2' : (PySem.W.clsIn K S).isSome = true := h2
    rw [h2', h3] <;> rfl
  show (if (PySem.W.subIn K (.ref S) (.type "BaseException") == some true) = true then (if ((PySem.W.clsIn K S).isSome && PySem.W.typeIn K (.ref S) == some (.type "type")) = true then PySem.W.subIn K (.ref S) (.ref S) else none) else none) = some true
  rw [if_pos e1, if_pos e2]
  exact h4
theorem of {P : Program} {K : Frag} {h : Heap} {mg : Str → Option Value} {B0 C fI : Addr} {x f : Str} (X : K.In h) (G : h.Ns mainGlobals mg)
    {nm q : Str} {N : Addr} {bs : List Value} {sn : List Str} {sub : List Value} {ab : Bool} {col : Option Bool} {dd : Option Addr} {m0 m1 m2 m3 m5 : Option Value}
    {nm' q' : Str} {N' : Addr} {bs' : List Value} {sn' : List Str} {sub' : List Value} {ab' : Bool} {col' : Option Bool} {dd' : Option Addr} {n0 n1 n2 n3 n5 : Option Value}
    {qual msg : Str} {oc : Value} {od : Option Addr} {doc pm : Value} {an : Option Addr} {cda : Addr} {ct : Value} {cc : Addr} {osl : Array (Option Value)}
    {p1 p2 q1 q2 q3 q4 q5 q6 q7 q8 q9 q10 : Pos} {ccl : Value} {cdd : Option Addr} {vs : Array Value} {ccs : Array (Option Value)} {file : Str} {tf : Tok} {cl : Value} {cld : Option Addr} {csl : Array (Option Value)}
    (aC : nsIn K mainGlobals x = some (some (.ref C)))
    (lB : K.lookup B0 = some (excClassObj nm' q' B0 N' bs' PySem.ESX.exTail true sn' sub' ab' col' dd' n0 n1 n2 n3 n5 "Exception.__new__"))
    (fB : findIn K (.ref B0) "__init__" = some (some (.builtin "Exception.__init__")))
    (lC : K.lookup C = some (excClassObj nm q C N bs (above B0) true sn sub ab col dd m0 m1 m2 m3 m5 "Exception.__new__"))
    (sa : findIn K (.ref C) "__setattr__" = some (some (.builtin "object.__setattr__")))
    (ga : findIn K (.ref C) "__getattribute__" = some (some (.builtin "BaseException.__getattribute__")))
    (gg : findIn K (.ref C) "__getattr__" = some none) (noF : findIn K (.ref C) f = some none)
    (iC : findIn K (.ref C) "__init__" = some (some (.ref fI))) (tC : typeIn K (.ref fI) = some (.type "function"))
    (kC : keepIn K (.ref C) = true) (exC : subIn K (.ref C) (.type "BaseException") = some true) (exE : subIn K (.ref C) (.type "Exception") = some true)
    (suC : mroIn K C (.ref C) = some true) (ssC : subIn K (.ref C) (.ref C) = some true) (isC : isClsIn K C = true)
    (tyC : typeIn K (.ref C) = some (.type "type")) (hdC : hasDictIn K C = true)
    (op : nsIn K cStatics "thirdparty.any" = some none) (su : nsIn K mainGlobals "super" = some none)
    (lI : K.lookup fI = some ⟨oc, od, .func (ksFn "__init__" qual (eA f p1 p2) (eB f msg q1 q2 q3 q4 q5 q6 q7 q8 q9 q10) (eS f) .none .none doc pm an (.ref cda) ct cc), osl⟩)
    (cI : codeIn K (.ref cda) qual = true) (lc : K.lookup cda = some ⟨ccl, cdd, .fields vs, ccs⟩) (lcc : K.lookup cc = some ⟨cl, cld, .cell (some (.ref C)), csl⟩)
    (top : (P.main.scope.names.lookup ("super" : Str)).isSome = false) (line : (q3.endLine == q5.line) = true) (fl : vs[2]? = some (.str file tf)) (fi : ((P.main.file : Str) == file) = true)
    (fok : NameOk f)
    (bi : ∀ (s : Shared) (a b : Value), BindsTo s (ksFn "__init__" qual (eA f p1 p2) (eB f msg q1 q2 q3 q4 q5 q6 q7 q8 q9 q10) (eS f) .none .none doc pm an (.ref cda) ct cc) ⟨[a, b], []⟩ [("self", a), (f, b)]) :
    Txt P K mg B0 C fI x f where
  gC := mg_of X G aC
  cls := ⟨_, _, _, _, _, _, _, _, _, _, _, _, _, _, lC⟩
  sa := sa
  al := by
    have e := fB
    unfold findIn at e
    dsimp only at e
    rw [lB] at e
    exact e
  ga := ga
  gg := gg
  noF := noF
  ov := by
    unfold excOver clsIn
    rw [lC]
    show ((C == C) && (PySem.ESX.exTail == PySem.ESX.exTail)) = true
    rw [beq_self_eq_true, beq_self_eq_true]
    rfl
  iC := iC
  tC := tC
  kC := kC
  exC := exC
  exE := exE
  suC := suC
  tyC := tyC
  hdC := hdC
  te := meets_self exC isC tyC ssC
  op := op
  su := mg_none_of X G su
  top := top
  fok := fok
  fn := ⟨_, _, _, _, _, _, _, _, _, _, _, _, _, _, _, _, _, _, _, _, _, _, _, lI, cI, line, bi, ⟨_, _, _, _, _, _, lc, fl, fi⟩, ⟨_, _, _, lcc⟩⟩
end Er
open PySem PySem.Spec PyProof.Rows L2
theorem relO_one {f : Str} {v : V} {v' : Value} (r : RelV v v') (y : Str) : RelO (List.lookup y [(f, v)]) (if y = f then some v' else none) := by
  by_cases hw : y = f
  · subst hw
    rw [if_pos rfl]
    have q : List.lookup y [(y, v)] = some v := by simp [List.lookup]
    rw [q]
    exact r
  · rw [if_neg hw]
    have qw : (y == f) = false := by simpa using hw
    have q2 : List.lookup y [(f, v)] = none := by simp [List.lookup, qw]
    rw [q2]
    trivial
section
variable {X : Cx} {B0 C fI : Addr} {x f : Str}
def tMkErr (C : Addr) (f : Str) (ta : TA) : L2.St → Hp → XK → Prop := fun σ H Q => ta σ H fun vs H1 => ∃ v, vs = [v] ∧ ∀ d, H1 d = none → Q (.ref C) (some d) (upd H1 d (.xd [(f, v)]))
theorem pmk_err {a : Expr} {ta : TA} {p pos : Pos} {k : Nat} (T : Er.Txt X.prog X.K X.mg B0 C fI x f) (hr : Room k X.A) (ha : PA X [a] ta) (hg : Gl X x) (hdb : (x == ("__debug__" : Str)) = false := by decide)
    (he : starEach (a :: []) X.env = (false, eval a X.env) :: starEach [] X.env := by rfl) (hpl : (backTo pos (starEach [] X.env)).any (·.1) = false := by rfl) :
    PMk X (.Call (.Name x p) [a] [] pos) (tMkErr C f ta) := by
  intro pins s σ H Q I h
  refine wpAny_Call_Name_kw (ld_glob I hg T.gC ?_ hdb)
  refine PySem.W.callWith_K (h₀ := X.base) I.ok.mod.kin T.kC (thn (ha.run pos pins s σ H _ I h) fun us s1 hh => ?_) he hpl
  obtain ⟨vs, H1, I1, r1, v, ev, q1⟩ := hh
  subst ev
  refine ⟨I1.kIn, ?_⟩
  cases r1 with
  | cons rv rn =>
    rename_i v' us'
    cases rn
    show wpAny _ _ (call (.ref C) [v']) _ _ _
    have hlim := I1.nolimit
    have hG := I1.mod.glob.keeps I1.bk
    have hBt : ∃ mb, s1.heap.Ns builtinsNs mb ∧ ∀ x : Str, x ≠ "__name__" → mb x = bootBuiltins x := by
      obtain ⟨mb, z1, z2⟩ := I1.mod.blt
      exact ⟨mb, z1.keeps I1.bk, z2⟩
    obtain ⟨hp, g, dr, tk, os⟩ := s1
    refine wpAny_call (Er.made T I1.kIn hG hBt hlim (by have := hr.dp; omega) fun h' tk' e d M => ?_)
    show MkP X pins σ Q (.ref e) ⟨h', g, dr, tk', os⟩
    obtain ⟨oe, fv, hoe, hc, hd, hdat, h1⟩ := M.obj
    have hns := M.ns
    obtain ⟨G', g1, g2⟩ := restrict h' fun b => decide (b ≠ e)
    have gk : ∀ b, b ≠ e → G'.get? b = h'.get? b := fun b hb => g1 b (decide_eq_true hb)
    have ge : G'.get? e = none := g2 e (by simp)
    have old : ∀ b o, hp.get? b = some o → G'.get? b = some o := fun b o q => (gk b (Nat.ne_of_lt (Nat.lt_of_lt_of_le (Heap.lt_size q) M.new))).trans (M.keep b o q)
    have ob : ObjOk X.prog X.w (upd H1 d (.xd [(f, v)])) G' d (.xd [(f, v)]) :=
      ⟨_, hns.at (fun o q => (gk d M.dne).trans q), fun y => relO_one rv y⟩
    have J : Inv X pins σ (upd H1 d (.xd [(f, v)])) ⟨G', g, dr, tk', os⟩ := I1.laid (t' := tk') old M.dbig ob
    refine ⟨e, oe, fv, ⟨G', g, dr, tk', os⟩, _, .ref C, some d, rfl, J, fun b o q => ?_, ge, hoe, ⟨hc, hd⟩, hdat, h1, ?_, rfl, I1.bare, raises_own T.exC T.tyC, q1 d (I1.hok.fresh M.dbig)⟩
    · by_cases hb : b = e
      · have q' : G'.get? b = some o := q
        rw [hb, ge] at q'; cases q'
      · exact (gk b hb).symm.trans q
    · rw [upd_ne (Ne.symm M.dne)]
      exact I1.hok.fresh M.new
def tRaiseErr (C : Addr) (f : Str) (W : WX) (ta : TA) : TS := fun _ σ H => tMkErr C f ta σ H fun cls d H' => W cls d σ H'
theorem ps_raiseErr {a : Expr} {ta : TA} {W : WX} {p pos pos2 : Pos} {k : Nat} (hc : X.calm = true) (T : Er.Txt X.prog X.K X.mg B0 C fI x f) (hr : Room k X.A) (tk : Takes X W) (ha : PA X [a] ta) (hg : Gl X x) (hdb : (x == ("__debug__" : Str)) = false := by decide)
    (he : starEach (a :: []) X.env = (false, eval a X.env) :: starEach [] X.env := by rfl) (hpl : (backTo pos (starEach [] X.env)).any (·.1) = false := by rfl) :
    PS X (.Raise (some (.Call (.Name x p) [a] [] pos)) none pos2) (tRaiseErr C f W ta) := ps_raise hc tk (pmk_err T hr ha hg hdb he hpl)
section
variable {CX : CXT} {k : Nat} {g : Addr} {fd : FuncData} {ps ks : List Str} {sp : Sp} {E : L2.St → XK} {nm : Str} {p pos : Pos} {kws : List Keyword} {tk : TA}
variable {gu : List Value → List Value → List Value} {gV : List V → List V → List V}
def tCallK0S (sp : Sp) (gV : List V → List V → List V) (E : L2.St → XK) (tk : TA) : TE := fun σ H Q => tk σ H fun zs H1 => sp (gV [] zs) H1 Q (E σ)
theorem pe_callK0S (F : FnOk X.prog X.w X.K X.mg X.base CX k g fd ps sp) (hr : Room k X.A) (hg : Gl X nm) (hm : X.mg nm = some (.ref g))
    (hk : PySem.W.keepIn X.K (.ref g) = true) (hb : KBinds X.K fd ps ks gu gV) (hx : ∀ σ, PassesAt CX X σ (E σ)) (hkw : PK X kws tk)
    (hall : (backToKw pos (keywordEach kws X.env)).all (·.1.isSome) = true := by rfl)
    (hks : (backToKw pos (keywordEach kws X.env)).filterMap (·.1) = ks := by rfl)
    (hdb : (nm == ("__debug__" : Str)) = false := by decide)
    (hpl : ((backTo pos (starEach [] X.env)).any (·.1) || (backToKw pos (keywordEach kws X.env)).any (·.1.isNone)) = false := by rfl) :
    PE X (.Call (.Name nm p) [] kws pos) (tCallK0S sp gV E tk) := by
  refine ⟨fun pins s σ H Q I h => ?_⟩
  refine wpAny_Call_Name_kw (ld_glob I hg hm ?_ hdb)
  refine PySem.W.callWith_KW0 (h₀ := X.base) I.ok.mod.kin hk hall (thn (hkw.run pos pins s σ H _ I h) fun ws s1 ⟨zs, H1, I1, rz, q1⟩ => ⟨I1.kIn, ?_⟩) hpl
  rw [hks]
  have r2 := hb.rel (vs := []) (us := []) .nil rz
  have hl : (gu [] ws).length = ps.length := by rw [← r2.length]; exact F.len _ _ _ _ q1
  refine wpAny_call (codeAny_mono (F.run X.A X.stack s1 H1 ⟨[], ks.zip ws⟩ (gu [] ws) (gV [] zs) Q (E σ) hr I1.env0 (hb.to s1 [] ws I1.kIn hl) r2 q1) fun r s' hq => ?_)
  cases r with
  | error e => exact hx σ pins H1 s1 e s' I1 hq
  | ok fl =>
    cases fl with
    | ret u => exact I1.after hq
    | next | brk | cont => exact False.elim hq
end
theorem Er.Txt.xf {P : Program} {K : PySem.W.Frag} {mg : Str → Option Value} (T : Er.Txt P K mg B0 C fI x f) : XfC K C := ⟨T.ga, T.gg, T.exC, T.hdC⟩
end
end MB
end
section
set_option maxRecDepth 100000
namespace MB
open PySem PySem.Spec PyProof.Rows L2
structure Clause where
  cls : Value
  slot : Option Nat
  ts : Addr → Value → Option Addr → TS
def offAt (i : Nat) (D : Ends) : Ends :=
  { nx := fun σ H => D.nx (σ.set i none) H, rt := D.rt, bk := fun σ H => D.bk (σ.set i none) H, ct := fun σ H => D.ct (σ.set i none) H }
def Clause.goes (c : Clause) (D : Ends) (a : Addr) (cls : Value) (d : Option Addr) (σ : L2.St) (H : Hp) : Prop :=
  match c.slot with
  | none => c.ts a cls d D σ H
  | some i => c.ts a cls d (offAt i D) (σ.set i (some (.ref a))) H
def wMix (K : PySem.W.Frag) (Wout : WX) (D : Ends) : List Clause → WX
  | [] => Wout
  | c :: r => fun cls d σ H => ∃ hit, PySem.W.exmOne K cls c.cls = some hit ∧
      (hit = true → ∀ a, H a = none → c.goes D a cls d σ H) ∧ (hit = false → wMix K Wout D r cls d σ H)
inductive Clauses (X : Cx) : List ExceptHandler → List Clause → Prop
  | nil : Clauses X [] []
  | bare {x : Str} {c : Value} {ts : Addr → Value → Option Addr → TS} {b₀ : Stmt} {suite : List Stmt} {np hp : Pos} {hds : List ExceptHandler} {l : List Clause}
      (nm : Names X x c) (su : ∀ (a : Addr) (oe : Obj) (cls : Value) (d : Option Addr) (pn : List (Addr × Obj)), Zc cls d oe → (∃ vs, oe.data = .fields vs) →
        PSs (X.suite a ((a, oe) :: pn)) (b₀ :: suite) (ts a cls d)) (more : Clauses X hds l) :
      Clauses X (.ExceptHandler (some (.Name x np)) none (b₀ :: suite) hp :: hds) (⟨c, none, ts⟩ :: l)
  | named {x n : Str} {c : Value} {i : Nat} {ts : Addr → Value → Option Addr → TS} {b₀ : Stmt} {suite : List Stmt} {np hp : Pos} {hds : List ExceptHandler} {l : List Clause}
      (nm : Names X x c) (at_ : X.N[i]? = some n) (loc : X.env.kindOf n = some .local)
      (su : ∀ (a : Addr) (oe : Obj) (cls : Value) (d : Option Addr) (pn : List (Addr × Obj)), Zc cls d oe → (∃ vs, oe.data = .fields vs) →
        PSs (X.suite a ((a, oe) :: pn)) (b₀ :: suite) (ts a cls d)) (more : Clauses X hds l) :
      Clauses X (.ExceptHandler (some (.Name x np)) (some n) (b₀ :: suite) hp :: hds) (⟨c, some i, ts⟩ :: l)
structure Met (X : Cx) (pins : List (Addr × Obj)) (σ : L2.St) (H : Hp) (B : Heap) (a : Addr) (cls : Value) (d : Option Addr) (sI : Shared) (s : Shared) : Prop where
  inv : Inv X pins σ H sI
  gr : ∀ b o, sI.heap.get? b = some o → b ∉ frs X.stack → B.get? b = some o
  fly : HandSPX.FlyingZ B (X.env :: X.outer) a (Zc cls d) s.heap
  up : sI.heap.UpToSlots s.heap
  un : H a = none
  os : s.os = sI.os
  ba : AllBare s.gens
section
variable {X : Cx} {pins : List (Addr × Obj)} {σ : L2.St} {H : Hp} {B : Heap} {a : Addr} {cls : Value} {d : Option Addr} {sI s : Shared}
theorem Met.here (m : Met X pins σ H B a cls d sI s) : Inv X pins σ H s := m.inv.landed m.gr m.fly.1 m.up m.os m.ba
theorem Met.inSuite (m : Met X pins σ H B a cls d sI s) (hf : X.env.frame = some X.env.locals) :
    ∃ oe vs, s.heap.get? a = some oe ∧ Zc cls d oe ∧ oe.data = .fields vs ∧ Inv (X.suite a ((a, oe) :: (X.pn ++ pins))) [] σ H s := by
  obtain ⟨oe, vs, e, z, dt⟩ := m.fly.there
  have out : a ∉ frs (X.env :: X.outer) := fun hm => by
    obtain ⟨_, o', e', no⟩ := m.fly.2.2.1.mem hm
    rw [e] at e'
    cases e'
    exact no _ dt
  refine ⟨oe, vs, e, z, dt, m.here.suite e dt m.un (fun q => out ?_) fun hm => out ?_⟩
  · exact List.mem_filterMap.mpr ⟨X.env, List.mem_cons_self, by rw [hf, q]⟩
  · obtain ⟨v, hv, q⟩ := List.mem_filterMap.mp hm
    exact List.mem_filterMap.mpr ⟨v, List.mem_cons_of_mem _ hv, q⟩
theorem Met.on {Wout : WX} {D : Ends} (m : Met X pins σ H B a cls d sI s) (hs : X.stack = X.env :: X.outer) (hf : X.env.frame = some X.env.locals) (tk : Takes X Wout) (w : Wout cls d σ H) :
    wpAny (model X.prog X.w) X.A (handleBy (.ref a) X.env []) (SP X pins D) X.xe s := by
  have fl := m.fly
  obtain ⟨_, _, _, oe, vs, T, _, _, e, _, dt, one, _⟩ := id fl
  refine wpAny_handleBy_nil ?_
  unfold PySem.passOn
  refine wpAny_bind (wpAny_field e dt one ?_)
  rw [if_neg (show ¬ ((Value.ref T == Value.none) = true) from by simp)]
  have away : wpAny (model X.prog X.w) X.A (setFlight (.ref a) X.env.frame) (fun _ s4 => wpAny (model X.prog X.w) X.A (throw (.ref a) : Sem Flow) (SP X pins D) X.xe s4) X.xe s := by
    rw [hf]
    refine HandSPX.setFlight_upZ fl fun h4 held up4 => wpAny_throw (tk _ _ ?_)
    exact ⟨a, B, sI, pins, σ, H, cls, d, rfl, m.inv, m.gr, m.up.trans up4, .inr (.inr (by rw [hs]; exact held)), m.un, m.os, m.ba, w⟩
  first
    | exact wpAny_bind (wpAny_pure (wpAny_bind away))
    | exact wpAny_bind away
theorem Met.clauses {Wout : WX} {D : Ends} (hs : X.stack = X.env :: X.outer) (hf : X.env.frame = some X.env.locals) (nd : X.N.Nodup) (tk : Takes X Wout)
    {hds : List ExceptHandler} {l : List Clause} (hc : Clauses X hds l) (m : Met X pins σ H B a cls d sI s) (w : wMix X.K Wout D l cls d σ H) :
    wpAny (model X.prog X.w) X.A (handleBy (.ref a) X.env hds) (SP X pins D) X.xe s := by
  have ok := m.inv.ok
  obtain ⟨oe, vs, e, z, dt, S⟩ := m.inSuite hf
  have typ : PySem.W.Looks (model X.prog X.w) s.heap (typeOf (.ref a)) cls := fun A Q E s' k q => wpAny_typeOf_ref (k _ _ e) (by rw [z.1]; exact q)
  have reads : ∀ {x : Str} {c : Value} {np : Pos} {Q : Value → Shared → Prop} {E : Value → Shared → Prop}, Names X x c → Q c s →
      wpAny (model X.prog X.w) (X.A.mark (some (.ref a))) (eval (.Name x np) X.env) Q E s := fun {x c np Q E} nm q => by
    obtain ⟨g, db, h | ⟨h, bv, nn⟩⟩ := nm
    · exact ld_glob (X := X.suite a ((a, oe) :: (X.pn ++ pins))) S g h q db
    · exact ld_blt (X := X.suite a ((a, oe) :: (X.pn ++ pins))) S g h bv q nn db
  induction hc with
  | nil => exact m.on hs hf tk w
  | @bare x c ts b₀ suite np hp hds2 l2 nm su more ih =>
    obtain ⟨hit, he, yes, no⟩ := w
    refine wpAny_handleBy_cons (codeAny_handlers_test ?_) (by intro q; cases q)
    refine reads nm ((PySem.W.exm_one (M := model X.prog X.w) m.here.kIn typ he).here ?_)
    cases hit with
    | false => exact ih (no rfl)
    | true =>
      refine codeAny_handlers_suite ?_
      refine HandSPX.lands_againZ m.fly fun h4 fl4 up4 => ?_
      have m4 : Met X pins σ H B a cls d sI { s with heap := h4 } := ⟨m.inv, m.gr, fl4, m.up.trans up4, m.un, m.os, m.ba⟩
      obtain ⟨oe4, vs4, e4, z4, dt4, S4⟩ := m4.inSuite hf
      refine wpAny_mono ((su a oe4 cls d (X.pn ++ pins) z4 ⟨_, dt4⟩).run [] _ _ H _ S4 (yes rfl a m.un)) (fun f s6 r => ?_) (fun _ _ z => False.elim z)
      cases f with
      | ret u =>
        obtain ⟨v6, σ6, H6, S6, r6, q6⟩ := r
        exact ⟨v6, σ6, H6, S6.unsuite ok, r6, q6⟩
      | next | brk | cont =>
        obtain ⟨σ6, H6, S6, q6⟩ := r
        exact ⟨σ6, H6, S6.unsuite ok, q6⟩
  | @named x n c i ts b₀ suite np hp hds2 l2 nm at_ loc su more ih =>
    obtain ⟨hit, he, yes, no⟩ := w
    refine wpAny_handleBy_cons (codeAny_handlers_test ?_) (by intro q; cases q)
    refine reads nm ((PySem.W.exm_one (M := model X.prog X.w) m.here.kIn typ he).here ?_)
    cases hit with
    | false => exact ih (no rfl)
    | true =>
      refine codeAny_handlers_suite_as ?_
      refine HandSPX.lands_againZ m.fly fun h4 fl4 up4 => ?_
      have m4 : Met X pins σ H B a cls d sI { s with heap := h4 } := ⟨m.inv, m.gr, fl4, m.up.trans up4, m.un, m.os, m.ba⟩
      obtain ⟨oe4, vs4, e4, z4, dt4, S4⟩ := m4.inSuite hf
      refine store_ok (X := X.suite a ((a, oe4) :: (X.pn ++ pins))) (v := .ref a) S4 nd at_ (.inl loc) rfl (fun s5 S5 => ?_) (.inr loc)
      refine wpAny_mono ((su a oe4 cls d (X.pn ++ pins) z4 ⟨_, dt4⟩).run [] s5 _ H _ S5 (yes rfl a m.un)) (fun f s6 r => ?_) (fun _ _ z => False.elim z)
      cases f with
      | ret u =>
        obtain ⟨v6, σ6, H6, S6, r6, q6⟩ := r
        exact gone_ok (S6.unsuite ok) nd at_ loc fun s7 J7 => ⟨v6, _, H6, J7, r6, q6⟩
      | next | brk | cont =>
        obtain ⟨σ6, H6, S6, q6⟩ := r
        exact gone_ok (S6.unsuite ok) nd at_ loc fun s7 J7 => ⟨_, H6, J7, q6⟩
end
section
variable {X : Cx} {body : List Stmt} {h₀ : ExceptHandler} {hds : List ExceptHandler} {l : List Clause} {pos : Pos} {tb : WX → TS} {Wout : WX}
theorem ps_tryMix (hs : X.stack = X.env :: X.outer) (hf : X.env.frame = some X.env.locals) (nd : X.N.Nodup) (tk : Takes X Wout)
    (hb : ∀ (W : WX) (pn : List (Addr × Obj)) (xe : Value → Shared → Prop), Takes (X.tr pn xe) W → PassesOwn (model X.prog X.w) X.A X.env xe → PSs (X.tr pn xe) body (tb W))
    (hc : Clauses X (h₀ :: hds) l) : PS X (.Try body (h₀ :: hds) [] [] pos) (fun D σ H => tb (wMix X.K Wout D l) D σ H) := by
  refine ⟨fun pins s σ H D I q => ?_⟩
  have ok := I.ok
  have hfr : X.A.frames = some (X.env :: X.outer) := by rw [ok.frames, hs]
  let out : Value → Shared → Prop := fun e s₁ => wpAny (model X.prog X.w) X.A (noteFrame e X.env) (fun _ s₂ => wpAny (model X.prog X.w) X.A (setFlight e none)
    (fun _ s₃ => wpAny (model X.prog X.w) X.A (handleBy e X.env (h₀ :: hds)) (SP X pins D) X.xe s₃) X.xe s₂) X.xe s₁
  have run := (hb (wMix X.K Wout D l) (X.pn ++ pins) out (fun u s' xx => by
    obtain ⟨a, B, sI, pins', σ', H', cls, d, rfl, J', gr, up, sky, un, os, ba, w⟩ := xx
    refine Sky.land Zc.steady hfr hf (by rw [← hs]; exact sky) fun h3 fl3 up3 => ?_
    exact Met.clauses hs hf nd tk hc (B := B) (sI := sI) ⟨J'.ofTry ok, gr, fl3, up.trans up3, un, os, ba⟩ w) PassesOwn.looking).run [] s σ H D (I.toTry _) q
  refine wpAny_Try_except (wpAny_mono run (fun f s1 r => ?_) (fun e s1 he => he))
  cases f with
  | next =>
    obtain ⟨σ', H', J', q'⟩ := r
    exact wpAny_execs_nil ⟨σ', H', J'.ofTry ok, q'⟩
  | brk | cont =>
    obtain ⟨σ', H', J', q'⟩ := r
    exact ⟨σ', H', J'.ofTry ok, q'⟩
  | ret u =>
    obtain ⟨v, σ', H', J', rv, q'⟩ := r
    exact ⟨v, σ', H', J'.ofTry ok, rv, q'⟩
end
end MB
end
section
set_option maxRecDepth 100000
namespace MB
open PySem PySem.Spec PyProof.Rows L2
section
variable {K : PySem.W.Frag} {H H' : Hp}
theorem TyX.same {v : V} {t : Value} (h : TyX K H v t) (e : Same H H') : TyX K H' v t := by
  cases h with
  | base b =>
    cases b with
    | non => exact .base .non
    | bl x => exact .base (.bl x)
    | int i => exact .base (.int i)
    | str x => exact .base (.str x)
    | flt x => exact .base (.flt x)
    | lst q => exact .base (.lst (e _ _ q))
    | frz q => exact .base (.frz (e _ _ q))
    | tup q => exact .base (.tup (e _ _ q))
    | dK q => exact .base (.dK (e _ _ q))
    | dT q => exact .base (.dT (e _ _ q))
    | ins q c1 c2 c3 c4 c5 => exact .base (.ins (e _ _ q) c1 c2 c3 c4 c5)
  | byt b => exact .byt b
  | set q => exact .set (e _ _ q)
  | kList q c => exact .kList q c
  | kTuple q c => exact .kTuple q c
  | kDict q c => exact .kDict q c
  | fTuple q => exact .fTuple (e _ _ q)
  | fDict q => exact .fDict (e _ _ q)
def TupQ (K : PySem.W.Frag) (H : Hp) (v : V) : Option (List V) → Prop
  | some xs => ∃ a, v = .ref a ∧ SqT K H a xs
  | none => ∃ t, TyX K H v t ∧ PySem.W.kitOne K t (.type "tuple") = some false
def IntQ (K : PySem.W.Frag) (H : Hp) (v : V) : Option Int → Prop
  | some i => v = .int i
  | none => (∃ b, v = .bl b) ∨ ∃ t, TyX K H v t ∧ PySem.W.kitOne K t (.type "int") = some false
theorem sqT_same {a : Addr} {xs : List V} (e : Same H H') (h : SqT K H a xs) : SqT K H' a xs := by
  rcases h with (q | ⟨o, q⟩) | q
  · exact .inl (.inl (e _ _ q))
  · exact .inl (.inr ⟨o, e _ _ q⟩)
  · exact .inr q
theorem TupQ.same {v : V} {o : Option (List V)} (h : TupQ K H v o) (e : Same H H') : TupQ K H' v o := by
  cases o with
  | some xs =>
    obtain ⟨a, h1, h2⟩ := h
    exact ⟨a, h1, sqT_same e h2⟩
  | none =>
    obtain ⟨t, h1, h2⟩ := h
    exact ⟨t, TyX.same h1 e, h2⟩
theorem IntQ.same {v : V} {o : Option Int} (h : IntQ K H v o) (e : Same H H') : IntQ K H' v o := by
  cases o with
  | some i => exact h
  | none =>
    rcases h with h | ⟨t, h1, h2⟩
    · exact .inl h
    · exact .inr ⟨t, TyX.same h1 e, h2⟩
theorem IntQ.seen {v : V} {o : Option Int} (h : IntQ K H v o) : (∃ i, o = some i ∧ v = .int i) ∨ o = none := by
  cases o with
  | some i => exact .inl ⟨i, rfl, h⟩
  | none => exact .inr rfl
end
end MB
end
section
set_option maxRecDepth 100000
namespace MB
open PySem PySem.Spec PyProof.Rows L2
def keyD : Key → PyData
  | .inl i => .int i
  | .inr x => .str x
mutual
inductive Dq (K : PySem.W.Frag) (H : Hp) : V → PyData → Prop
  | non : Dq K H .non .none
  | bl (b : Bool) : Dq K H (.bl b) (.bool b)
  | int (i : Int) : Dq K H (.int i) (.int i)
  | str (x : Str) : Dq K H (.str x) (.str x)
  | lst {a : Addr} {xs : List V} {ds : List PyData} : SqL K H a xs → DqAll K H xs ds → Dq K H (.ref a) (.list ds)
  | tup {a : Addr} {xs : List V} {ds : List PyData} : SqT K H a xs → DqAll K H xs ds → Dq K H (.ref a) (.tuple ds)
  | dic {a : Addr} {kvs : List (Key × V)} {ds : List (PyData × PyData)} : H a = some (.dK kvs) → DqKv K H kvs ds → Dq K H (.ref a) (.dict ds)
inductive DqAll (K : PySem.W.Frag) (H : Hp) : List V → List PyData → Prop
  | nil : DqAll K H [] []
  | cons {v : V} {vs : List V} {d : PyData} {ds : List PyData} : Dq K H v d → DqAll K H vs ds → DqAll K H (v :: vs) (d :: ds)
inductive DqKv (K : PySem.W.Frag) (H : Hp) : List (Key × V) → List (PyData × PyData) → Prop
  | nil : DqKv K H [] []
  | cons {k : Key} {v : V} {d : PyData} {kvs : List (Key × V)} {ds : List (PyData × PyData)} : Dq K H v d → DqKv K H kvs ds → DqKv K H ((k, v) :: kvs) ((keyD k, d) :: ds)
end
def SM (base : Heap) : Prop := ∃ mm, base.Ns sysModules mm
section
variable {K : PySem.W.Frag} {H H' : Hp}
theorem sqL_same {a : Addr} {xs : List V} (e : Same H H') (h : SqL K H a xs) : SqL K H' a xs := e.seq h
mutual
theorem Dq.same (e : Same H H') : ∀ (d : PyData) (v : V), Dq K H v d → Dq K H' v d
  | .none, _, h => by cases h; exact .non
  | .bool b, _, h => by cases h; exact .bl b
  | .int i, _, h => by cases h; exact .int i
  | .str x, _, h => by cases h; exact .str x
  | .list ds, _, h => by
    cases h with
    | lst h1 h2 => exact .lst (sqL_same e h1) (DqAll.same e ds _ h2)
  | .tuple ds, _, h => by
    cases h with
    | tup h1 h2 => exact .tup (sqT_same e h1) (DqAll.same e ds _ h2)
  | .dict ds, _, h => by
    cases h with
    | dic h1 h2 => exact .dic (e _ _ h1) (DqKv.same e ds _ h2)
theorem DqAll.same (e : Same H H') : ∀ (ds : List PyData) (vs : List V), DqAll K H vs ds → DqAll K H' vs ds
  | [], _, h => by cases h; exact .nil
  | d :: ds, _, h => by
    cases h with
    | cons h1 h2 => exact .cons (Dq.same e d _ h1) (DqAll.same e ds _ h2)
theorem DqKv.same (e : Same H H') : ∀ (ds : List (PyData × PyData)) (kvs : List (Key × V)), DqKv K H kvs ds → DqKv K H' kvs ds
  | [], _, h => by cases h; exact .nil
  | (_, d) :: ds, _, h => by
    cases h with
    | cons h1 h2 => exact .cons (Dq.same e d _ h1) (DqKv.same e ds _ h2)
end
end
section
variable {X : Cx} {pins : List (Addr × Obj)} {σ : L2.St} {H : Hp} {s : Shared}
theorem not_mods (I : L2.Inv X pins σ H s) (sm : SM X.base) {a : Addr} {o : Obj} {vs : Array Value} {n : Nat} (e : s.heap.get? a = some o) (c : o.data = .seq vs n) : sysModules ≠ a := fun z => by
  obtain ⟨mm, o', es, ep, h1, h2, _⟩ := sm
  have h3 := I.bk _ _ h1
  rw [z, e] at h3
  have h4 := Option.some.inj h3
  subst h4
  rw [c] at h2
  cases h2
mutual
theorem Dq.reads (I : L2.Inv X pins σ H s) (sm : SM X.base) : ∀ (d : PyData) (v : V) (u : Value), Dq X.K H v d → RelV v u → ∃ as, Reads s.heap u d as ∧ sysModules ∉ as
  | .none, _, _, h, r => by
    cases h
    cases r
    exact ⟨_, .none, by simp⟩
  | .bool b, _, _, h, r => by
    cases h
    cases r
    exact ⟨_, .bool b, by simp⟩
  | .int i, _, _, h, r => by
    cases h
    obtain ⟨t, rfl⟩ := r
    exact ⟨_, .int i t, by simp⟩
  | .str x, _, _, h, r => by
    cases h
    obtain ⟨t, rfl⟩ := r
    exact ⟨_, .str x t, by simp⟩
  | .list ds, _, _, h, r => by
    cases h with
    | lst hs ha =>
      cases r
      obtain ⟨its, rv, ⟨o, n, ho, hc, _, hd⟩, _⟩ := I.list hs
      obtain ⟨as, hr, no⟩ := DqAll.reads I sm ds _ its ha rv
      refine ⟨_, .list ho hc hd hr, fun z => ?_⟩
      rcases List.mem_cons.mp z with z | z
      · exact not_mods I sm ho hd z
      · exact no z
  | .tuple ds, _, _, h, r => by
    cases h with
    | tup hs ha =>
      cases r
      obtain ⟨its, rv, ⟨o, ho, hc, n, hd⟩, _⟩ := I.tuple hs
      obtain ⟨as, hr, no⟩ := DqAll.reads I sm ds _ its ha rv
      exact ⟨_, .tuple ho hc hd hr, no⟩
  | .dict ds, _, _, h, r => by
    cases h with
    | @dic a kvs _ he hk =>
      cases r
      obtain ⟨_, na, vs, rel, o, es, ep, ho, ex, hd, _, pr, _⟩ := dk_of I.hok he
      obtain ⟨as, bs, h1, h2, no1, no2⟩ := DqKv.reads I sm ds kvs vs es.toList hk rel pr
      refine ⟨_, .dict ho ex.1 hd h1 h2, fun z => ?_⟩
      rcases List.mem_append.mp z with z | z
      · rcases List.mem_cons.mp z with z | z
        · rw [z, beq_self_eq_true] at na
          cases na
        · exact no1 z
      · exact no2 z
theorem DqAll.reads (I : L2.Inv X pins σ H s) (sm : SM X.base) : ∀ (ds : List PyData) (vs : List V) (us : List Value), DqAll X.K H vs ds → Vals vs us → ∃ as, ReadsAll s.heap us ds as ∧ sysModules ∉ as
  | [], _, _, h, r => by
    cases h
    cases r
    exact ⟨_, .nil, by simp⟩
  | d :: ds, _, _, h, r => by
    cases h with
    | cons h1 h2 =>
      cases r with
      | cons r1 r2 =>
        obtain ⟨as, q1, n1⟩ := Dq.reads I sm d _ _ h1 r1
        obtain ⟨bs, q2, n2⟩ := DqAll.reads I sm ds _ _ h2 r2
        refine ⟨_, .cons q1 q2, fun z => ?_⟩
        rcases List.mem_append.mp z with z | z
        · exact n1 z
        · exact n2 z
theorem DqKv.reads (I : L2.Inv X pins σ H s) (sm : SM X.base) : ∀ (ds : List (PyData × PyData)) (kvs : List (Key × V)) (vs : List (Key × Value)) (es : List DictEntry), DqKv X.K H kvs ds → KV kvs vs →
    Pairs (mixKind X.prog X.w) es vs → ∃ as bs, ReadsAll s.heap (es.map (·.key)) (ds.map (·.1)) as ∧ ReadsAll s.heap (es.map (·.val)) (ds.map (·.2)) bs ∧ sysModules ∉ as ∧ sysModules ∉ bs
  | [], _, _, _, h, r, p => by
    cases h
    cases r
    cases p
    exact ⟨_, _, .nil, .nil, by simp, by simp⟩
  | (_, d) :: ds, _, _, _, h, r, p => by
    cases h with
    | @cons k v _ kvs _ h1 h2 =>
      cases r with
      | @cons _ kv _ vs r1 r2 =>
        cases p with
        | @cons e _ es _ p1 p2 p3 =>
          obtain ⟨as, bs, q1, q2, n1, n2⟩ := DqKv.reads I sm ds _ _ _ h2 r2 p3
          obtain ⟨cs, q3, n3⟩ := Dq.reads I sm d _ _ h1 r1.2
          have key : Reads s.heap e.key (keyD k) [] := by
            have p1' : keyIs kv.1 e.key = true := p1
            rw [← r1.1] at p1'
            obtain ⟨i, t, e1, e2⟩ | ⟨x, t, e1, e2⟩ := keyIs_shape p1'
            · rw [show k = .inl i from e1, e2]
              exact .int i t
            · rw [show k = .inr x from e1, e2]
              exact .str x t
          have val : Reads s.heap e.val d cs := by
            rw [p2]
            exact q3
          refine ⟨_, _, .cons key q1, .cons val q2, ?_, ?_⟩
          · simpa using n1
          · intro z
            rcases List.mem_append.mp z with z | z
            · exact n3 z
            · exact n2 z
end
end
structure Told (d : PyData) : Prop where
  sh : d.showable = true
  lv : d.leavesShort 60 = true
  bu : d.bulk ≤ 200000
  de : d.depth ≤ 40
theorem Told.fits {d : PyData} (t : Told d) : d.shown.length ≤ sizeLine := by
  have h := PyData.shown_le_bulk 60 (by decide) d t.lv
  have hb := t.bu
  rw [sizeLine_eq]
  omega
def rTell (K : PySem.W.Frag) : List V → Hp → VK → Prop := fun xs H Q => ∃ x d, xs = [x] ∧ Dq K H x d ∧ Told d ∧ Q (.str d.shown) H
theorem call_tell {X : Cx} (sm : SM X.base) (hgu : X.A.guards = some []) (hu : X.A.units + 64 < cLine) : CallR X (.builtin "repr") (rTell X.K) := by
  intro pins s σ H xs us Q I r h
  obtain ⟨x, d, rfl, hd, t, q⟩ := h
  obtain ⟨u, rfl, ru⟩ := vals1 r
  have hu1 : X.A.units + 1 < cLine := by omega
  have fin : ∀ {a : Addr} {d : PyData}, Dq X.K H (.ref a) d → Told d → (∀ s' : Shared, L2.Inv X pins σ H s' → Q (.str d.shown) H) →
      wpAny (model X.prog X.w) X.A (call (.builtin "repr") [.ref a]) (EP X pins σ Q) X.xe s := fun {a d} hd t q => by
    obtain ⟨as, rd, no⟩ := Dq.reads I sm d _ _ hd (show RelV (.ref a) (.ref a) from rfl)
    have hz := t.de
    refine repr_of_reads' rd t.sh (fun _ => no) hgu (by omega) (fun _ _ e => e) (fun h' u tk k => ?_) t.fits
    have J := I.kept (t' := tk) k
    exact ⟨.str _, H, J, ⟨_, rfl⟩, q _ J⟩
  cases hd with
  | non =>
    cases ru
    simp only [PyData.shown] at q
    exact PySem.P.repr_of_none ⟨.str _, H, I.tok _, ⟨_, rfl⟩, q⟩
  | bl b =>
    cases ru
    simp only [PyData.shown] at q
    exact PySem.P.repr_of_bool ⟨.str _, H, I.tok _, ⟨_, rfl⟩, q⟩
  | int i =>
    obtain ⟨tk, rfl⟩ := ru
    have hs := t.sh
    simp only [PyData.shown] at q
    simp only [PyData.showable, decide_eq_true_eq] at hs
    exact PySem.P.repr_of_int hs ⟨.str _, H, I.tok _, ⟨_, rfl⟩, q⟩
  | str z =>
    obtain ⟨tk, rfl⟩ := ru
    have hl := t.fits
    simp only [PyData.shown] at q hl
    exact PySem.P.repr_of_str ⟨.str _, H, I.tok _, ⟨_, rfl⟩, q⟩ hl
  | lst h1 h2 =>
    cases ru
    exact fin (.lst h1 h2) t fun _ _ => q
  | tup h1 h2 =>
    cases ru
    exact fin (.tup h1 h2) t fun _ _ => q
  | dic h1 h2 =>
    cases ru
    exact fin (.dic h1 h2) t fun _ _ => q
section
variable {K : PySem.W.Frag} {H : Hp}
def asInt : PyData → Option Int
  | .int i => some i
  | _ => none
def asInts : PyData → Option (List (Option Int))
  | .tuple ds => some (ds.map asInt)
  | _ => none
theorem tyx_lst {a : Addr} {xs : List V} (h : SqL K H a xs) : TyX K H (.ref a) (.type "list") := by
  rcases h with (q | ⟨o, q⟩) | ⟨o, its, n, h1, h2, _⟩
  · exact .base (.lst q)
  · exact .base (.frz q)
  · exact .kList h1 h2
theorem tyx_tpl {a : Addr} {xs : List V} (h : SqT K H a xs) : TyX K H (.ref a) (.type "tuple") := by
  rcases h with (q | ⟨o, q⟩) | ⟨o, its, n, h1, h2, _⟩
  · exact .base (.tup q)
  · exact .fTuple q
  · exact .kTuple h1 h2
theorem Dq.int? {v : V} {d : PyData} (h : Dq K H v d) : IntQ K H v (asInt d) := by
  cases h with
  | non => exact .inr ⟨_, .base .non, kit_ty (r := false) (by decide +kernel)⟩
  | bl b => exact .inl ⟨b, rfl⟩
  | int i => rfl
  | str x => exact .inr ⟨_, .base (.str x), kit_ty (r := false) (by decide +kernel)⟩
  | lst h1 h2 => exact .inr ⟨_, tyx_lst h1, kit_ty (r := false) (by decide +kernel)⟩
  | tup h1 h2 => exact .inr ⟨_, tyx_tpl h1, kit_ty (r := false) (by decide +kernel)⟩
  | dic h1 h2 => exact .inr ⟨_, .base (.dK h1), kit_ty (r := false) (by decide +kernel)⟩
theorem DqAll.ints : ∀ {xs : List V} {ds : List PyData}, DqAll K H xs ds → Paired (IntQ K H) xs (ds.map asInt)
  | _, _, .nil => .nil
  | _, _, .cons h1 h2 => .cons h1.int? h2.ints
def asTuple : PyData → Option (List PyData)
  | .tuple ds => some ds
  | _ => none
theorem Dq.noTuple {v : V} {d : PyData} (h : Dq K H v d) (e : asTuple d = none) : TupQ K H v none := by
  cases h with
  | non => exact ⟨_, .base .non, kit_ty (r := false) (by decide +kernel)⟩
  | bl b => exact ⟨_, .base (.bl b), kit_ty (r := false) (by decide +kernel)⟩
  | int i => exact ⟨_, .base (.int i), kit_ty (r := false) (by decide +kernel)⟩
  | str x => exact ⟨_, .base (.str x), kit_ty (r := false) (by decide +kernel)⟩
  | lst h1 h2 => exact ⟨_, tyx_lst h1, kit_ty (r := false) (by decide +kernel)⟩
  | tup h1 h2 => cases e
  | dic h1 h2 => exact ⟨_, .base (.dK h1), kit_ty (r := false) (by decide +kernel)⟩
theorem DqAll.length : ∀ {xs : List V} {ds : List PyData}, DqAll K H xs ds → xs.length = ds.length
  | _, _, .nil => rfl
  | _, _, .cons _ h2 => by rw [List.length_cons, List.length_cons, h2.length]
end
end MB
end
section
set_option maxRecDepth 100000
set_option maxHeartbeats 4000000
namespace MB
open PySem PySem.Spec PyProof.Rows L2
theorem lawM_at {P : Program} {w : World} {K : PySem.W.Frag} {mg mb : Str → Option Value} {k : Nat} {fa a : Addr}
    {fd : FuncData} {x : Str} {sp : Sp} {s₁ : Shared} {us : List Value} {ns : List Int} {H : Hp}
    (KX : K.In s₁.heap) (hns : s₁.heap.Ns mainGlobals mg) (hb : s₁.heap.Ns builtinsNs mb)
    (hbb : ∀ x : Str, x ≠ "__name__" → mb x = bootBuiltins x) (hlim : s₁.heap.NoLimit) (hg : s₁.gens = #[])
    (ha : s₁.heap.get? a = some { cls := .type "list", data := .seq us.toArray }) (hr : Room k callerA)
    (F : ∀ base : Heap, K.In base → base.Ns mainGlobals mg → SM base → FnG P w K mg base k fa fd [x] sp) (hsm : SM s₁.heap)
    (hbind : ∀ (s : Shared) (u : Value), BindsTo s fd ⟨[u], []⟩ [(x, u)])
    (hsp : sp [.ref a] H (fun v _ => v = .bl true) E0) (hO : Only H) (hok : HOk P w H s₁.heap)
    (hA : ∀ b, H b ≠ none → b = a) (hK : H a ≠ none → K.lookup a = none) :
    codeAny (model P w) callerA (.call (.ref fa) ⟨[.ref a], []⟩)
      (fun r s' => r = .ok (.ret (.bool true)) ∧ OldK s₁.heap s'.heap ∧ s'.os = s₁.os ∧ AllBare s'.gens) s₁ := by
  have noA : ∀ {b : Addr} {o : Obj} {es : Array DictEntry} {ep : Nat},
      s₁.heap.get? b = some o → o.data = .dict es ep → H b = none := by
    intro b o es ep e d
    cases q : H b with
    | none => rfl
    | some u =>
      obtain rfl : b = a := hA b (by simp [q])
      rw [ha] at e
      cases e
      exact absurd d (by intro z; cases z)
  have nsK : ∀ {b : Addr} {m : Str → Option Value}, s₁.heap.Ns b m → (hidT s₁.heap H).Ns b m :=
    fun {b m} ⟨o, es, ep, e, d, r⟩ => ⟨o, es, ep, hidT_get e (noA e d), d, r⟩
  have hKb : K.In (hidT s₁.heap H) := by
    intro b o e
    refine hidT_get (KX b o e) ?_
    cases q : H b with
    | none => rfl
    | some u =>
      obtain rfl : b = a := hA b (by simp [q])
      rw [hK (by simp [q])] at e
      cases e
  have hM : Mod K mg (hidT s₁.heap H) :=
    ⟨hKb, nsK hns, ⟨mb, nsK hb, hbb⟩, let ⟨mc, h1, h2⟩ := hlim; ⟨mc, nsK h1, h2⟩⟩
  have e0 : Env0 P w K mg (hidT s₁.heap H) callerA [] s₁ H :=
    ⟨rfl, hM, fun b o e => of_hidT e, Nat.le_of_eq (hidT_size _ _), trivial,
      fun b hb => absurd (show b ∈ ([] : List Addr) from hb) (by simp), hok, .of_eq hg⟩
  refine codeAny_mono ((F _ hKb (nsK hns) (let ⟨mm, z⟩ := hsm; ⟨mm, nsK z⟩)).goes callerA [] s₁ H ⟨[.ref a], []⟩ [.ref a] [.ref a] _ _ hr rfl e0
    (hbind s₁ (.ref a)) (.cons rfl .nil) hsp) fun r s' h => ?_
  cases r with
  | error e => exact h.elim
  | ok fl =>
    cases fl with
    | next => exact False.elim h
    | brk => exact False.elim h
    | cont => exact False.elim h
    | ret u =>
      obtain ⟨v, H', os, bare, un, hok', r', q⟩ := h
      have q' : v = .bl true := q
      subst q'
      obtain rfl : u = Value.bool true := r'
      refine ⟨rfl, OldK.of_keep fun b o e => ?_, os, bare⟩
      cases q : H b with
      | none => exact un.keep b o e q (fun z => absurd (show b ∈ ([] : List Addr) from z) (by simp)) (by simp)
      | some u =>
        rcases hO b with z | ⟨ob, xs, z⟩
        · rw [q] at z
          cases z
        · obtain ⟨e1, _⟩ := hok b _ z
          obtain ⟨e2, _⟩ := hok' b _ (un.frzs b ob _ z)
          rw [e] at e1
          cases e1
          exact e2
theorem lawM_call {P : Program} {w : World} {K : PySem.W.Frag} {mg mb : Str → Option Value} {k : Nat} {fa a : Addr}
    {fd : FuncData} {x : Str} {sp : Sp} {s₁ : Shared} {us : List Value} {ns : List Int}
    (KX : K.In s₁.heap) (hns : s₁.heap.Ns mainGlobals mg) (hb : s₁.heap.Ns builtinsNs mb)
    (hbb : ∀ x : Str, x ≠ "__name__" → mb x = bootBuiltins x) (hlim : s₁.heap.NoLimit) (hg : s₁.gens = #[])
    (ha : s₁.heap.get? a = some { cls := .type "list", data := .seq us.toArray }) (hi : IntsAre us ns)
    (hl : ns.length ≤ sizeLine) (hr : Room k callerA)
    (F : ∀ base : Heap, K.In base → base.Ns mainGlobals mg → SM base → FnG P w K mg base k fa fd [x] sp) (hsm : SM s₁.heap)
    (hbind : ∀ (s : Shared) (u : Value), BindsTo s fd ⟨[u], []⟩ [(x, u)])
    (hsp : ∀ H : Hp, Only H → SqL K H a (ns.map V.int) → sp [.ref a] H (fun v _ => v = .bl true) E0) :
    codeAny (model P w) callerA (.call (.ref fa) ⟨[.ref a], []⟩)
      (fun r s' => r = .ok (.ret (.bool true)) ∧ OldK s₁.heap s'.heap ∧ s'.os = s₁.os ∧ AllBare s'.gens) s₁ := by
  have rv := vals_ints hi
  have len1 := hi.length
  cases hk : K.lookup a with
  | some o =>
    have e := KX a o hk
    rw [ha] at e
    cases e
    have hS : SqL K (fun _ => none) a (ns.map V.int) :=
      Or.inr ⟨_, us.toArray, _, hk, rfl, rfl, rfl, by rw [List.size_toArray, len1]; exact hl, by simpa using rv⟩
    exact lawM_at (H := fun _ => none) (ns := ns) KX hns hb hbb hlim hg ha hr F hsm hbind
      (hsp _ (fun _ => Or.inl rfl) hS) (fun _ => Or.inl rfl)
      (fun b u z => by cases (show (none : Option HO) = some u from z)) (fun b z => absurd rfl z) fun z => absurd rfl z
  | none =>
    let ob : Obj := { cls := .type "list", data := .seq us.toArray }
    let H0 : Hp := fun b => if b = a then some (.frz ob (.lst (ns.map V.int))) else none
    have at0 : H0 a = some (.frz ob (.lst (ns.map V.int))) := if_pos rfl
    have off : ∀ b, b ≠ a → H0 b = none := fun b hb => if_neg hb
    have hO : Only H0 := fun b => by
      by_cases hb : b = a
      · subst hb
        exact Or.inr ⟨_, _, at0⟩
      · exact Or.inl (off b hb)
    have hok : HOk P w H0 s₁.heap := fun b u z => by
      by_cases hb : b = a
      · subst hb
        rw [at0] at z
        cases z
        exact ⟨ha, by rw [List.length_map]; exact hl, us, _, rv, ha⟩
      · rw [off b hb] at z
        cases z
    refine lawM_at (H := H0) (ns := ns) KX hns hb hbb hlim hg ha hr F hsm hbind
      (hsp H0 hO (Or.inl (Or.inr ⟨_, at0⟩))) hO hok (fun b z => ?_) fun _ => hk
    by_cases hb : b = a
    · exact hb
    · exact absurd (off b hb) z
theorem walkM {l : PySem.W.OpenLaw} {n k : Nat} {q : Program} {loose : List Str}
    {XP : (Str → Option Value) → Heap → Prop} {YP : World → Heap → Prop} {d : DefRec}
    {K : Params → PySem.W.Frag} {sp : PySem.W.Frag → Sp} {x : Str} (hn : l.most = some n) (hn2 : n ≤ sizeLine)
    (hdf : d.params.defaults = []) (hq : importsNone q = true) (hr : Room k callerA) (hY : ∀ (w : World) (h : Heap), YP w h → (K w.params).In h)
    (F : ∀ (w : World) (mg : Str → Option Value) (fa : Addr) (h : Heap), (K w.params).In h → h.Ns mainGlobals mg →
      mg d.name = some (.ref fa) → ∃ fd : FuncData, (∀ (s : Shared) (u : Value), BindsTo s fd ⟨[u], []⟩ [(x, u)]) ∧
        ∀ base : Heap, (K w.params).In base → base.Ns mainGlobals mg → SM base →
          FnG l.prog w (K w.params) mg base k fa fd [x] (sp (K w.params)))
    (hsp : ∀ (K : PySem.W.Frag) (H : Hp) (a : Addr) (ns : List Int), ns.length ≤ n → Only H →
      SqL K H a (ns.map V.int) → sp K [.ref a] H (fun v _ => v = .bl true) E0) :
    PySem.W.WalkO q loose XP YP l.row.toRowW d [] (fun f vs => PySem.call f vs) := by
  refine Att.attach_call hn hdf fun w s₀ s₁ mg mb fa o pm cd doc a vs ns G Y ho hd hcd hmg hobj hints hlen hg => ?_
  have KX := hY w _ Y
  have hsm : SM s₁.heap := let ⟨mm, z, _⟩ := (G.T.seer hq).mods; ⟨mm, z⟩
  obtain ⟨fd, hb, hF⟩ := F w mg fa _ KX G.T.g hmg
  exact lawM_call KX G.T.g G.T.b G.T.builtins G.T.nolimit hg hobj hints (Nat.le_trans hlen hn2) hr hF hsm hb
    fun H hO hS => hsp _ H a ns hlen hO hS
end MB
end
section
set_option maxRecDepth 100000
set_option maxHeartbeats 4000000
namespace MB
open PySem PySem.Spec PyProof.Rows L2 LamX PySem.W
abbrev Tb := Addr × Addr × Str
def tbs (tabs : List Tb) : List (Addr × Str) := tabs.map fun t => (t.2.1, t.2.2)
structure TabAt (h : Heap) (t : Tb) : Prop where
  c : CodeHd h t.1 t.2.1
  p : h.get? t.2.1 = some (tabObj #[])
def Shape (tabs : List Tb) (H : Hp) : Prop := ∀ b, H b = none ∨ (∃ ob xs, H b = some (.frz ob (.lst xs))) ∨ (H b = some (.tbl #[]) ∧ ∃ t ∈ tabs, t.2.1 = b)
theorem lawT_at {P : Program} {w : World} {K : PySem.W.Frag} {mg mb : Str → Option Value} {k : Nat} {fa a : Addr}
    {fd : FuncData} {x : Str} {sp : Sp} {s₁ : Shared} {us : List Value} {ns : List Int} {H : Hp} {tabs : List Tb}
    (KX : K.In s₁.heap) (hns : s₁.heap.Ns mainGlobals mg) (hb : s₁.heap.Ns builtinsNs mb)
    (hbb : ∀ x : Str, x ≠ "__name__" → mb x = bootBuiltins x) (hlim : s₁.heap.NoLimit) (hg : s₁.gens = #[])
    (hbm : ∃ bm ob, mg "__builtins__" = some (.ref bm) ∧ bm ≠ builtinsNs ∧ s₁.heap.get? bm = some ob ∧ ob.cls = .type "module" ∧ ob.dict = some builtinsNs ∧ ob.data = .plain)
    (ha : s₁.heap.get? a = some { cls := .type "list", data := .seq us.toArray }) (hr : Room k callerA)
    (hT : ∀ t ∈ tabs, TabAt s₁.heap t) (nK : noTabs K = true)
    (F : ∀ base : Heap, K.In base → base.Ns mainGlobals mg → SM base → (∀ t ∈ tabs, TabB base mg t.1 t.2.1) → FnG P w K mg base k fa fd [x] sp) (hsm : SM s₁.heap)
    (hbind : ∀ (s : Shared) (u : Value), BindsTo s fd ⟨[u], []⟩ [(x, u)])
    (hsp : sp [.ref a] H (fun v _ => v = .bl true) E0) (hO : Shape tabs H) (hok : HOk P w H s₁.heap)
    (hA : ∀ b ob xs, H b = some (.frz ob (.lst xs)) → b = a) (hK : ∀ ob xs, H a = some (.frz ob (.lst xs)) → K.lookup a = none) :
    codeAny (model P w) callerA (.call (.ref fa) ⟨[.ref a], []⟩)
      (fun r s' => r = .ok (.ret (.bool true)) ∧ OldK s₁.heap s'.heap ∧ s'.os = s₁.os ∧ AllBare s'.gens) s₁ := by
  have tbl : ∀ {b : Addr}, H b = some (.tbl #[]) → s₁.heap.get? b = some (tabObj #[]) := fun {b} q => hok b _ q
  have other : ∀ {b : Addr} {o : Obj}, s₁.heap.get? b = some o → o.cls ≠ .type "list" → o ≠ tabObj #[] → H b = none := by
    intro b o e c1 c2
    rcases hO b with q | ⟨ob, xs, q⟩ | ⟨q, _⟩
    · exact q
    · obtain rfl := hA b _ _ q
      rw [ha] at e
      cases e
      exact absurd rfl c1
    · rw [tbl q] at e
      cases e
      exact absurd rfl c2
  have noA : ∀ {b : Addr} {o : Obj} {es : Array DictEntry} {ep : Nat},
      s₁.heap.get? b = some o → o.data = .dict es ep → H b = none := by
    intro b o es ep e d
    rcases hO b with q | ⟨ob, xs, q⟩ | ⟨q, _⟩
    · exact q
    · obtain rfl := hA b _ _ q
      rw [ha] at e
      cases e
      cases d
    · rw [tbl q] at e
      cases e
      cases d
  have nsK : ∀ {b : Addr} {m : Str → Option Value}, s₁.heap.Ns b m → (hidT s₁.heap H).Ns b m :=
    fun {b m} ⟨o, es, ep, e, d, r⟩ => ⟨o, es, ep, hidT_get e (noA e d), d, r⟩
  have hKb : K.In (hidT s₁.heap H) := by
    intro b o e
    refine hidT_get (KX b o e) ?_
    rcases hO b with q | ⟨ob, xs, q⟩ | ⟨q, _⟩
    · exact q
    · obtain rfl := hA b _ _ q
      rw [hK _ _ q] at e
      cases e
    · have z := KX b o e
      rw [tbl q] at z
      cases z
      have h2 := List.all_eq_true.mp nK (b, tabObj #[]) (mem_of_lookupK e)
      exact absurd (show false = true from h2) Bool.false_ne_true
  have hM : Mod K mg (hidT s₁.heap H) :=
    ⟨hKb, nsK hns, ⟨mb, nsK hb, hbb⟩, let ⟨mc, h1, h2⟩ := hlim; ⟨mc, nsK h1, h2⟩⟩
  have e0 : Env0 P w K mg (hidT s₁.heap H) callerA [] s₁ H :=
    ⟨rfl, hM, fun b o e => of_hidT e, Nat.le_of_eq (hidT_size _ _), trivial,
      fun b hb => absurd (show b ∈ ([] : List Addr) from hb) (by simp), hok, .of_eq hg⟩
  have hTB : ∀ t ∈ tabs, TabB (hidT s₁.heap H) mg t.1 t.2.1 := fun t ht => by
    obtain ⟨hc, hp⟩ := hT t ht
    obtain ⟨o, vs, file, tf, flags, tg, inF, text, tt, e1, r1, r⟩ := hc
    obtain ⟨bm, ob, b1, b2, b3, b4, b5, b6⟩ := hbm
    have hgP : mainGlobals ≠ t.2.1 := fun q => by
      obtain ⟨o, es, ep, e, hd, _⟩ := hns
      rw [q, hp] at e
      cases e
      cases hd
    refine ⟨⟨o, vs, file, tf, flags, tg, inF, text, tt, hidT_get e1 (other e1 (by rw [r1]; intro z; injection z with z; exact absurd z (by decide)) (by rintro rfl; cases r1)), r1, r⟩, ⟨bm, ob, b1, b2, ?_, ?_, hidT_get b3 (other b3 (by rw [b4]; intro z; injection z with z; exact absurd z (by decide)) (by rintro rfl; cases b4)), b4, b5, b6⟩, hgP⟩
    · intro q
      obtain ⟨o, es, ep, e, hd, _⟩ := hns
      rw [q, e] at b3
      cases b3
      rw [hd] at b6
      cases b6
    · intro q
      rw [q, hp] at b3
      cases b3
      cases b4
  refine codeAny_mono ((F _ hKb (nsK hns) (let ⟨mm, z⟩ := hsm; ⟨mm, nsK z⟩) hTB).goes callerA [] s₁ H ⟨[.ref a], []⟩ [.ref a] [.ref a] _ _ hr rfl e0
    (hbind s₁ (.ref a)) (.cons rfl .nil) hsp) fun r s' h => ?_
  cases r with
  | error e => exact h.elim
  | ok fl =>
    cases fl with
    | next => exact False.elim h
    | brk => exact False.elim h
    | cont => exact False.elim h
    | ret u =>
      obtain ⟨v, H', os, bare, un, hok', r', q⟩ := h
      have q' : v = .bl true := q
      subst q'
      obtain rfl : u = Value.bool true := r'
      have kept : ∀ b o, s₁.heap.get? b = some o → (H b = none ∨ ∃ ob xs, H b = some (.frz ob (.lst xs))) → s'.heap.get? b = some o := fun b o e c => by
        rcases c with q | ⟨ob, xs, z⟩
        · exact un.keep b o e q (fun z => absurd (show b ∈ ([] : List Addr) from z) (by simp)) (by simp)
        · obtain ⟨e1, _⟩ := hok b _ z
          obtain ⟨e2, _⟩ := hok' b _ (un.frzs b ob _ z)
          rw [e] at e1
          cases e1
          exact e2
      have grown : ∀ b o, s₁.heap.get? b = some o → H b = some (.tbl #[]) → ∃ more, s'.heap.get? b = some (tabObj (#[] ++ more)) := fun b o e q => by
        obtain ⟨more, z⟩ := un.tbls b _ q
        exact ⟨more, hok' b _ z⟩
      refine ⟨rfl, ⟨fun b o e => ?_, fun b o e => ?_⟩, os, bare⟩
      · rcases hO b with q | q | ⟨q, t, ht, hb⟩
        · exact .inl (kept b o e (.inl q))
        · exact .inl (kept b o e (.inr q))
        · obtain ⟨more, z⟩ := grown b o e q
          have e' := tbl q
          rw [e] at e'
          cases e'
          refine .inr (.inl ⟨?_, rfl, #[], more, rfl, z⟩)
          rw [← hb]
          exact ((hT t ht).c.tab (hT t ht).p).isCodeTable
      · rcases hO b with q | q | ⟨q, t, ht, hb⟩
        · exact ⟨_, kept b o e (.inl q)⟩
        · exact ⟨_, kept b o e (.inr q)⟩
        · obtain ⟨more, z⟩ := grown b o e q
          exact ⟨_, z⟩
theorem lawT_call {P : Program} {w : World} {K : PySem.W.Frag} {mg mb : Str → Option Value} {k : Nat} {fa a : Addr}
    {fd : FuncData} {x : Str} {sp : Sp} {s₁ : Shared} {us : List Value} {ns : List Int} {tabs : List Tb}
    (KX : K.In s₁.heap) (hns : s₁.heap.Ns mainGlobals mg) (hb : s₁.heap.Ns builtinsNs mb)
    (hbb : ∀ x : Str, x ≠ "__name__" → mb x = bootBuiltins x) (hlim : s₁.heap.NoLimit) (hg : s₁.gens = #[])
    (hbm : ∃ bm ob, mg "__builtins__" = some (.ref bm) ∧ bm ≠ builtinsNs ∧ s₁.heap.get? bm = some ob ∧ ob.cls = .type "module" ∧ ob.dict = some builtinsNs ∧ ob.data = .plain)
    (ha : s₁.heap.get? a = some { cls := .type "list", data := .seq us.toArray }) (hi : IntsAre us ns)
    (hl : ns.length ≤ sizeLine) (hr : Room k callerA)
    (hT : ∀ t ∈ tabs, TabAt s₁.heap t) (nK : noTabs K = true)
    (F : ∀ base : Heap, K.In base → base.Ns mainGlobals mg → SM base → (∀ t ∈ tabs, TabB base mg t.1 t.2.1) → FnG P w K mg base k fa fd [x] sp) (hsm : SM s₁.heap)
    (hbind : ∀ (s : Shared) (u : Value), BindsTo s fd ⟨[u], []⟩ [(x, u)])
    (hsp : ∀ H : Hp, (∀ t ∈ tabs, H t.2.1 = some (.tbl #[])) → SqL K H a (ns.map V.int) → sp [.ref a] H (fun v _ => v = .bl true) E0) :
    codeAny (model P w) callerA (.call (.ref fa) ⟨[.ref a], []⟩)
      (fun r s' => r = .ok (.ret (.bool true)) ∧ OldK s₁.heap s'.heap ∧ s'.os = s₁.os ∧ AllBare s'.gens) s₁ := by
  have rv := vals_ints hi
  have len1 := hi.length
  let isT : Addr → Bool := fun b => tabs.any fun t => t.2.1 == b
  have isT_of : ∀ {b}, isT b = true → ∃ t ∈ tabs, t.2.1 = b := fun {b} z => by
    obtain ⟨t, ht, e⟩ := List.any_eq_true.mp z
    exact ⟨t, ht, beq_iff_eq.mp e⟩
  have isT_at : ∀ t ∈ tabs, isT t.2.1 = true := fun t ht => List.any_eq_true.mpr ⟨t, ht, beq_self_eq_true _⟩
  have at_tab : ∀ {b}, isT b = true → s₁.heap.get? b = some (tabObj #[]) := fun {b} z => by
    obtain ⟨t, ht, e⟩ := isT_of z
    rw [← e]
    exact (hT t ht).p
  have nA : isT a = false := by
    cases z : isT a with
    | false => rfl
    | true =>
      have e := at_tab z
      rw [ha] at e
      cases e
  cases hk : K.lookup a with
  | some o =>
    have e := KX a o hk
    rw [ha] at e
    cases e
    let H0 : Hp := fun b => if isT b = true then some (.tbl #[]) else none
    have cases0 : ∀ b, (isT b = true ∧ H0 b = some (.tbl #[])) ∨ (isT b = false ∧ H0 b = none) := fun b => by
      cases z : isT b with
      | true => exact .inl ⟨rfl, if_pos z⟩
      | false => exact .inr ⟨rfl, if_neg (by rw [z]; decide)⟩
    have hS : SqL K H0 a (ns.map V.int) :=
      Or.inr ⟨_, us.toArray, _, hk, rfl, rfl, rfl, by rw [List.size_toArray, len1]; exact hl, by simpa using rv⟩
    refine lawT_at (H := H0) (ns := ns) KX hns hb hbb hlim hg hbm ha hr hT nK F hsm hbind
      (hsp _ (fun t ht => if_pos (isT_at t ht)) hS) (fun b => ?_) (fun b u z => ?_) (fun b ob xs z => ?_) fun ob xs z => ?_
    · rcases cases0 b with ⟨h1, h2⟩ | ⟨_, h2⟩
      · exact .inr (.inr ⟨h2, isT_of h1⟩)
      · exact .inl h2
    · rcases cases0 b with ⟨h1, h2⟩ | ⟨_, h2⟩
      · rw [h2] at z
        cases z
        exact at_tab h1
      · rw [h2] at z
        cases z
    · rcases cases0 b with ⟨h1, h2⟩ | ⟨_, h2⟩
      · rw [h2] at z
        cases z
      · rw [h2] at z
        cases z
    · rcases cases0 a with ⟨h1, h2⟩ | ⟨_, h2⟩
      · rw [h2] at z
        cases z
      · rw [h2] at z
        cases z
  | none =>
    let ob : Obj := { cls := .type "list", data := .seq us.toArray }
    let H0 : Hp := fun b => if b = a then some (.frz ob (.lst (ns.map V.int))) else if isT b = true then some (.tbl #[]) else none
    have at0 : H0 a = some (.frz ob (.lst (ns.map V.int))) := if_pos rfl
    have cases0 : ∀ b, (b = a) ∨ (isT b = true ∧ H0 b = some (.tbl #[])) ∨ (isT b = false ∧ H0 b = none) := fun b => by
      by_cases hb : b = a
      · exact .inl hb
      · refine .inr ?_
        have e : H0 b = if isT b = true then some (.tbl #[]) else none := if_neg hb
        rw [e]
        cases z : isT b with
        | true => exact .inl ⟨rfl, if_pos rfl⟩
        | false => exact .inr ⟨rfl, if_neg (by decide)⟩
    refine lawT_at (H := H0) (ns := ns) KX hns hb hbb hlim hg hbm ha hr hT nK F hsm hbind
      (hsp H0 (fun t ht => ?_) (Or.inl (Or.inr ⟨_, at0⟩))) (fun b => ?_) (fun b u z => ?_) (fun b ob' xs z => ?_) fun _ _ _ => hk
    · rcases cases0 t.2.1 with e | ⟨_, e⟩ | ⟨e, _⟩
      · have := isT_at t ht
        rw [e, nA] at this
        cases this
      · exact e
      · rw [isT_at t ht] at e
        cases e
    · rcases cases0 b with rfl | ⟨h1, h2⟩ | ⟨_, h2⟩
      · exact .inr (.inl ⟨_, _, at0⟩)
      · exact .inr (.inr ⟨h2, isT_of h1⟩)
      · exact .inl h2
    · rcases cases0 b with rfl | ⟨h1, h2⟩ | ⟨_, h2⟩
      · rw [at0] at z
        cases z
        exact ⟨ha, by rw [List.length_map]; exact hl, us, _, rv, ha⟩
      · rw [h2] at z
        cases z
        exact at_tab h1
      · rw [h2] at z
        cases z
    · rcases cases0 b with e | ⟨h1, h2⟩ | ⟨_, h2⟩
      · exact e
      · rw [h2] at z
        cases z
      · rw [h2] at z
        cases z
theorem walkT {l : PySem.W.OpenLaw} {n k : Nat} {q : Program} {loose : List Str}
    {XP : (Str → Option Value) → Heap → Prop} {YP : World → Heap → Prop} {d : DefRec}
    {K : Params → PySem.W.Frag} {sp : PySem.W.Frag → List (Addr × Str) → Sp} {x : Str} (hn : l.most = some n) (hn2 : n ≤ sizeLine)
    (hdf : d.params.defaults = []) (hq : importsNone q = true) (hr : Room k callerA) (hY : ∀ (w : World) (h : Heap), YP w h → (K w.params).In h)
    (F : ∀ (w : World) (mg : Str → Option Value) (fa : Addr) (h : Heap), (K w.params).In h → h.Ns mainGlobals mg →
      (∀ (x : Str) (r : DefRec) (c P : Addr), (recsOf q).find? (fun e => e.name == x) = some r → tabIn (K w.params) x = some (c, P) → CodeHd h c P ∧ h.get? P = some (tabObj #[])) →
      mg d.name = some (.ref fa) → ∃ (fd : FuncData) (tabs : List Tb), (∀ t ∈ tabs, TabAt h t) ∧ noTabs (K w.params) = true ∧ (∀ (s : Shared) (u : Value), BindsTo s fd ⟨[u], []⟩ [(x, u)]) ∧
        ∀ base : Heap, (K w.params).In base → base.Ns mainGlobals mg → SM base → (∀ t ∈ tabs, TabB base mg t.1 t.2.1) →
          FnG l.prog w (K w.params) mg base k fa fd [x] (sp (K w.params) (tbs tabs)))
    (hsp : ∀ (K : PySem.W.Frag) (H : Hp) (a : Addr) (ns : List Int) (T : List (Addr × Str)), ns.length ≤ n → Tabs T H →
      SqL K H a (ns.map V.int) → sp K T [.ref a] H (fun v _ => v = .bl true) E0) :
    PySem.W.WalkO q loose XP YP l.row.toRowW d [] (fun f vs => PySem.call f vs) := by
  refine Att.attach_call hn hdf fun w s₀ s₁ mg mb fa o pm cd doc a vs ns G Y ho hd hcd hmg hobj hints hlen hg => ?_
  have KX := hY w _ Y
  have hsm : SM s₁.heap := let ⟨mm, z, _⟩ := (G.T.seer hq).mods; ⟨mm, z⟩
  obtain ⟨fd, tabs, hT, nK, hb, hF⟩ := F w mg fa _ KX G.T.g (fun x r c P hr ht => tab_of G.T KX hr ht) hmg
  exact lawT_call KX G.T.g G.T.b G.T.builtins G.T.nolimit hg G.T.bmain hobj hints (Nat.le_trans hlen hn2) hr hT nK hF hsm hb
    fun H hH hS => hsp _ H a ns _ hlen (fun p hp => by
      obtain ⟨t, ht, rfl⟩ := List.mem_map.mp hp
      exact TabS.nil (hH t ht)) hS
end MB
end
section
set_option maxRecDepth 100000
set_option maxHeartbeats 4000000
namespace MB
open PySem PySem.Spec PyProof.Rows L2
def dk (kL : Str) (l : Addr) (m n : Int) : List (Key × V) := [(.inr kL, .ref l), (.inr "mixed", .int m), (.inr "draws", .int n)]
structure Deck (kL : Str) (H : Hp) (d l : Addr) : Prop where
  ex : ∃ (m n : Int) (cs : List Int), H d = some (.dK (dk kL l m n)) ∧ H l = some (.lst (cs.map V.int)) ∧ cs.length ≤ 63 ∧ 0 ≤ m ∧ m < 2147483648
def But (d l : Addr) (H H' : Hp) : Prop := ∀ b o, H b = some o → b ≠ d → b ≠ l → H' b = some o
structure KOk (kL : Str) : Prop where
  m : ¬ kL = ("mixed" : Str)
  d : ¬ kL = ("draws" : Str)
theorem md : ¬ ("mixed" : Str) = ("draws" : Str) := by decide +kernel
theorem key_ne {a b : Str} (h : ¬ a = b) : ¬ ((Sum.inr a : Key) = Sum.inr b) := fun e => h (Sum.inr.inj e)
section
variable {kL : Str} {l d : Addr} {m n : Int} {H H' H1 : Hp}
theorem dk_left : valV (dk kL l m n) (.inr kL : Key) = some (.ref l) := valV_pos rfl
theorem dk_mixed (k : KOk kL) : valV (dk kL l m n) (.inr "mixed" : Key) = some (.int m) := by
  unfold dk
  rw [valV_neg (key_ne k.m)]
  exact valV_pos rfl
theorem dk_draws (k : KOk kL) : valV (dk kL l m n) (.inr "draws" : Key) = some (.int n) := by
  unfold dk
  rw [valV_neg (key_ne k.d), valV_neg (key_ne md)]
  exact valV_pos rfl
theorem dk_put (k : KOk kL) (n' : Int) : putK (dk kL l m n) (.inr "draws" : Key) (.int n') = dk kL l m n' := by
  have e1 : ¬ ((Sum.inr kL : Key) = (Sum.inr ("draws" : Str) : Key)) := key_ne k.d
  have e2 : ¬ ((Sum.inr ("mixed" : Str) : Key) = (Sum.inr ("draws" : Str) : Key)) := key_ne md
  have e3 : ((dk kL l m n).any fun kv => decide (kv.1 = (Sum.inr ("draws" : Str) : Key))) = true := by
    unfold dk
    simp [List.any_cons]
  unfold putK
  rw [if_pos e3]
  unfold dk
  simp only [List.map_cons, List.map_nil]
  rw [if_neg e1, if_neg e2, if_pos True.intro]
theorem dk_merge (k : KOk kL) : mergeK [] (dk kL l m n) = dk kL l m n := by
  have e1 : ¬ ((Sum.inr kL : Key) = (Sum.inr ("draws" : Str) : Key)) := key_ne k.d
  have e2 : ¬ ((Sum.inr ("mixed" : Str) : Key) = (Sum.inr ("draws" : Str) : Key)) := key_ne md
  have e3 : ¬ ((Sum.inr kL : Key) = (Sum.inr ("mixed" : Str) : Key)) := key_ne k.m
  unfold mergeK dk
  simp only [List.foldl_cons, List.foldl_nil]
  unfold putK
  simp [e1, e2, e3]
theorem Deck.ne (D : Deck kL H d l) : d ≠ l := by
  obtain ⟨m, n, cs, h1, h2, _⟩ := D.ex
  exact ne_of h1 h2 (by intro z; cases z)
theorem Deck.same (D : Deck kL H d l) (e : Same H H') : Deck kL H' d l := by
  obtain ⟨m, n, cs, h1, h2, h3⟩ := D.ex
  exact ⟨m, n, cs, e _ _ h1, e _ _ h2, h3⟩
theorem But.refl : But d l H H := fun _ _ h _ _ => h
theorem But.of (e : Same H H') : But d l H H' := fun b o h _ _ => e b o h
theorem But.trans (a : But d l H H') (b : But d l H' H1) : But d l H H1 := fun c o h h1 h2 => b c o (a c o h h1 h2) h1 h2
theorem But.same (a : But d l H H') (b : Same H' H1) : But d l H H1 := fun c o h h1 h2 => b c o (a c o h h1 h2)
theorem But.free (D : Deck kL H' d l) (e : But d l H H') {p : Addr} (h : H' p = none) : H p = none := by
  obtain ⟨m, n, cs, h1, h2, _⟩ := D.ex
  cases q : H p with
  | none => rfl
  | some o =>
    by_cases hd : p = d
    · subst hd
      rw [h1] at h
      cases h
    · by_cases hl : p = l
      · subst hl
        rw [h2] at h
        cases h
      · rw [e p o q hd hl] at h
        cases h
theorem Deck.off {p : Addr} (D : Deck kL H d l) (h : H p = none) : p ≠ d ∧ p ≠ l := by
  obtain ⟨m, n, cs, h1, h2, _⟩ := D.ex
  exact ⟨(ne_of_none h1 h).symm, (ne_of_none h2 h).symm⟩
theorem Deck.off_tup {p : Addr} {xs : List V} (D : Deck kL H d l) (h : H p = some (.tup xs)) : p ≠ d ∧ p ≠ l := by
  obtain ⟨m, n, cs, h1, h2, _⟩ := D.ex
  exact ⟨ne_of h h1 (by intro z; cases z), ne_of h h2 (by intro z; cases z)⟩
theorem Deck.off_frz {p : Addr} {o : Obj} {u : HO} (D : Deck kL H d l) (h : H p = some (.frz o u)) : p ≠ d ∧ p ≠ l := by
  obtain ⟨m, n, cs, h1, h2, _⟩ := D.ex
  exact ⟨ne_of h h1 (by intro z; cases z), ne_of h h2 (by intro z; cases z)⟩
theorem But.tup {K : PySem.W.Frag} {a : Addr} {xs : List V} (D : Deck kL H d l) (e : But d l H H') (h : SqT K H a xs) : SqT K H' a xs := by
  rcases h with (h | ⟨o, h⟩) | h
  · obtain ⟨h1, h2⟩ := D.off_tup h
    exact .inl (.inl (e _ _ h h1 h2))
  · obtain ⟨h1, h2⟩ := D.off_frz h
    exact .inl (.inr ⟨o, e _ _ h h1 h2⟩)
  · exact .inr h
theorem But.upd {p : Addr} {o : HO} (h : H p = none) (e : But d l H H') : But d l H (upd H' p o) := fun b u q h1 h2 => by
  rw [upd_ne (ne_of_none q h)]
  exact e b u q h1 h2
theorem Deck.upd {p : Addr} {o : HO} (D : Deck kL H d l) (h1 : p ≠ d) (h2 : p ≠ l) : Deck kL (upd H p o) d l := by
  obtain ⟨m, n, cs, e1, e2, e3⟩ := D.ex
  exact ⟨m, n, cs, by rw [upd_ne h1.symm]; exact e1, by rw [upd_ne h2.symm]; exact e2, e3⟩
end
theorem ints_lay : ∀ ns : List Int, PyData.canLayAll0 (ns.map PyData.int) = true
  | [] => by simp only [List.map_nil, PyData.canLayAll0]
  | n :: r => by
    simp only [List.map_cons, PyData.canLayAll0, PyData.canLay0, ints_lay r, Bool.and_self]
theorem ints_depth : ∀ ns : List Int, PyData.depthAll (ns.map PyData.int) = 0
  | [] => by simp only [List.map_nil, PyData.depthAll]
  | n :: r => by
    simp only [List.map_cons, PyData.depthAll, PyData.depth, ints_depth r, Nat.max_self]
theorem lst_shaped (ns : List Int) : SeqAt.shaped (.list (ns.map PyData.int)) = true := by
  unfold SeqAt.shaped
  simp only [PyData.canLay0, PyData.depth, ints_lay, ints_depth]
  decide
theorem tup_shaped (ns : List Int) : SeqAt.shaped (.tuple (ns.map PyData.int)) = true := by
  unfold SeqAt.shaped
  simp only [PyData.canLay0, PyData.depth, ints_lay, ints_depth]
  decide
theorem dp_ints {K : PySem.W.Frag} {H : Hp} : ∀ ns : List Int, DpAll K H (ns.map V.int) (ns.map PyData.int)
  | [] => .nil
  | n :: r => .cons (.int n) (dp_ints r)
theorem eqv_lnil (ns : List Int) : PyData.eqv (.list (ns.map PyData.int)) (.list []) = ns.isEmpty := by
  cases ns with
  | nil => simp only [List.map_nil, PyData.eqv, PyData.eqvAll, List.isEmpty_nil]
  | cons a r => simp only [List.map_cons, PyData.eqv, PyData.eqvAll, List.isEmpty_cons]
theorem eqv_tnil (ns : List Int) : PyData.eqv (.tuple (ns.map PyData.int)) (.tuple []) = ns.isEmpty := by
  cases ns with
  | nil => simp only [List.map_nil, PyData.eqv, PyData.eqvAll, List.isEmpty_nil]
  | cons a r => simp only [List.map_cons, PyData.eqv, PyData.eqvAll, List.isEmpty_cons]
theorem ne_nil_rd {K : PySem.W.Frag} {H : Hp} {l p : Addr} {ns : List Int} {Q : VK} (h : SqL K H l (ns.map V.int)) (hp : SqL K H p []) (q : Q (.bl (!ns.isEmpty)) H) : rNeD K (.ref l) (.ref p) H Q := by
  refine ⟨.list (ns.map PyData.int), .list [], .lst h (dp_ints ns), .lst hp .nil, lst_shaped ns, lst_shaped [], ?_⟩
  rw [eqv_lnil]
  exact q
theorem tne_nil_rd {K : PySem.W.Frag} {H : Hp} {l p : Addr} {ns : List Int} {Q : VK} (h : SqT K H l (ns.map V.int)) (hp : SqT K H p []) (q : Q (.bl (!ns.isEmpty)) H) : rNeD K (.ref l) (.ref p) H Q := by
  refine ⟨.tuple (ns.map PyData.int), .tuple [], .tup h (dp_ints ns), .tup hp .nil, tup_shaped ns, tup_shaped [], ?_⟩
  rw [eqv_tnil]
  exact q
end MB
end
section
set_option maxRecDepth 100000
namespace MB
open PySem PySem.Spec PyProof.Rows L2
def hide (d l : Addr) (H : Hp) : Hp := fun b => if b = d ∨ b = l then none else H b
section
variable {d l p : Addr} {H H' : Hp} {o : HO} {kL : Str} {K : PySem.W.Frag}
theorem hide_off (h1 : p ≠ d) (h2 : p ≠ l) : hide d l H p = H p := if_neg fun z => z.elim h1 h2
theorem hide_sub : Same (hide d l H) H := fun b u e => by
  unfold hide at e
  split at e
  · cases e
  · exact e
theorem hide_none (h : H p = none) : hide d l H p = none := by
  unfold hide
  split
  · rfl
  · exact h
theorem But.hide (e : But d l H H') : Same (MB.hide d l H) (MB.hide d l H') := fun b u q => by
  unfold MB.hide at q ⊢
  split at q
  · cases q
  · rename_i n
    rw [if_neg n]
    exact e b u q (fun z => n (.inl z)) fun z => n (.inr z)
theorem hide_upd (h1 : p ≠ d) (h2 : p ≠ l) : hide d l (upd H p o) = upd (hide d l H) p o := by
  funext b
  by_cases hb : b = p
  · subst hb
    rw [hide_off h1 h2, upd_same, upd_same]
  · rw [upd_ne hb]
    unfold hide
    rw [upd_ne hb]
theorem Deck.new (D : Deck kL H d l) (h : H p = none) : hide d l (L2.upd H p o) = L2.upd (hide d l H) p o := hide_upd (D.off h).1 (D.off h).2
theorem Deck.same_new (D : Deck kL H d l) (h : H p = none) : Same (hide d l H) (hide d l (L2.upd H p o)) := by
  rw [D.new h]
  exact fun b u q => by
    rw [upd_ne (ne_of_none q (hide_none h))]
    exact q
theorem Deck.at_new (D : Deck kL H d l) (h : H p = none) : hide d l (L2.upd H p o) p = some o := by
  rw [D.new h, upd_same]
theorem sqT_hide (D : Deck kL H d l) {a : Addr} {xs : List V} (h : SqT K H a xs) : SqT K (hide d l H) a xs := by
  rcases h with (h | ⟨o, h⟩) | h
  · obtain ⟨h1, h2⟩ := D.off_tup h
    exact .inl (.inl ((hide_off h1 h2).trans h))
  · obtain ⟨h1, h2⟩ := D.off_frz h
    exact .inl (.inr ⟨o, (hide_off h1 h2).trans h⟩)
  · exact .inr h
theorem same_hide (e : Same H H') : Same (hide d l H) (hide d l H') := (But.of e).hide
def SqAny (K : PySem.W.Frag) (H : Hp) (a : Addr) (xs : List V) : Prop := SqT K H a xs ∨ SqL K H a xs
theorem SqAny.same {a : Addr} {xs : List V} (h : SqAny K H a xs) (e : Same H H') : SqAny K H' a xs := by
  rcases h with h | h
  · exact .inl (sqT_same e h)
  · exact .inr (sqL_same e h)
end
end MB
end
section
set_option maxRecDepth 100000
set_option maxHeartbeats 4000000
namespace MB
open PySem PySem.Spec PyProof.Rows L2 LamX
def noT (H : Hp) : Hp := fun b => match H b with
  | some (.tbl _) => none
  | o => o
section
variable {H H' : Hp}
theorem noT_sub : Same (noT H) H := fun b u e => by
  unfold noT at e
  split at e
  · cases e
  · exact e
theorem noT_some {b : Addr} {o : HO} (h : H b = some o) (n : ∀ ps, o ≠ .tbl ps) : noT H b = some o := by
  unfold noT
  split
  · rename_i ps e
    rw [h] at e
    exact absurd (Option.some.inj e) (n ps)
  · exact h
theorem noT_at {b : Addr} {o : HO} (h : noT H b = some o) : ∀ ps, o ≠ .tbl ps := fun ps z => by
  subst z
  have e := noT_sub _ _ h
  unfold noT at h
  rw [e] at h
  cases h
theorem extN_noT (e : ExtN H H') : Same (noT H) (noT H') := fun b o h => noT_some (e b o (noT_sub _ _ h) (noT_at h)) (noT_at h)
theorem same_extN (e : Same H H') : ExtN H H' := .of e
theorem same_noT (e : Same H H') : Same (noT H) (noT H') := extN_noT (.of e)
theorem noT_none {p : Addr} (h : H p = none) : noT H p = none := by
  unfold noT
  rw [h]
theorem sqT_noT {K : PySem.W.Frag} {a : Addr} {xs : List V} (h : SqT K H a xs) : SqT K (noT H) a xs := by
  rcases h with (h | ⟨o, h⟩) | h
  · exact .inl (.inl (noT_some h (by intro ps z; cases z)))
  · exact .inl (.inr ⟨o, noT_some h (by intro ps z; cases z)⟩)
  · exact .inr h
theorem sqL_noT {K : PySem.W.Frag} {a : Addr} {xs : List V} (h : SqL K H a xs) : SqL K (noT H) a xs := by
  rcases h with (h | ⟨o, h⟩) | h
  · exact .inl (.inl (noT_some h (by intro ps z; cases z)))
  · exact .inl (.inr ⟨o, noT_some h (by intro ps z; cases z)⟩)
  · exact .inr h
mutual
theorem Dq.noT {K : PySem.W.Frag} : ∀ (d : PyData) (v : V), Dq K H v d → Dq K (noT H) v d
  | .none, _, h => by cases h; exact .non
  | .bool b, _, h => by cases h; exact .bl b
  | .int i, _, h => by cases h; exact .int i
  | .str x, _, h => by cases h; exact .str x
  | .list ds, _, h => by
    cases h with
    | lst h1 h2 => exact .lst (sqL_noT h1) (DqAll.noT ds _ h2)
  | .tuple ds, _, h => by
    cases h with
    | tup h1 h2 => exact .tup (sqT_noT h1) (DqAll.noT ds _ h2)
  | .dict ds, _, h => by
    cases h with
    | dic h1 h2 => exact .dic (noT_some h1 (by intro ps z; cases z)) (DqKv.noT ds _ h2)
theorem DqAll.noT {K : PySem.W.Frag} : ∀ (ds : List PyData) (vs : List V), DqAll K H vs ds → DqAll K (noT H) vs ds
  | [], _, h => by cases h; exact .nil
  | d :: ds, _, h => by
    cases h with
    | cons h1 h2 => exact .cons (Dq.noT d _ h1) (DqAll.noT ds _ h2)
theorem DqKv.noT {K : PySem.W.Frag} : ∀ (ds : List (PyData × PyData)) (kvs : List (Key × V)), DqKv K H kvs ds → DqKv K (noT H) kvs ds
  | [], _, h => by cases h; exact .nil
  | (_, d) :: ds, _, h => by
    cases h with
    | cons h1 h2 => exact .cons (Dq.noT d _ h1) (DqKv.noT ds _ h2)
end
theorem Dq.extN {K : PySem.W.Frag} {d : PyData} {v : V} (e : ExtN H H') (h : Dq K H v d) : Dq K H' v d := Dq.same noT_sub _ _ (Dq.same (extN_noT e) _ _ (Dq.noT _ _ h))
theorem SqT.extN {K : PySem.W.Frag} {a : Addr} {xs : List V} (e : ExtN H H') (h : SqT K H a xs) : SqT K H' a xs := sqT_same noT_sub (sqT_same (extN_noT e) (sqT_noT h))
theorem SqL.extN {K : PySem.W.Frag} {a : Addr} {xs : List V} (e : ExtN H H') (h : SqL K H a xs) : SqL K H' a xs := sqL_same noT_sub (sqL_same (extN_noT e) (sqL_noT h))
end
structure FunL (K : PySem.W.Frag) (x qual : Str) (st : Stmt) (f : Addr) (fd : FuncData) (c : Addr) : Prop where
  ex : ∃ (oc : Value) (od : Option Addr) (kV doc pm : Value) (an : Option Addr) (ct : Value) (osl : Array (Option Value)),
    fd = PySem.W.fnOf x qual (defArgs st) (defBody st) (defScope st) .none kV doc pm an (.ref c) ct ∧ K.lookup f = some ⟨oc, od, .func fd, osl⟩ ∧ PySem.W.codeIn K (.ref c) qual = true
  kp : PySem.W.keepIn K (.ref f) = true
theorem FunL.bindsL {K : PySem.W.Frag} {x qual : Str} {st : Stmt} {f c : Addr} {fd : FuncData} {ps : List Str} (F : FunL K x qual st f fd c)
    (h : ∀ (kV doc pm : Value) (an : Option Addr) (cdv ct : Value) (us : List Value), us.length = ps.length → bindArgs (PySem.W.fnOf x qual (defArgs st) (defBody st) (defScope st) .none kV doc pm an cdv ct) ⟨us, []⟩ = pure (ps.zip us)) : L2.Binds K fd ps [] := by
  obtain ⟨oc, od, kV, doc, pm, an, ct, osl, rfl, lk, hcd⟩ := F.ex
  exact .all (h kV doc pm an (.ref c) ct)
theorem funL_mk {K : PySem.W.Frag} {x qual : Str} {st : Stmt} {f c : Addr} {oc : Value} {od an : Option Addr} {osl : Array (Option Value)} {kV doc pm ct : Value} (l : K.lookup f = some ⟨oc, od, .func (PySem.W.fnOf x qual (defArgs st) (defBody st) (defScope st) .none kV doc pm an (.ref c) ct), osl⟩)
    (cd : PySem.W.codeIn K (.ref c) qual = true) (k : PySem.W.keepIn K (.ref f) = true) : FunL K x qual st f (PySem.W.fnOf x qual (defArgs st) (defBody st) (defScope st) .none kV doc pm an (.ref c) ct) c := ⟨⟨oc, od, kV, doc, pm, an, ct, osl, rfl, l, cd⟩, k⟩
section
variable {P : Program} {w : World} {K : PySem.W.Frag} {mg : Str → Option Value} {base : Heap}
variable {k : Nat} {f : Addr} {fd : FuncData} {ps : List Str} {sp : Sp}
theorem fnGL {x qual : Str} {st : Stmt} {N : List Str} {c : Addr} (F : FunL K x qual st f fd c)
    (S : FnScope N ps (defScope st)) (many : ∀ xs H Q E, sp xs H Q E → xs.length = ps.length)
    (body : ∀ (A : Around) (outer : List Env) (s : Shared) (H : Hp) (xs : List V)
      (Q : VK) (E : XK),
      Room k (A.deeper (envOfC qual (defScope st) s.heap.objs.size f (.ref c))) → A.guards = some [] →
      sp xs H Q E → ∃ t, PSs (cxOf L2.CX0 P w K mg base N qual (defScope st) f (.ref c) A outer s H E).nox (defBody st) t ∧
        t { nx := fun _ H' => Q .non H', rt := Q } (L2.start N xs) H) :
    FnG P w K mg base (k + 1) f fd ps sp := by
  obtain ⟨oc, od, kV, doc, pm, an, ct, osl, efd, lk, hcd⟩ := F.ex
  refine ⟨many, fun A outer s H args us xs Q E hr hgu e0 hb r hsp => ?_⟩
  subst efd
  have hlen := many _ _ _ _ hsp
  have KX : K.In s.heap := e0.mod.kin.keeps fun b o e => (e0.bs b o e).1
  have lim : s.heap.NoLimit := e0.mod.nolimit.keeps fun b o e => (e0.bs b o e).1
  have kinds : ∀ y ∈ ps.zip us, (defScope st).names.lookup y.1 = some .local ∨
      ((defScope st).names.lookup y.1 = some .cell ∧
        ((cellsFrom (s.heap.objs.size + 1) (defScope st).names []).lookup y.1).isSome = true) := by
    rintro ⟨n, v⟩ hy
    rcases S.par n (List.of_mem_zip hy).1 with q | q
    · exact Or.inl q
    · exact Or.inr ⟨q, PySem.W.cellsFrom_some _ _ _ (Or.inl q)⟩
  refine codeAny_call_function hr.depth (KX _ _ lk) rfl S.co S.gen rfl
    (PySem.W.codeRec_of KX hcd) (hb _ _ _ _ ?_)
  refine wpAny_newFunctionEnv_cells S.kind kinds fun env he s1 x => ?_
  subst he
  refine ⟨lim.keeps x.toInCall.keep, codeAny_func ?_⟩
  obtain ⟨t, ht, hq⟩ := body A outer s H xs Q E (hr.deeper _) hgu hsp
  have I : Inv (cxOf L2.CX0 P w K mg base N qual (defScope st) f (.ref c) A outer s H E) [] (L2.start N xs) H s1 :=
    inv_start S hr.hd e0 hlen r x
  refine wpAny_mono (ht.nox.run [] s1 (L2.start N xs) H _ I hq) (fun fl s' hs => ?_) fun e s' hs => hs
  cases fl with
  | ret u =>
    obtain ⟨v, σ', H', J, rv, q⟩ := hs
    exact ⟨v, H', J.os, J.bare, J.base, J.hok, rv, q⟩
  | next =>
    obtain ⟨σ', H', J, q⟩ := hs
    exact ⟨V.non, H', J.os, J.bare, J.base, J.hok, rfl, q⟩
  | brk =>
    obtain ⟨_, _, _, q⟩ := hs
    exact False.elim q
  | cont =>
    obtain ⟨_, _, _, q⟩ := hs
    exact False.elim q
end
def tDeed (n : Nat) (f c' : Addr) (q : Str) (tl : XK → Hp → VK → Prop) (W : WX) : TE := fun σ H Q =>
  ∃ E : XK, (∀ cls d σ' H', E cls d H' → σ'.length = n → W cls d σ' H') ∧ σ[0]? = some (some (.ref f)) ∧ H c' = some (CodeO c' q) ∧ tl E H Q
theorem Takes.len {X : Cx} {W : WX} (tk : L2.Takes X W) : L2.Takes X (fun cls d σ H => σ.length = X.N.length → W cls d σ H) :=
  fun u s' ⟨a, B, sI, pins, σ, H, cls, d, e, I, nb, up, sky, na, os, ag, w⟩ => tk u s' ⟨a, B, sI, pins, σ, H, cls, d, e, I, nb, up, sky, na, os, ag, w I.len⟩
theorem pe_deed {Z : Cx} (n : Nat) {a q : Str} {f c' : Addr} {tl : XK → Hp → VK → Prop} {p1 p2 : Pos} {W : WX}
    (act : ∀ (W : WX) (E : XK) (p1 p2 : Pos), L2.Takes Z W → (∀ cls d σ' H', E cls d H' → W cls d σ' H') →
      PE Z (.Call (.Name a p1) [] [] p2) (fun σZ HZ Q => σZ[0]? = some (some (.ref f)) ∧ HZ c' = some (CodeO c' q) ∧ tl E HZ Q)) (tk : L2.Takes Z W) (hn : Z.N.length = n := by rfl) :
    PE Z (.Call (.Name a p1) [] [] p2) (tDeed n f c' q tl W) := by
  subst hn
  refine ⟨fun pins s σ H Q I h => ?_⟩
  obtain ⟨E, hW, h1, h2, h3⟩ := h
  refine (act (fun cls d σ H => σ.length = Z.N.length → W cls d σ H) E p1 p2 (Takes.len tk) (fun cls d σ' H' e l => hW cls d σ' H' e l)).run pins s σ H Q I ⟨h1, h2, h3⟩
section
variable {X : Cx}
theorem pe_tell {T : List (Addr × Str)} {TT : (XK → Hp → VK → Prop) → Hp → VK → Prop} {x a : Str} {g c P : Addr} {k : Nat} {st : Stmt} {fd : FuncData} {Ng : List Str}
    {params : Arguments} {body : Expr} {scope : Scope} {t : XK → TE} {p lpos pos : Pos} (F : Fun X.K x x st g fd) (hb : L2.Binds X.K fd [a] []) (hg : Gl X x) (hm : X.mg x = some (.ref g))
    (Sg : FnScope Ng [a] (defScope st)) (hNg : Ng[0]? = some a) (hva : Vis (defScope st) a)
    (hG : ∀ cdv, GivesTo X Ng x (defScope st) g cdv (defBody st) a (X.env.qual ++ "<lambda>") TT)
    (TB : TabB X.base X.mg c P) (hcode : X.env.code = .ref c) (hmT : (P, X.env.qual ++ "<lambda>") ∈ T) (hu : ∀ p ∈ T, p.1 = P → p.2 = X.env.qual ++ "<lambda>") (hr : Room (k + 2) X.A) (L : LamS X.env.scope scope) (hdef : defaultsOf params X.env = ([], []))
    (hbind : ∀ (q : Str) (cl : List (Str × Addr)) (pm cv ctv : Value), bindArgs (PySem.W.kla_fn "<lambda>" q params body scope cl pm cv ctv) ⟨[], []⟩ = pure [])
    (hbody : ∀ (A : Around) (outer : List Env) (s : Shared) (H : Hp) (E : XK) (f c' : Addr), Room k (A.deeper (lamEnv X scope s.heap.objs.size f c')) → PE (lamCx X A outer s H E scope f c') body (t E))
    (hdb : (x == ("__debug__" : Str)) = false := by decide) (hd : (a == ("__debug__" : Str)) = false := by decide) (hcd : (a == ("__classdict__" : Str)) = false := by decide) :
    PE X (.Call (.Name x p) [.Lambda params body scope lpos] [] pos) (tLam T TT t) := by
  obtain ⟨oc, od, kV, doc, pm, an, cdv, ct, osl, rfl, lk, hcg⟩ := F.ex
  exact pe_lamcall hg hm F.kp lk hcg hb Sg hNg hva (hG cdv) TB hcode hmT hu hr L hdef hbind hbody hdb hd hcd
end
end MB
end
section
set_option maxRecDepth 100000
namespace MB
open PySem PySem.Spec PyProof.Rows L2
def TD (K : PySem.W.Frag) (d l : Addr) (H0 : Hp) (σ : L2.St) (t : TE) (dd : PyData) : Prop :=
  ∀ H Q, Same H0 H → (∀ v H', Same H H' → Dq K (hide d l H') v dd → Q v H') → t σ H Q
def TDs (K : PySem.W.Frag) (d l : Addr) (H0 : Hp) (σ : L2.St) (t : TA) (ds : List PyData) : Prop :=
  ∀ H Q, Same H0 H → (∀ vs H', Same H H' → DqAll K (hide d l H') vs ds → Q vs H') → t σ H Q
def TL (K : PySem.W.Frag) (d l : Addr) (H0 : Hp) (σ : L2.St) (t : TE) (ds : List PyData) : Prop :=
  ∀ H Q, Same H0 H → (∀ a xs H', Same H H' → a ≠ d → a ≠ l → H' a = some (.lst xs) → DqAll K (hide d l H') xs ds → Q (.ref a) H') → t σ H Q
theorem DqAll.app {K : PySem.W.Frag} {H : Hp} : ∀ {xs ys : List V} {ds es : List PyData}, DqAll K H xs ds → DqAll K H ys es → DqAll K H (xs ++ ys) (ds ++ es)
  | _, _, _, _, .nil, h => h
  | _, _, _, _, .cons h1 h2, h => .cons h1 (h2.app h)
theorem DqAll.drop {K : PySem.W.Frag} {H : Hp} : ∀ {xs : List V} {ds : List PyData} (n : Nat), DqAll K H xs ds → DqAll K H (xs.drop n) (ds.drop n)
  | _, _, 0, h => h
  | _, _, _ + 1, .nil => .nil
  | _, _, n + 1, .cons _ h2 => h2.drop n
theorem DqAll.take {K : PySem.W.Frag} {H : Hp} : ∀ {xs : List V} {ds : List PyData} (n : Nat), DqAll K H xs ds → DqAll K H (xs.take n) (ds.take n)
  | _, _, 0, _ => .nil
  | _, _, _ + 1, .nil => .nil
  | _, _, n + 1, .cons h1 h2 => .cons h1 (h2.take n)
theorem DqAll.rev {K : PySem.W.Frag} {H : Hp} : ∀ {xs : List V} {ds : List PyData}, DqAll K H xs ds → DqAll K H xs.reverse ds.reverse
  | _, _, .nil => .nil
  | _, _, .cons h1 h2 => by
    rw [List.reverse_cons, List.reverse_cons]
    exact h2.rev.app (.cons h1 .nil)
theorem DqAll.rep {K : PySem.W.Frag} {H : Hp} {xs : List V} {ds : List PyData} (h : DqAll K H xs ds) : ∀ n : Nat, DqAll K H (List.replicate n xs).flatten (List.replicate n ds).flatten
  | 0 => .nil
  | n + 1 => by
    rw [List.replicate_succ, List.replicate_succ, List.flatten_cons, List.flatten_cons]
    exact h.app (h.rep n)
theorem DqAll.mem {K : PySem.W.Frag} {H : Hp} : ∀ {xs : List V} {ds : List PyData} {x : V}, DqAll K H xs ds → x ∈ xs → ∃ dd ∈ ds, Dq K H x dd
  | _, _, _, .nil, hx => by cases hx
  | _, _, _, .cons h1 h2, hx => by
    rcases List.mem_cons.mp hx with rfl | hx
    · exact ⟨_, List.mem_cons_self, h1⟩
    · obtain ⟨dd, m, q⟩ := h2.mem hx
      exact ⟨dd, List.mem_cons_of_mem _ m, q⟩
theorem DqAll.at {K : PySem.W.Frag} {H : Hp} : ∀ {xs : List V} {ds : List PyData} {i : Nat} {dd : PyData}, DqAll K H xs ds → ds[i]? = some dd → ∃ x, xs[i]? = some x ∧ Dq K H x dd
  | _, _, _, _, .nil, e => by simp at e
  | _, _, 0, _, .cons h1 _, e => by
    obtain rfl := Option.some.inj e
    exact ⟨_, rfl, h1⟩
  | _, _, i + 1, _, .cons _ h2, e => h2.at (i := i) e
theorem same_upd' {H : Hp} {p : Addr} {o : HO} (h : H p = none) : Same H (upd H p o) := fun b u e => by
  rw [upd_ne (ne_of_none e h)]
  exact e
def cutD (ds : List PyData) (lo hi : Option Int) : List PyData := (ds.drop (HT.sIx ds.length 0 lo)).take (HT.sIx ds.length ds.length hi - HT.sIx ds.length 0 lo)
theorem DqAll.cut {K : PySem.W.Frag} {H : Hp} {xs : List V} {ds : List PyData} (h : DqAll K H xs ds) (lo hi : Option Int) : DqAll K H (cutV xs lo hi) (cutD ds lo hi) := by
  unfold cutV cutD
  rw [h.length]
  exact (h.drop _).take _
section
variable {K : PySem.W.Frag} {d l : Addr} {H0 : Hp} {σ : L2.St} {kL : Str}
theorem tds_nil : TDs K d l H0 σ tNil [] := fun H Q _ q => q [] H (Same.refl _) .nil
theorem tds_cons {t : TE} {ts : TA} {dd : PyData} {ds : List PyData} (h : TD K d l H0 σ t dd) (hs : TDs K d l H0 σ ts ds) : TDs K d l H0 σ (tCons t ts) (dd :: ds) :=
  fun H Q s q => h H _ s fun v H1 s1 hv => hs H1 _ (s.trans s1) fun vs H2 s2 hvs => q (v :: vs) H2 (s1.trans s2) (.cons (Dq.same (same_hide s2) _ _ hv) hvs)
theorem td_pure {t : TE} {v : V} {dd : PyData} (h : ∀ H Q, Q v H → t σ H Q) (hd : ∀ H, Dq K H v dd) : TD K d l H0 σ t dd :=
  fun H Q _ q => h H Q (q v H (Same.refl _) (hd _))
theorem td_none : TD K d l H0 σ (tC .non) .none := td_pure (fun _ _ q => q) fun _ => .non
theorem td_bool {b : Bool} : TD K d l H0 σ (tC (.bl b)) (.bool b) := td_pure (fun _ _ q => q) fun _ => .bl b
theorem td_int {i : Int} : TD K d l H0 σ (tC (.int i)) (.int i) := td_pure (fun _ _ q => q) fun _ => .int i
theorem td_str {x : Str} : TD K d l H0 σ (tC (.str x)) (.str x) := td_pure (fun _ _ q => q) fun _ => .str x
theorem td_pow {i j : Int} (h : CPow i j) : TD K d l H0 σ (tOp (rI CPow fun i j => .int (i ^ j.toNat)) (tC (.int i)) (tC (.int j))) (.int (i ^ j.toNat)) :=
  td_pure (fun _ _ q => ⟨i, j, rfl, rfl, h, q⟩) fun _ => .int _
theorem td_npow {i j : Int} (h : CPow i j) : TD K d l H0 σ (tUn (rU fun i => .int (-i)) (tOp (rI CPow fun i j => .int (i ^ j.toNat)) (tC (.int i)) (tC (.int j)))) (.int (-(i ^ j.toNat))) :=
  td_pure (fun _ _ q => ⟨i, j, rfl, rfl, h, _, rfl, q⟩) fun _ => .int _
theorem td_neg {i : Int} : TD K d l H0 σ (tUn (rU fun i => .int (-i)) (tC (.int i))) (.int (-i)) := td_pure (fun _ _ q => ⟨_, rfl, q⟩) fun _ => .int _
theorem td_var {i : Nat} {v : V} {dd : PyData} (e : σ[i]? = some (some v)) (h : Dq K (hide d l H0) v dd) : TD K d l H0 σ (tVar i) dd :=
  fun H Q s q => ⟨v, e, q v H (Same.refl _) (Dq.same (same_hide s) _ _ h)⟩
variable (D : Deck kL H0 d l)
include D
theorem td_tup {ts : TA} {ds : List PyData} (h : TDs K d l H0 σ ts ds) (hl : ds.length ≤ 100000 := by decide) : TD K d l H0 σ (tTup ts) (.tuple ds) :=
  fun H Q s q => h H _ s fun vs H1 s1 hv => ⟨by rw [hv.length]; exact Nat.le_trans hl (by rw [sizeLine_eq]; decide), fun p hp => by
    have D1 := D.same (s.trans s1)
    exact q _ _ (s1.trans (same_upd' hp)) (.tup (SqT.of (D1.at_new hp)) (DqAll.same (D1.same_new hp) _ _ hv))⟩
theorem td_lst {ts : TA} {ds : List PyData} (h : TDs K d l H0 σ ts ds) (hl : ds.length ≤ 100000 := by decide) : TD K d l H0 σ (tLst ts) (.list ds) :=
  fun H Q s q => h H _ s fun vs H1 s1 hv => ⟨by rw [hv.length]; exact Nat.le_trans hl (by rw [sizeLine_eq]; decide), fun p hp => by
    have D1 := D.same (s.trans s1)
    exact q _ _ (s1.trans (same_upd' hp)) (.lst (SqL.of (D1.at_new hp)) (DqAll.same (D1.same_new hp) _ _ hv))⟩
theorem td_dict0 : TD K d l H0 σ tDNewK (.dict []) := fun H Q s q p hp => by
  have D1 := D.same s
  exact q _ _ (same_upd' hp) (.dic (D1.at_new hp) .nil)
theorem tl_lst {ts : TA} {ds : List PyData} (h : TDs K d l H0 σ ts ds) (hl : ds.length ≤ 100000 := by decide) : TL K d l H0 σ (tLst ts) ds :=
  fun H Q s q => h H _ s fun vs H1 s1 hv => ⟨by rw [hv.length]; exact Nat.le_trans hl (by rw [sizeLine_eq]; decide), fun p hp => by
    have D1 := D.same (s.trans s1)
    exact q _ vs _ (s1.trans (same_upd' hp)) (D1.off hp).1 (D1.off hp).2 upd_same (DqAll.same (D1.same_new hp) _ _ hv)⟩
end
end MB
namespace MB
open PySem PySem.Spec PyProof.Rows L2
section
variable {K : PySem.W.Frag} {d l : Addr} {H0 : Hp} {σ : L2.St} {kL : Str}
theorem tl_var {i : Nat} {a : Addr} {xs : List V} {ds : List PyData} (e : σ[i]? = some (some (.ref a))) (h1 : a ≠ d) (h2 : a ≠ l) (hx : H0 a = some (.lst xs)) (h : DqAll K (hide d l H0) xs ds) : TL K d l H0 σ (tVar i) ds :=
  fun H Q s q => ⟨_, e, q a xs H (Same.refl _) h1 h2 (s _ _ hx) (DqAll.same (same_hide s) _ _ h)⟩
variable (D : Deck kL H0 d l)
include D
theorem tl_cat {ta tb : TE} {ds es : List PyData} (ha : TL K d l H0 σ ta ds) (hb : TL K d l H0 σ tb es) (hl : ds.length + es.length ≤ 100000 := by decide) : TL K d l H0 σ (tOp rCat ta tb) (ds ++ es) :=
  fun H Q s q => ha H _ s fun a xs H1 s1 a1 a2 hx hxs => hb H1 _ (s.trans s1) fun b ys H2 s2 b1 b2 hy hys => by
    refine ⟨a, b, xs, ys, rfl, rfl, s2 _ _ hx, hy, by rw [hxs.length, hys.length]; exact Nat.le_trans hl (by rw [sizeLine_eq]; decide), fun p hp => ?_⟩
    have D2 := D.same ((s.trans s1).trans s2)
    refine q p _ _ ((s1.trans s2).trans (same_upd' hp)) (D2.off hp).1 (D2.off hp).2 upd_same (DqAll.same (D2.same_new hp) _ _ ?_)
    exact DqAll.app (DqAll.same (same_hide s2) _ _ hxs) hys
theorem tl_rep {ta : TE} {ds : List PyData} {k : Int} (ha : TL K d l H0 σ ta ds) (h0 : 0 ≤ k := by decide) (hk : k ≤ 1000 := by decide) (hl : ds.length * k.toNat ≤ 100000 := by decide) :
    TL K d l H0 σ (tOp rRep ta (tC (.int k))) (List.replicate k.toNat ds).flatten :=
  fun H Q s q => ha H _ s fun a xs H1 s1 a1 a2 hx hxs => by
    refine ⟨a, k, xs, rfl, rfl, hx, by omega, by omega, by rw [hxs.length]; exact Nat.le_trans hl (by rw [sizeLine_eq]; decide), fun p hp => ?_⟩
    have D1 := D.same (s.trans s1)
    exact q p _ _ (s1.trans (same_upd' hp)) (D1.off hp).1 (D1.off hp).2 upd_same (DqAll.same (D1.same_new hp) _ _ (hxs.rep _))
theorem td_dict1 {k : Str} {i j : Int} : TD K d l H0 σ (tDisp [(tC (.str k), tTup (tCons (tC (.int i)) (tCons (tC (.int j)) tNil)))]) (.dict [(.str k, .tuple [.int i, .int j])]) := fun H Q s q p hp => by
  refine ⟨by rw [sizeLine_eq]; exact (by decide : 2 ≤ 16777216), fun t ht => ?_⟩
  have D1 := D.same s
  have h1 : (upd H p (.dK [])) p = some (.dK []) := upd_same
  have htp : t ≠ p := (ne_of_none h1 ht).symm
  have htH : H t = none := by
    rw [upd_ne htp] at ht
    exact ht
  refine ⟨(upd_ne htp.symm).trans h1, [(.inr k, .ref t)], rfl, (by decide : 1 ≤ 15), ?_⟩
  have e0 : Same H (upd (upd (upd H p (.dK [])) t (.tup [.int i, .int j])) p (.dK (mergeK [] [(.inr k, .ref t)]))) := fun b u z => by
    rw [upd_ne (ne_of_none z hp), upd_ne (ne_of_none z htH), upd_ne (ne_of_none z hp)]
    exact z
  refine q _ _ e0 (.dic (kvs := [(.inr k, .ref t)]) ?_ (.cons (k := .inr k) (.tup (xs := [.int i, .int j]) (SqT.of ?_) (.cons (.int i) (.cons (.int j) .nil))) .nil))
  · rw [hide_off (D1.off hp).1 (D1.off hp).2, upd_same]
    rfl
  · rw [hide_off (D1.off htH).1 (D1.off htH).2, upd_ne htp, upd_same]
theorem td_listOf {t : TE} {ds : List PyData} (h : TD K d l H0 σ t (.tuple ds)) :
    TD K d l H0 σ (tCB (fun xs H Q => ∃ p ys, xs = [V.ref p] ∧ (SqL K H p ys ∨ SqT K H p ys) ∧ ∀ l : Addr, H l = none → Q (V.ref l) (upd H l (.lst ys))) (tCons t tNil)) (.list ds) :=
  fun H Q s q => h H _ s fun v H1 s1 hv => by
    cases hv with
    | @tup a xs _ h1 h2 =>
      refine ⟨a, xs, rfl, .inr (sqT_same hide_sub h1), fun p hp => ?_⟩
      have D1 := D.same (s.trans s1)
      exact q _ _ (s1.trans (same_upd' hp)) (.lst (SqL.of (D1.at_new hp)) (DqAll.same (D1.same_new hp) _ _ h2))
theorem td_catT {ta tb : TE} {ds es : List PyData} (ha : TD K d l H0 σ ta (.tuple ds)) (hb : TD K d l H0 σ tb (.tuple es)) (hl : ds.length + es.length ≤ 100000) :
    TD K d l H0 σ (tOp (rCatA K) ta tb) (.tuple (ds ++ es)) :=
  fun H Q s q => ha H _ s fun v H1 s1 hv => hb H1 _ (s.trans s1) fun u H2 s2 hu => by
    cases hv with
    | @tup a xs _ h1 h2 =>
      cases hu with
      | @tup b ys _ h3 h4 =>
        have h1' := sqT_same (same_hide s2) h1
        have h2' := DqAll.same (same_hide s2) _ _ h2
        refine ⟨a, b, xs, ys, rfl, rfl, sqT_same hide_sub h1', sqT_same hide_sub h3, by rw [h2.length, h4.length]; exact Nat.le_trans hl (by rw [sizeLine_eq]; decide), ?_, ?_, ?_⟩
        · intro z
          subst z
          cases h2
          exact q _ _ (s1.trans s2) (.tup h3 h4)
        · intro _ z
          subst z
          cases h4
          exact q _ _ (s1.trans s2) (.tup h1' (by rw [List.append_nil]; exact h2'))
        · intro _ _ p hp
          have D2 := D.same ((s.trans s1).trans s2)
          exact q _ _ ((s1.trans s2).trans (same_upd' hp)) (.tup (SqT.of (D2.at_new hp)) (DqAll.same (D2.same_new hp) _ _ (h2'.app h4)))
theorem td_slice {t : TE} {ds : List PyData} {tl th : TO} {lo hi : Option Int} (h : TD K d l H0 σ t (.tuple ds)) (hlo : ∀ H Q, Q lo H → tl σ H Q) (hhi : ∀ H Q, Q hi H → th σ H Q) :
    TD K d l H0 σ (L2.tSl (rSlA K) t tl th) (.tuple (cutD ds lo hi)) :=
  fun H Q s q => h H _ s fun v H1 s1 hv => hlo H1 _ (hhi H1 _ (by
    cases hv with
    | @tup a xs _ h1 h2 =>
      refine ⟨a, xs, rfl, sqT_same hide_sub h1, fun hw => ?_, fun hw p hp => ?_⟩
      · have e : cutV xs lo hi = xs := by
          unfold cutV
          rw [hw.1, hw.2, List.drop_zero, Nat.sub_zero, List.take_length]
        have z := h2.cut lo hi
        rw [e] at z
        exact q _ _ s1 (.tup h1 z)
      · have D1 := D.same (s.trans s1)
        exact q _ _ (s1.trans (same_upd' hp)) (.tup (SqT.of (D1.at_new hp)) (DqAll.same (D1.same_new hp) _ _ (h2.cut lo hi)))))
theorem td_revT {t : TE} {ds : List PyData} (h : TD K d l H0 σ t (.tuple ds)) : TD K d l H0 σ (tRevT K t) (.tuple ds.reverse) :=
  fun H Q s q => h H _ s fun v H1 s1 hv => by
    cases hv with
    | @tup a xs _ h1 h2 =>
      refine ⟨a, xs, rfl, sqT_same hide_sub h1, fun p hp => ?_⟩
      have D1 := D.same (s.trans s1)
      exact q _ _ (s1.trans (same_upd' hp)) (.tup (SqT.of (D1.at_new hp)) (DqAll.same (D1.same_new hp) _ _ h2.rev))
end
theorem asg_tl {K : PySem.W.Frag} {d l : Addr} {H0 : Hp} {σ : L2.St} {te : TE} {ds : List PyData} {i : Nat} {D : Ends} {H : Hp} (h : TL K d l H0 σ te ds) (s : Same H0 H)
    (k : ∀ a xs H', Same H H' → a ≠ d → a ≠ l → H' a = some (.lst xs) → DqAll K (hide d l H') xs ds → D.nx (σ.set i (some (.ref a))) H') : tAsg te (gName i) D σ H :=
  h H _ s fun a xs H' s1 h1 h2 hx hq => k a xs H' s1 h1 h2 hx hq
theorem seq_tl {K : PySem.W.Frag} {d l : Addr} {H0 : Hp} {σ : L2.St} {te : TE} {ds : List PyData} {i : Nat} {rest : TS} {D : Ends} {H : Hp} (h : TL K d l H0 σ te ds) (s : Same H0 H)
    (k : ∀ a xs H', Same H H' → a ≠ d → a ≠ l → H' a = some (.lst xs) → DqAll K (hide d l H') xs ds → rest D (σ.set i (some (.ref a))) H') : tSeq (tAsg te (gName i)) rest D σ H :=
  h H _ s fun a xs H' s1 h1 h2 hx hq => k a xs H' s1 h1 h2 hx hq
theorem to_no {σ : L2.St} : ∀ H (Q : Option Int → Hp → Prop), Q none H → tNoPart σ H Q := fun _ _ q => q
theorem to_int {σ : L2.St} {i : Int} : ∀ H (Q : Option Int → Hp → Prop), Q (some i) H → tPart (tC (.int i)) σ H Q := fun _ _ q => ⟨i, rfl, q⟩
theorem to_neg {σ : L2.St} {i : Int} : ∀ H (Q : Option Int → Hp → Prop), Q (some (-i)) H → tPart (tUn (rU fun i => .int (-i)) (tC (.int i))) σ H Q := fun _ _ q => ⟨i, rfl, _, rfl, q⟩
end MB
end
section
set_option maxRecDepth 100000
namespace MB
open PySem PySem.Spec PyProof.Rows L2
structure Sz (b k : Nat) (dd : PyData) : Prop where
  sh : dd.showable = true
  lv : dd.leavesShort 60 = true
  bu : dd.bulk ≤ b
  de : dd.depth ≤ k
theorem Sz.told {b k : Nat} {dd : PyData} (h : Sz b k dd) (hb : b ≤ 200000 := by decide) (hk : k ≤ 40 := by decide) : Told dd := ⟨h.sh, h.lv, Nat.le_trans h.bu hb, Nat.le_trans h.de hk⟩
theorem Sz.mono {b k b' k' : Nat} {dd : PyData} (h : Sz b k dd) (hb : b ≤ b' := by decide) (hk : k ≤ k' := by decide) : Sz b' k' dd := ⟨h.sh, h.lv, Nat.le_trans h.bu hb, Nat.le_trans h.de hk⟩
structure SzAll (b k : Nat) (ds : List PyData) : Prop where
  sh : PyData.showableAll ds = true
  lv : PyData.leavesShortAll 60 ds = true
  bu : PyData.bulkAll ds ≤ b
  de : PyData.depthAll ds ≤ k
theorem szAll_nil {b k : Nat} : SzAll b k [] := ⟨rfl, rfl, Nat.zero_le _, Nat.zero_le _⟩
theorem szAll_cons {b b' k : Nat} {dd : PyData} {ds : List PyData} (h : Sz b k dd) (hs : SzAll b' k ds) : SzAll (b + 1 + b') k (dd :: ds) where
  sh := by
    simp only [PyData.showableAll, Bool.and_eq_true]
    exact ⟨h.sh, hs.sh⟩
  lv := by
    simp only [PyData.leavesShortAll, Bool.and_eq_true]
    exact ⟨h.lv, hs.lv⟩
  bu := by
    simp only [PyData.bulkAll]
    have := h.bu
    have := hs.bu
    omega
  de := by
    simp only [PyData.depthAll]
    exact Nat.max_le.mpr ⟨h.de, hs.de⟩
theorem sz_tup {b k : Nat} {ds : List PyData} (h : SzAll b k ds) : Sz b (k + 1) (.tuple ds) where
  sh := by simpa only [PyData.showable] using h.sh
  lv := by simpa only [PyData.leavesShort] using h.lv
  bu := by simpa only [PyData.bulk] using h.bu
  de := by
    simp only [PyData.depth]
    exact Nat.succ_le_succ h.de
theorem sz_lst {b k : Nat} {ds : List PyData} (h : SzAll b k ds) : Sz b (k + 1) (.list ds) where
  sh := by simpa only [PyData.showable] using h.sh
  lv := by simpa only [PyData.leavesShort] using h.lv
  bu := by simpa only [PyData.bulk] using h.bu
  de := by
    simp only [PyData.depth]
    exact Nat.succ_le_succ h.de
theorem sz_none {b k : Nat} : Sz b k .none := ⟨rfl, rfl, Nat.zero_le _, Nat.zero_le _⟩
theorem sz_bool {b k : Nat} {x : Bool} : Sz b k (.bool x) := ⟨rfl, rfl, Nat.zero_le _, Nat.zero_le _⟩
theorem sz_int {b k : Nat} {i : Int} (h : i.natAbs < 10 ^ 42) : Sz b k (.int i) where
  sh := by
    simp only [PyData.showable, decide_eq_true_eq]
    rcases Nat.eq_zero_or_pos i.natAbs with z | z
    · rw [z]
      decide
    · have h2 : i.natAbs < 2 ^ 140 := Nat.lt_trans h (by decide)
      have := (Nat.log2_lt (by omega)).mpr h2
      omega
  lv := by
    simp only [PyData.leavesShort, decide_eq_true_eq]
    have e := int_text_length_le10 (k := 42) (by decide) h
    show (Str.ofString (toString i)).length ≤ 60
    rw [PySem.ofString_length]
    omega
  bu := Nat.zero_le _
  de := Nat.zero_le _
theorem szAll_ints {k : Nat} : ∀ (ns : List Int), (∀ c ∈ ns, c.natAbs < 10 ^ 42) → SzAll ns.length k (ns.map PyData.int)
  | [], _ => szAll_nil
  | c :: r, h => by
    have z := szAll_cons (b := 0) (k := k) (sz_int (h c List.mem_cons_self)) (szAll_ints (k := k) r fun x hx => h x (List.mem_cons_of_mem _ hx))
    rw [List.map_cons, List.length_cons]
    have e : 0 + 1 + r.length = r.length + 1 := by omega
    rw [e] at z
    exact z
theorem SzAll.mono {b k b' k' : Nat} {ds : List PyData} (h : SzAll b k ds) (hb : b ≤ b') (hk : k ≤ k') : SzAll b' k' ds := ⟨h.sh, h.lv, Nat.le_trans h.bu hb, Nat.le_trans h.de hk⟩
theorem showableAll_app : ∀ ds es : List PyData, PyData.showableAll (ds ++ es) = (PyData.showableAll ds && PyData.showableAll es)
  | [], es => by simp only [List.nil_append, PyData.showableAll, Bool.true_and]
  | d :: r, es => by simp only [List.cons_append, PyData.showableAll, showableAll_app r es, Bool.and_assoc]
theorem leavesAll_app (B : Nat) : ∀ ds es : List PyData, PyData.leavesShortAll B (ds ++ es) = (PyData.leavesShortAll B ds && PyData.leavesShortAll B es)
  | [], es => by simp only [List.nil_append, PyData.leavesShortAll, Bool.true_and]
  | d :: r, es => by simp only [List.cons_append, PyData.leavesShortAll, leavesAll_app B r es, Bool.and_assoc]
theorem bulkAll_app : ∀ ds es : List PyData, PyData.bulkAll (ds ++ es) = PyData.bulkAll ds + PyData.bulkAll es
  | [], es => by simp only [List.nil_append, PyData.bulkAll, Nat.zero_add]
  | d :: r, es => by
    simp only [List.cons_append, PyData.bulkAll, bulkAll_app r es]
    omega
theorem depthAll_app : ∀ ds es : List PyData, PyData.depthAll (ds ++ es) = max (PyData.depthAll ds) (PyData.depthAll es)
  | [], es => by simp only [List.nil_append, PyData.depthAll, Nat.zero_max]
  | d :: r, es => by simp only [List.cons_append, PyData.depthAll, depthAll_app r es, Nat.max_assoc]
theorem szAll_app {b b' k : Nat} {ds es : List PyData} (h : SzAll b k ds) (g : SzAll b' k es) : SzAll (b + b') k (ds ++ es) where
  sh := by rw [showableAll_app, h.sh, g.sh]; rfl
  lv := by rw [leavesAll_app, h.lv, g.lv]; rfl
  bu := by
    rw [bulkAll_app]
    exact Nat.add_le_add h.bu g.bu
  de := by
    rw [depthAll_app]
    exact Nat.max_le.mpr ⟨h.de, g.de⟩
theorem cps_small (s : String) : (Str.ofString s).cps.toList.all (fun c => decide (c < 16 ^ 8)) = true := by
  rw [Str.ofString_eq_toList]
  show ((s.toList.map Char.toNat).toArray.toList).all _ = true
  rw [List.all_eq_true]
  intro c hc
  obtain ⟨ch, _, rfl⟩ := List.mem_map.mp (show c ∈ s.toList.map Char.toNat from hc)
  have h1 : ch.toNat < 0x110000 := by
    have := ch.valid
    have h2 : ch.val.toNat < 0x110000 := by
      rcases this with h | ⟨_, h⟩ <;> omega
    exact h2
  have e : (16 : Nat) ^ 8 = 4294967296 := by decide
  exact decide_eq_true (by omega)
theorem sz_text {b k : Nat} {s : String} (h : s.length ≤ b) : Sz b k (.str (Str.ofString s)) where
  sh := rfl
  lv := by
    simp only [PyData.leavesShort]
    exact cps_small s
  bu := by
    simp only [PyData.bulk]
    show (Str.ofString s).length ≤ b
    rw [PySem.ofString_length]
    exact h
  de := Nat.zero_le _
end MB
end
section
set_option maxRecDepth 100000
namespace MB
open PySem PySem.Spec PyProof.Rows L2 LamX
def newer (H H' : Hp) : Hp := fun b => match H b with
  | some _ => none
  | none => H' b
section
variable {H H0 H1 H' H2 : Hp} {d l p : Addr} {kL : Str} {K : PySem.W.Frag}
theorem newer_at {b : Addr} (h : H b = none) : newer H H' b = H' b := by
  unfold newer
  rw [h]
theorem newer_some {b : Addr} {o : HO} (h : newer H H' b = some o) : H b = none ∧ H' b = some o := by
  unfold newer at h
  split at h
  · cases h
  · rename_i e
    exact ⟨e, h⟩
theorem newer_sub : Same (newer H H') H' := fun b u e => (newer_some e).2
theorem newer_mono (f : ∀ p, H1 p = none → H0 p = none) : Same (newer H1 H') (newer H0 H') := fun b u e => by
  obtain ⟨e1, e2⟩ := newer_some e
  rw [newer_at (f b e1)]
  exact e2
theorem newer_step (k : ∀ b o, H b = none → H' b = some o → H2 b = some o) : Same (newer H H') (newer H H2) := fun b u e => by
  obtain ⟨e1, e2⟩ := newer_some e
  rw [newer_at e1]
  exact k b u e1 e2
theorem Deck.there (D : Deck kL H d l) : H d ≠ none ∧ H l ≠ none := by
  obtain ⟨m, n, cs, h1, h2, _⟩ := D.ex
  rw [h1, h2]
  exact ⟨(by intro z; cases z), (by intro z; cases z)⟩
theorem newer_but (D : Deck kL H d l) (e : But d l H' H2) : Same (newer H H') (newer H H2) := newer_step fun b o h1 h2 => e b o h2 (fun z => D.there.1 (z ▸ h1)) (fun z => D.there.2 (z ▸ h1))
theorem Deck.extN (D : Deck kL H d l) (e : ExtN H H') : Deck kL H' d l := by
  obtain ⟨m, n, cs, h1, h2, h3⟩ := D.ex
  exact ⟨m, n, cs, e _ _ h1 (by intro ps z; cases z), e _ _ h2 (by intro ps z; cases z), h3⟩
theorem codeO_form {c : Addr} {q : Str} : (∀ kvs, CodeO c q ≠ .dK kvs) ∧ ∀ xs, CodeO c q ≠ .lst xs := by
  unfold CodeO
  exact ⟨fun _ z => (by cases z), fun _ z => (by cases z)⟩
theorem tabs_but {T : List (Addr × Str)} (D : Deck kL H d l) (e : But d l H H') (t : Tabs T H) : Tabs T H' := fun p hp => by
  obtain ⟨m, n, cs, h1, h2, _⟩ := D.ex
  obtain ⟨ps, a1, a2, a3⟩ := t p hp
  refine ⟨ps, e _ _ a1 (ne_of a1 h1 (by intro z; cases z)) (ne_of a1 h2 (by intro z; cases z)), a2, fun pos cv hc => ?_⟩
  obtain ⟨c, e1, e2⟩ := a3 pos cv hc
  exact ⟨c, e1, e _ _ e2 (ne_of e2 h1 (codeO_form.1 _)) (ne_of e2 h2 (codeO_form.2 _))⟩
theorem tabs_same {T : List (Addr × Str)} (e : Same H H') (t : Tabs T H) : Tabs T H' := t.ext e
end
theorem mono_told {d : PyData} {b k : Nat} (h : Sz b k d) (hb : b ≤ 200000) (hk : k ≤ 40) : Told d := h.told hb hk
theorem sz_dict2 {b k : Nat} {s : String} {i j : Int} {x : PyData} (h : Sz b k x) (hs : s.length ≤ 20) (hi : i.natAbs < 10 ^ 42) (hj : j.natAbs < 10 ^ 42) : Sz (b + 30) (k + 1) (.dict [(.str (Str.ofString s), x), (.int i, .int j)]) where
  sh := by
    have a := (sz_int (b := 0) (k := 0) hi).sh
    have c := (sz_int (b := 0) (k := 0) hj).sh
    simp only [PyData.showable, PyData.showableKv, Bool.and_true, Bool.true_and] at a c ⊢
    rw [h.sh, a, c]
    rfl
  lv := by
    have a := (sz_int (b := 0) (k := 0) hi).lv
    have c := (sz_int (b := 0) (k := 0) hj).lv
    have t := (sz_text (k := 0) hs).lv
    simp only [PyData.leavesShort, PyData.leavesShortKv, Bool.and_true] at a c t ⊢
    rw [h.lv, a, c, t]
    rfl
  bu := by
    have t := (sz_text (k := 0) hs).bu
    have := h.bu
    simp only [PyData.bulk, PyData.bulkKv] at t ⊢
    omega
  de := by
    have := h.de
    simp only [PyData.depth, PyData.depthKv]
    omega
end MB
end
section
set_option maxRecDepth 100000
set_option maxHeartbeats 4000000
namespace MB
open PySem PySem.Spec PyProof.Rows L2
def rIsD (K : PySem.W.Frag) (D : Addr) (cls : Value) (d : Option Addr) (a : Addr) : List V → Hp → VK → Prop := fun xs H Q => ∃ (c : V) (cv : Value) (b : Bool) (dd : Addr) (fs : List (Str × V)), xs = [.ref a, c] ∧ (∀ u, RelV c u → u = cv) ∧ cls = .ref D ∧ d = some dd ∧ H dd = some (.xd fs) ∧ PySem.W.kitOne K (.ref D) cv = some b ∧ Q (.bl b) H
theorem call_isD {X : Cx} {a D : Addr} {cls : Value} {d : Option Addr} {oe : Obj} {pn : List (Addr × Obj)} (C : ExcC X.K D) (hz : Zc cls d oe) (hf : ∃ vs, oe.data = .fields vs) : CallR (X.suite a ((a, oe) :: pn)) (.builtin "isinstance") (rIsD X.K D cls d a) := by
  intro pins s σ H xs us Q I r h
  obtain ⟨c, cv, b, dd, fs, rfl, hcv, ec, ed, hx, e, q⟩ := h
  cases r with
  | cons rx rr =>
    cases rr with
    | cons rt rr =>
      cases rr
      cases rx
      have ec2 := hcv _ rt
      subst ec2
      subst ec
      subst ed
      obtain ⟨hget, _⟩ := I.pin (a, oe) (List.mem_append.mpr (.inl List.mem_cons_self))
      obtain ⟨vs, hv⟩ := hf
      have hx' : ObjOk X.prog X.w H s.heap dd (.xd fs) := I.hok dd _ hx
      obtain ⟨mA, hns, hr⟩ := hx'
      obtain ⟨od, ho, hl⟩ := lookIn_ns hns
      have J : PySem.W.InstAt s.heap a oe D (some od) := ⟨hget, hz.1, by unfold PySem.W.notCls; rw [hv] <;> rfl, by rw [hz.2]; exact ho⟩
      have hcl : (PySem.W.clsIn X.K D).isSome = true := by
        have h := C.hd
        unfold PySem.W.hasDictIn at h
        cases hc : PySem.W.clsIn X.K D with
        | none => rw [hc] at h; cases h
        | some _ => rfl
      exact PySem.W.kia_one (PySem.W.kitx_exc hcl C.hg C.hk C.hs C.ha C.hn C.ht C.hm) I.kIn J e (fun z => nomatch z) fun tk => ⟨.bl b, H, I.kept (t' := tk) fun _ _ z => z, rfl, q⟩
theorem Un.past {fs fs' : List Addr} {H H1 H2 : Hp} {h h1 h2 : Heap} (a : L2.Un fs [] H H1 h h1) (b : L2.Un fs' [] H1 H2 h1 h2) (hs : ∀ c ∈ fs', c ∈ fs ∨ h.objs.size ≤ c) : L2.Un fs [] H H2 h h2 where
  keep := fun c ob q n hc hx => b.keep c ob (a.keep c ob q n hc hx) (a.free c ob q n hx) (fun z => (hs c z).elim hc fun z2 => absurd (Heap.lt_size q) (Nat.not_lt_of_le z2)) hx
  slot := fun c ob q n hc hx => by
    obtain ⟨sl, e1⟩ := a.slot c ob q n hc hx
    obtain ⟨sl', e2⟩ := b.any e1 (a.free c ob q n hx) hx
    exact ⟨sl', e2⟩
  free := fun c ob q n hx => by
    obtain ⟨o', e1⟩ := a.there c ob q hx
    exact b.free c o' e1 (a.free c ob q n hx) hx
  there := fun c ob q hx => by
    obtain ⟨o', e1⟩ := a.there c ob q hx
    exact b.there c o' e1 hx
  tups := fun c xs q => b.tups c xs (a.tups c xs q)
  frzs := fun c ob xs q => b.frzs c ob xs (a.frzs c ob xs q)
  tbls := fun c ps q => by
    obtain ⟨m1, e1⟩ := a.tbls c ps q
    obtain ⟨m2, e2⟩ := b.tbls c _ e1
    exact ⟨m1 ++ m2, by rw [e2, Array.append_assoc]⟩
open LamX hiding takes0
section
variable {X : Cx} {pins : List (Addr × Obj)} {σ : L2.St} {H HZ : Hp} {s s1 : Shared}
theorem pe_act2 {CXg : CXT} {Eg : XK} {Ng : List Str} {qg : Str} {sg : Scope} {g f c' : Addr} {cdg pm ctv : Value} {params : Arguments} {body : Expr} {scope : Scope} {k i : Nat} {a : Str} {pn : List (Addr × Obj)} {xe : Value → Shared → Prop} {W : WX} {E : XK} {tb : TE} {p1 p2 : Pos}
    {A2 : Around} {st2 : List Env} {s2 : Shared} {H2 : Hp} (un2 : L2.Un (frs X.stack) [] H H2 s.heap s2.heap) (hst : ∀ c ∈ frs st2, c ∈ frs X.stack ∨ s.heap.objs.size ≤ c)
    (I : Inv X pins σ H s) (L : LamS X.env.scope scope) (hf : s.heap.get? f = some (PySem.W.kla_obj "<lambda>" (X.env.qual ++ "<lambda>") params body scope (cloFrom X.env.cells scope.names []) pm c' ctv)) (hfn : H f = none) (hfr : f ∉ frs X.stack)
    (hbind : bindArgs (PySem.W.kla_fn "<lambda>" (X.env.qual ++ "<lambda>") params body scope (cloFrom X.env.cells scope.names []) pm (.ref c') ctv) ⟨[], []⟩ = pure [])
    (tk : Takes ((cxOf CXg X.prog X.w X.K X.mg X.base Ng qg sg g cdg A2 st2 s2 H2 Eg).tr pn xe) W) (hW : ∀ cls d σ' H', E cls d H' → W cls d σ' H') (hr : Room (k + 1) (A2.deeper (envOfC qg sg s2.heap.objs.size g cdg)))
    (hbody : ∀ (A : Around) (outer : List Env) (s : Shared) (H : Hp), Room k (A.deeper (lamEnv X scope s.heap.objs.size f c')) → PE (lamCx X A outer s H E scope f c') body tb)
    (hN : Ng[i]? = some a) (hv : Vis sg a) (hd : (a == ("__debug__" : Str)) = false := by decide) (hcd : (a == ("__classdict__" : Str)) = false := by decide) :
    PE ((cxOf CXg X.prog X.w X.K X.mg X.base Ng qg sg g cdg A2 st2 s2 H2 Eg).tr pn xe) (.Call (.Name a p1) [] [] p2)
      (fun σZ HZ Q => σZ[i]? = some (some (.ref f)) ∧ HZ c' = some (CodeO c' (X.env.qual ++ "<lambda>")) ∧ tb σ HZ Q) := by
  refine ⟨fun pinsZ sZ σZ HZ Q IZ h => ?_⟩
  obtain ⟨hs, hc, ht⟩ := h
  refine wpAny_Call_Name_kw (thn ((pe_var (pos := p1) (i := i) hN hv hd hcd).run pinsZ sZ σZ HZ (fun v H1 => v = .ref f ∧ H1 = HZ) IZ ⟨.ref f, hs, rfl, rfl⟩) fun u s1 ⟨v, H1, I1, r1, q1⟩ => ?_)
  obtain ⟨ev, eH⟩ := q1
  subst ev
  rw [eH] at I1
  obtain rfl : u = Value.ref f := r1
  have unZ : L2.Un (frs st2) [] H2 HZ s2.heap s1.heap := I1.base
  have un : L2.Un (frs X.stack) [] H HZ s.heap s1.heap := Un.past un2 unZ hst
  have of1 : s1.heap.get? f = some (PySem.W.kla_obj "<lambda>" (X.env.qual ++ "<lambda>") params body scope (cloFrom X.env.cells scope.names []) pm c' ctv) := un.keep f _ hf hfn hfr (fun z => nomatch (show f ∈ ([] : List Addr) from z))
  refine PySem.W.callWith_F0 ⟨_, _, _, _, of1⟩ ?_
  obtain ⟨⟨oc, vs, t, hoc, hdc, hvc⟩, _, _⟩ := I1.hok c' _ hc
  have rc : codeAny (model X.prog X.w) (A2.deeper (envOfC qg sg s2.heap.objs.size g cdg)) (.call (.ref f) ⟨[], []⟩) (CR (L2.CX X.prog X.w) (envOfC qg sg s2.heap.objs.size g cdg :: st2) X.prog X.w HZ s1 Q E) s1 := by
    refine PySem.W.kla_callFunE hr.depth of1 rfl L.co L.gen rfl ⟨c', oc, vs, t, rfl, hoc, hdc, hvc⟩ ?_
    rw [hbind]
    refine wpAny_pure (wpAny_newFunctionEnv (fun y hy => (L.own y hy).2) (fun y hy => absurd hy (by simp)) (fun h₁ hns hsb => ⟨I1.nolimit.fresh _ hsb, ?_⟩) L.kind)
    show codeAny _ _ (.expr body (lamEnv X scope s1.heap.objs.size f c')) _ _
    have kp : ∀ b o, s1.heap.get? b = some o → h₁.get? b = some o := fun b o e => hsb.extBut b o (Nat.ne_of_lt (Heap.lt_size e)) (Heap.get?_push_of_some _ e)
    have J : Inv (lamCx X (A2.deeper (envOfC qg sg s2.heap.objs.size g cdg)) (envOfC qg sg s2.heap.objs.size g cdg :: st2) s1 HZ E scope f c') [] σ HZ { s1 with heap := h₁, toks := s1.toks + ([] : List (Str × Value)).length } :=
      lam_start2 I L I1.env0 hr.hd un hns kp
    refine PySem.W.kla_codeExpr (wpAny_mono ((hbody _ _ s1 HZ (hr.deeper _)).run [] _ _ HZ Q J ht) (fun v s' hq => ?_) fun e s' hq => hq)
    obtain ⟨w', H', J', rv, q⟩ := hq
    exact ⟨w', H', J'.os, J'.bare, J'.base, J'.hok, rv, q⟩
  have hx : Passes (L2.CX X.prog X.w) ((cxOf CXg X.prog X.w X.K X.mg X.base Ng qg sg g cdg A2 st2 s2 H2 Eg).tr pn xe) E := passes_call tk hW
  refine wpAny_call (codeAny_mono rc fun r s' hq => ?_)
  cases r with
  | error e => exact hx pinsZ σZ HZ s1 e s' I1 hq
  | ok fl =>
    cases fl with
    | ret u => exact I1.after hq
    | next => exact False.elim hq
    | brk => exact False.elim hq
    | cont => exact False.elim hq
end
def GivesTo3 (X : Cx) (Ng : List Str) (x : Str) (sg : Scope) (g : Addr) (cdg : Value) (bg : List Stmt) (b a : Str) (q : Str) (TT : (XK → Hp → VK → Prop) → Hp → VK → Prop) (T3 : V → V → (Hp → VK → Prop) → Hp → VK → Prop) : Prop :=
  ∀ (f c' : Addr) (s : Shared) (H : Hp) (Q : VK) (v1 v2 : V) (tl : XK → Hp → VK → Prop), Room 1 (cxOf C8.CX0 X.prog X.w X.K X.mg X.base Ng x sg g cdg X.A X.stack s H C8.E0).A →
    (∀ (p1 p2 p3 : Pos), PE (cxOf C8.CX0 X.prog X.w X.K X.mg X.base Ng x sg g cdg X.A X.stack s H C8.E0).nox (.Call (.Name b p1) [.Name a p2] [] p3) (fun σZ HZ Q => σZ[2]? = some (some (.ref f)) ∧ HZ c' = some (CodeO c' q) ∧ TT tl HZ Q)) →
    H c' = some (CodeO c' q) → T3 v1 v2 (TT tl) H Q →
    ∃ t, PSs (cxOf C8.CX0 X.prog X.w X.K X.mg X.base Ng x sg g cdg X.A X.stack s H C8.E0).nox bg t ∧ t { nx := fun _ H' => Q .non H', rt := Q } (L2.start Ng [v1, v2, .ref f]) H
def tLam3 (T : List (Addr × Str)) (TT : (XK → Hp → VK → Prop) → Hp → VK → Prop) (T3 : V → V → (Hp → VK → Prop) → Hp → VK → Prop) (te1 te2 : TE) (t : XK → TE) : TE := fun σ H Q =>
  te1 σ H fun v1 H1 => te2 σ H1 fun v2 H2 => Tabs T H2 ∧ ∀ H3, ExtN H2 H3 → Tabs T H3 → T3 v1 v2 (TT fun E H' Q' => t E σ H' Q') H3 Q
section
variable {X : Cx}
theorem pe_tell3 {T : List (Addr × Str)} {TT : (XK → Hp → VK → Prop) → Hp → VK → Prop} {T3 : V → V → (Hp → VK → Prop) → Hp → VK → Prop} {x a a1 a2 b ab : Str} {g h c P : Addr} {k : Nat} {st sth : Stmt} {fd fdh : FuncData} {Ng Nh : List Str}
    {e1 e2 : Expr} {te1 te2 : TE} {params : Arguments} {body : Expr} {scope : Scope} {t : XK → TE} {p lpos pos : Pos} (F : Fun X.K x x st g fd) (hb : L2.Binds X.K fd [a1, a2, a] []) (hg : Gl X x) (hm : X.mg x = some (.ref g))
    (Sg : FnScope Ng [a1, a2, a] (defScope st)) (hNg : Ng[2]? = some a) (hva : Vis (defScope st) a)
    (Fh : Fun X.K b b sth h fdh) (hbh : L2.Binds X.K fdh [ab] []) (hgh : (defScope st).names.lookup b = some .globalImplicit) (hmh : X.mg b = some (.ref h)) (Sh : FnScope Nh [ab] (defScope sth)) (hNh : Nh[0]? = some ab) (hvh : Vis (defScope sth) ab)
    (hGh : ∀ (cdg cdh : Value) (s : Shared) (H : Hp), GivesTo (cxOf C8.CX0 X.prog X.w X.K X.mg X.base Ng x (defScope st) g cdg X.A X.stack s H C8.E0).nox Nh b (defScope sth) h cdh (defBody sth) ab (X.env.qual ++ "<lambda>") TT)
    (hG : ∀ cdg, GivesTo3 X Ng x (defScope st) g cdg (defBody st) b a (X.env.qual ++ "<lambda>") TT T3)
    (he1 : PE X e1 te1) (he2 : PE X e2 te2)
    (TB : TabB X.base X.mg c P) (hcode : X.env.code = .ref c) (hmT : (P, X.env.qual ++ "<lambda>") ∈ T) (hu : ∀ p ∈ T, p.1 = P → p.2 = X.env.qual ++ "<lambda>") (hr : Room (k + 4) X.A) (L : LamS X.env.scope scope) (hdef : defaultsOf params X.env = ([], []))
    (hbind : ∀ (q : Str) (cl : List (Str × Addr)) (pm cv ctv : Value), bindArgs (PySem.W.kla_fn "<lambda>" q params body scope cl pm cv ctv) ⟨[], []⟩ = pure [])
    (hbody : ∀ (A : Around) (outer : List Env) (s : Shared) (H : Hp) (E : XK) (f c' : Addr), Room k (A.deeper (lamEnv X scope s.heap.objs.size f c')) → PE (lamCx X A outer s H E scope f c') body (t E))
    (hs : starEach [e1, e2, .Lambda params body scope lpos] X.env = [(false, eval e1 X.env), (false, eval e2 X.env), (false, eval (.Lambda params body scope lpos) X.env)] := by rfl) (hs2 : starEach [e2, .Lambda params body scope lpos] X.env = [(false, eval e2 X.env), (false, eval (.Lambda params body scope lpos) X.env)] := by rfl)
    (hdb : (x == ("__debug__" : Str)) = false := by decide) (hdbb : (b == ("__debug__" : Str)) = false := by decide) (hd : (a == ("__debug__" : Str)) = false := by decide) (hcd : (a == ("__classdict__" : Str)) = false := by decide) (hd' : (ab == ("__debug__" : Str)) = false := by decide) (hcd' : (ab == ("__classdict__" : Str)) = false := by decide) :
    PE X (.Call (.Name x p) [e1, e2, .Lambda params body scope lpos] [] pos) (tLam3 T TT T3 te1 te2 t) := by
  obtain ⟨oc, od, kV, doc, pm, an, cdg, ct, osl, rfl, lk, hcg⟩ := F.ex
  obtain ⟨och, odh, kVh, doch, pmh, anh, cdh, cth, oslh, rfl, lkh, hch⟩ := Fh.ex
  refine ⟨fun pins s σ H Q I hq => ?_⟩
  refine wpAny_Call_Name_kw (ld_glob I hg hm ?_ hdb)
  refine PySem.W.callWith_K (h₀ := X.base) I.ok.mod.kin F.kp ?_ (by rw [hs, hs2]) (by rw [hs2]; rfl)
  rw [hs]
  show wpAny _ _ (spliced [(false, eval e1 X.env), (false, eval e2 X.env), (false, eval (.Lambda params body scope lpos) X.env)]) _ _ s
  refine Calls.spliced_cons (thn (he1.run pins s σ H _ I hq) fun u1 s1 ⟨v1, H1, I1, r1, q1⟩ => ?_)
  refine Calls.spliced_cons (thn (he2.run pins s1 σ H1 _ I1 q1) fun u2 s2 ⟨v2, H2, I2, r2, ⟨hT, q2⟩⟩ => ?_)
  refine Calls.spliced_cons (lam_make2 I2 TB hcode hmT hu hT hdef (L.has I2.ok) fun f c' pm' ctv H3 s3 I3 eN T3' hf hfn hfr hco => ?_)
  refine Calls.spliced_nil ⟨I3.kIn, ?_⟩
  have rc : codeAny (model X.prog X.w) X.A (.call (.ref g) ⟨[u1, u2, .ref f], []⟩) (CR C8.CX0 X.stack X.prog X.w H3 s3 Q C8.E0) s3 := by
    refine run_ofS (N := Ng) (ps := [a1, a2, a]) (us := [u1, u2, .ref f]) (vs := [v1, v2, .ref f]) lk hcg Sg (hr.mono (by omega) : Room (k + 3 + 1) X.A) I3.env0 (hb s3 [u1, u2, .ref f] I3.kIn rfl) (.cons r1 (.cons r2 (.cons rfl .nil))) rfl fun hr' => ?_
    have pass : ∀ (p1 p2 p3 : Pos), PE (cxOf C8.CX0 X.prog X.w X.K X.mg X.base Ng x (defScope st) g cdg X.A X.stack s3 H3 C8.E0).nox (.Call (.Name b p1) [.Name a p2] [] p3)
        (fun σZ HZ Q => σZ[2]? = some (some (.ref f)) ∧ HZ c' = some (CodeO c' (X.env.qual ++ "<lambda>")) ∧ TT (fun E H' Q' => t E σ H' Q') HZ Q) := by
      intro p1 p2 p3
      refine ⟨fun pinsZ sZ σZ HZ QZ IZ hz => ?_⟩
      obtain ⟨hs0, hc, ht⟩ := hz
      have glb : Gl (cxOf C8.CX0 X.prog X.w X.K X.mg X.base Ng x (defScope st) g cdg X.A X.stack s3 H3 C8.E0).nox b := hgh
      refine wpAny_Call_Name_kw (ld_glob IZ glb hmh ?_ hdbb)
      refine PySem.W.callWith_K (h₀ := X.base) IZ.ok.mod.kin Fh.kp ?_ (by rfl) (by rfl)
      show wpAny _ _ (spliced [(false, eval (.Name a p2) _)]) _ _ sZ
      refine Calls.spliced_cons (thn ((pe_var (pos := p2) (i := 2) hNg hva hd hcd).run pinsZ sZ σZ HZ (fun v H1 => v = .ref f ∧ H1 = HZ) IZ ⟨.ref f, hs0, rfl, rfl⟩) fun u s4 ⟨v, H4, I4, r4, q4⟩ => ?_)
      obtain ⟨ev, eH⟩ := q4
      subst ev
      rw [eH] at I4
      obtain rfl : u = Value.ref f := r4
      refine Calls.spliced_nil ⟨I4.kIn, ?_⟩
      have un2 : L2.Un (frs X.stack) [] H3 HZ s3.heap s4.heap := I4.base
      have hst : ∀ c ∈ frs (envOfC x (defScope st) s3.heap.objs.size g cdg :: X.stack), c ∈ frs X.stack ∨ s3.heap.objs.size ≤ c := fun c hc => by
        unfold frs at hc
        rw [List.filterMap_cons] at hc
        split at hc
        · exact .inl hc
        · rename_i L0 hL0
          rcases List.mem_cons.mp hc with rfl | hc
          · have e : (envOfC x (defScope st) s3.heap.objs.size g cdg).frame = some s3.heap.objs.size := rfl
            rw [e] at hL0
            cases hL0
            exact .inr (Nat.le_refl _)
          · exact .inl hc
      have rch : codeAny (model X.prog X.w) (X.A.deeper (envOfC x (defScope st) s3.heap.objs.size g cdg)) (.call (.ref h) ⟨[.ref f], []⟩) (CR C8.CX0 (envOfC x (defScope st) s3.heap.objs.size g cdg :: X.stack) X.prog X.w HZ s4 QZ C8.E0) s4 := by
        refine run_ofS (N := Nh) (ps := [ab]) (us := [.ref f]) (vs := [.ref f]) lkh hch Sh (hr'.mono (by omega) : Room (k + 2 + 1) _) I4.env0 (hbh s4 [.ref f] I4.kIn rfl) (.cons rfl .nil) rfl fun hr2 => ?_
        have act : ∀ (W : WX) (pn : List (Addr × Obj)) (xe : Value → Shared → Prop) (E : XK) (p1 p2 : Pos), Takes ((cxOf C8.CX0 X.prog X.w X.K X.mg X.base Nh b (defScope sth) h cdh (X.A.deeper (envOfC x (defScope st) s3.heap.objs.size g cdg)) (envOfC x (defScope st) s3.heap.objs.size g cdg :: X.stack) s4 HZ C8.E0).tr pn xe) W → (∀ cls d σ' H', E cls d H' → W cls d σ' H') →
            PE ((cxOf C8.CX0 X.prog X.w X.K X.mg X.base Nh b (defScope sth) h cdh (X.A.deeper (envOfC x (defScope st) s3.heap.objs.size g cdg)) (envOfC x (defScope st) s3.heap.objs.size g cdg :: X.stack) s4 HZ C8.E0).tr pn xe) (.Call (.Name ab p1) [] [] p2) (fun σZ HZ Q => σZ[0]? = some (some (.ref f)) ∧ HZ c' = some (CodeO c' (X.env.qual ++ "<lambda>")) ∧ t E σ HZ Q) := fun W pn xe E p1 p2 tk hW =>
          pe_act2 (X := X) (CXg := C8.CX0) (Eg := C8.E0) (A2 := X.A.deeper (envOfC x (defScope st) s3.heap.objs.size g cdg)) (st2 := envOfC x (defScope st) s3.heap.objs.size g cdg :: X.stack) (s2 := s4) (H2 := HZ) (Ng := Nh) (qg := b) (sg := defScope sth) (g := h) (cdg := cdh) (i := 0) (k := k) (tb := t E) un2 hst I3 L hf hfn hfr (hbind _ _ _ _ _) tk hW (hr2.mono (by omega) : Room (k + 1) _) (fun A outer s H hr3 => hbody A outer s H E f c' hr3) hNh hvh hd' hcd'
        obtain ⟨t', ht', hq'⟩ := hGh cdg cdh s3 H3 f c' s4 HZ QZ (fun E H' Q' => t E σ H' Q') act hc ht
        exact ⟨t', ht'.nox, hq'⟩
      refine wpAny_call (codeAny_mono rch fun r s5 hq => ?_)
      cases r with
      | error e => exact (show False from hq).elim
      | ok fl =>
        cases fl with
        | ret u => exact I4.after hq
        | next => exact False.elim hq
        | brk => exact False.elim hq
        | cont => exact False.elim hq
    obtain ⟨t', ht', hq'⟩ := hG cdg f c' s3 H3 Q v1 v2 (fun E H' Q' => t E σ H' Q') (hr'.mono (by omega)) pass hco (q2 H3 eN T3')
    exact ⟨t', ht'.nox, hq'⟩
  refine wpAny_call (codeAny_mono rc fun r s5 hq => ?_)
  cases r with
  | error e => exact (show False from hq).elim
  | ok fl =>
    cases fl with
    | ret u => exact I3.after hq
    | next => exact False.elim hq
    | brk => exact False.elim hq
    | cont => exact False.elim hq
end
theorem pe_callG0 {X : Cx} {k : Nat} {f : Addr} {fd : FuncData} {sp : Sp} {x : Str} {p pos : Pos} (F : FnG X.prog X.w X.K X.mg X.base k f fd [] sp) (hr : Room k X.A) (hgu : X.A.guards = some [])
    (hg : Gl X x) (hm : X.mg x = some (.ref f)) (hk : PySem.W.keepIn X.K (.ref f) = true) (hb : L2.Binds X.K fd [] []) (hdb : (x == ("__debug__" : Str)) = false := by decide) :
    PE X (.Call (.Name x p) [] [] pos) (fun _ H Q => sp [] H Q E0) := by
  refine ⟨fun pins s σ H Q I h => ?_⟩
  refine wpAny_Call_Name_kw (ld_glob I hg hm ?_ hdb)
  refine PySem.W.callWith_K0 I.kIn hk ?_
  have bb := hb s [] I.kIn rfl
  exact runG F hr hgu bb I .nil h
theorem FnOk.quiet {P : Program} {w : World} {K : PySem.W.Frag} {mg : Str → Option Value} {base : Heap} {k : Nat} {f : Addr} {fd : FuncData} {ps : List Str} {sp : Sp} (F : FnOk P w K mg base (L2.CX P w) k f fd ps sp) :
    FnOk P w K mg base L2.CX0 k f fd ps (fun vs H Q _ => sp vs H Q fun _ _ _ => False) where
  len := fun vs H Q E h => F.len vs H Q _ h
  run := fun A outer s H args us vs Q E hr e0 hb r h => by
    refine codeAny_mono (F.run A outer s H args us vs Q (fun _ _ _ => False) hr e0 hb r h) fun r' s' hq => ?_
    cases r' with
    | error e =>
      obtain ⟨_, _, _, _, _, _, _, _, _, _, _, _, z⟩ := (show L2.CX P w outer H s (fun _ _ _ => False) e s' from hq)
      exact z.elim
    | ok fl => cases fl <;> exact hq
end MB
end
section
set_option maxHeartbeats 1000000
namespace PM
def ev (x : Int) : List Int → Int
  | [] => 0
  | c :: r => c + x * ev x r
def nrm : List Int → Nat
  | [] => 0
  | c :: r => c.natAbs + nrm r
def isPoly (l : List Int) : Bool := l.getLast? != some 0
def trimL : List Int → List Int
  | [] => []
  | c :: r => match trimL r with
    | [] => if c = 0 then [] else [c]
    | d :: t => c :: d :: t
theorem ev_append (x : Int) (a b : List Int) : ev x (a ++ b) = ev x a + x ^ a.length * ev x b := by
  induction a with
  | nil => simp [ev]
  | cons c r ih =>
    simp only [List.cons_append, ev, List.length_cons, ih, Int.pow_succ]
    grind
theorem nrm_append (a b : List Int) : nrm (a ++ b) = nrm a + nrm b := by
  induction a with
  | nil => simp [nrm]
  | cons c r ih =>
    simp only [List.cons_append, nrm, ih]
    omega
theorem mem_nrm {l : List Int} {c : Int} (h : c ∈ l) : c.natAbs ≤ nrm l := by
  induction l with
  | nil => simp at h
  | cons d r ih =>
    rcases List.mem_cons.mp h with e | h
    · subst e
      simp only [nrm]
      omega
    · have := ih h
      simp only [nrm]
      omega
theorem ev_trimL (x : Int) (l : List Int) : ev x (trimL l) = ev x l := by
  induction l with
  | nil => rfl
  | cons c r ih =>
    simp only [trimL]
    cases h : trimL r with
    | nil =>
      rw [h] at ih
      simp only [ev] at ih ⊢
      by_cases e : c = 0
      · rw [if_pos e]
        simp [ev, ← ih, e]
      · rw [if_neg e]
        simp [ev, ← ih]
    | cons d t =>
      rw [h] at ih
      simp only [ev] at ih ⊢
      rw [ih]
theorem nrm_trimL (l : List Int) : nrm (trimL l) = nrm l := by
  induction l with
  | nil => rfl
  | cons c r ih =>
    simp only [trimL]
    cases h : trimL r with
    | nil =>
      rw [h] at ih
      simp only [nrm] at ih ⊢
      by_cases e : c = 0
      · rw [if_pos e]
        simp [nrm, ← ih, e]
      · rw [if_neg e]
        simp [nrm, ← ih]
    | cons d t =>
      rw [h] at ih
      simp only [nrm] at ih ⊢
      omega
theorem len_trimL (l : List Int) : (trimL l).length ≤ l.length := by
  induction l with
  | nil => exact Nat.le_refl _
  | cons c r ih =>
    simp only [trimL]
    cases h : trimL r with
    | nil =>
      by_cases e : c = 0
      · rw [if_pos e]
        simp
      · rw [if_neg e]
        simp
    | cons d t =>
      rw [h] at ih
      simp only [List.length_cons] at ih ⊢
      omega
theorem poly_trimL (l : List Int) : isPoly (trimL l) = true := by
  induction l with
  | nil => rfl
  | cons c r ih =>
    simp only [trimL]
    cases h : trimL r with
    | nil =>
      by_cases e : c = 0
      · rw [if_pos e]
        rfl
      · rw [if_neg e]
        simp [isPoly, e]
    | cons d t =>
      rw [h] at ih
      simp only [isPoly] at ih ⊢
      rw [List.getLast?_cons_cons]
      exact ih
theorem trimL_snoc (l : List Int) : trimL (l ++ [0]) = trimL l := by
  induction l with
  | nil => rfl
  | cons c r ih =>
    simp only [List.cons_append, trimL, ih]
theorem trimL_of_last {l : List Int} {c : Int} (h : c ≠ 0) : trimL (l ++ [c]) = l ++ [c] := by
  induction l with
  | nil => simp [trimL, h]
  | cons d r ih =>
    simp only [List.cons_append, trimL, ih]
    cases e : r ++ [c] with
    | nil => simp at e
    | cons a t => rfl
theorem poly_tail {c : Int} {r : List Int} (h : isPoly (c :: r) = true) : isPoly r = true := by
  cases r with
  | nil => rfl
  | cons d t =>
    simp only [isPoly, List.getLast?_cons_cons] at h ⊢
    exact h
def Small (B : Int) (l : List Int) : Prop := ∀ c ∈ l, 2 * (c.natAbs : Int) < B
theorem Small.tail {B c : Int} {r : List Int} (h : Small B (c :: r)) : Small B r := fun d hd => h d (List.mem_cons_of_mem _ hd)
theorem Small.of_nrm {B : Int} {l : List Int} (h : 2 * (nrm l : Int) < B) : Small B l := fun c hc => by
  have := mem_nrm hc
  omega
theorem dvd_small {B c d : Int} (h : c = B * d) (hs : 2 * (c.natAbs : Int) < B) : c = 0 := by
  by_cases e : d = 0
  · rw [h, e]
    simp
  · exfalso
    have h1 : c.natAbs = B.natAbs * d.natAbs := by rw [h, Int.natAbs_mul]
    have h2 : 1 ≤ d.natAbs := by omega
    have h3 : B.natAbs * 1 ≤ B.natAbs * d.natAbs := Nat.mul_le_mul_left _ h2
    omega
theorem ev_zero {B : Int} (hB : 0 < B) : ∀ {l : List Int}, isPoly l = true → Small B l → ev B l = 0 → l = []
  | [], _, _, _ => rfl
  | c :: r, hp, hs, h => by
    simp only [ev] at h
    have e0 : c = B * (-(ev B r)) := by
      rw [Int.mul_neg]
      omega
    have c0 := dvd_small e0 (hs c (List.mem_cons_self ..))
    rw [c0] at h
    have h' : ev B r = 0 := by
      have : B * ev B r = 0 := by omega
      rcases Int.mul_eq_zero.mp this with z | z
      · omega
      · exact z
    have := ev_zero hB (poly_tail hp) hs.tail h'
    subst this
    subst c0
    simp [isPoly] at hp
theorem ev_uniq {B : Int} (hB : 0 < B) : ∀ {a b : List Int}, isPoly a = true → isPoly b = true → Small B a → Small B b → ev B a = ev B b → a = b
  | [], b, _, hb, _, sb, h => (ev_zero hB hb sb h.symm).symm
  | a, [], ha, _, sa, _, h => ev_zero hB ha sa h
  | c :: r, d :: t, ha, hb, sa, sb, h => by
    simp only [ev] at h
    have h1 := sa c (List.mem_cons_self ..)
    have h2 := sb d (List.mem_cons_self ..)
    have e0 : c - d = B * (ev B t - ev B r) := by
      rw [Int.mul_sub]
      omega
    have h3 : c = d := by
      by_cases e : ev B t - ev B r = 0
      · rw [e] at e0
        simp at e0
        omega
      · exfalso
        have h1' : (c - d).natAbs = B.natAbs * (ev B t - ev B r).natAbs := by rw [e0, Int.natAbs_mul]
        have h2' : 1 ≤ (ev B t - ev B r).natAbs := by omega
        have h3' : B.natAbs * 1 ≤ B.natAbs * (ev B t - ev B r).natAbs := Nat.mul_le_mul_left _ h2'
        omega
    subst h3
    have h4 : ev B r = ev B t := by
      have : B * ev B r = B * ev B t := by omega
      exact Int.eq_of_mul_eq_mul_left (by omega) this
    rw [ev_uniq hB (poly_tail ha) (poly_tail hb) sa.tail sb.tail h4]
theorem digit {B c m : Int} (hB : 0 < B) (hs : 2 * (c.natAbs : Int) < B) (h : Int) (hh : h = B / 2) :
    (if (c + B * m) % B > h then (c + B * m) % B - B else (c + B * m) % B) = c := by
  have e1 : (c + B * m) % B = c % B := Int.add_mul_emod_self_left ..
  rw [e1]
  by_cases hc : 0 ≤ c
  · have e2 : c % B = c := Int.emod_eq_of_lt hc (by omega)
    rw [e2, if_neg (by omega)]
  · have e2 : c % B = c + B := by
      have : c % B = (c + B) % B := by simp
      rw [this]
      exact Int.emod_eq_of_lt (by omega) (by omega)
    rw [e2, if_pos (by omega)]
    omega
theorem next {B c m : Int} (hB : 0 < B) : (c + B * m - c) / B = m := by
  have : c + B * m - c = B * m := by omega
  rw [this, Int.mul_ediv_cancel_left _ (by omega)]
theorem ev_le {x : Int} {X : Nat} (hx : x.natAbs ≤ X) (h1 : 1 ≤ X) : ∀ l : List Int, (ev x l).natAbs ≤ nrm l * X ^ (l.length - 1)
  | [] => by simp [ev, nrm]
  | [c] => by simp [ev, nrm]
  | c :: d :: t => by
    have ih := ev_le hx h1 (d :: t)
    simp only [ev, nrm, List.length_cons, Nat.add_sub_cancel] at ih ⊢
    have e1 : (c + x * (d + x * ev x t)).natAbs ≤ c.natAbs + x.natAbs * (d + x * ev x t).natAbs := by
      have := Int.natAbs_add_le c (x * (d + x * ev x t))
      rw [Int.natAbs_mul] at this
      exact this
    have e2 : x.natAbs * (d + x * ev x t).natAbs ≤ X * ((d.natAbs + nrm t) * X ^ t.length) := Nat.mul_le_mul hx ih
    have e3 : X * ((d.natAbs + nrm t) * X ^ t.length) = (d.natAbs + nrm t) * X ^ (t.length + 1) := by
      rw [Nat.pow_succ]
      grind
    have e4 : 1 ≤ X ^ (t.length + 1) := Nat.one_le_pow _ _ h1
    have e5 : c.natAbs * 1 ≤ c.natAbs * X ^ (t.length + 1) := Nat.mul_le_mul_left _ e4
    have e6 : (c.natAbs + (d.natAbs + nrm t)) * X ^ (t.length + 1) = c.natAbs * X ^ (t.length + 1) + (d.natAbs + nrm t) * X ^ (t.length + 1) := Nat.add_mul ..
    omega
end PM
namespace PM
structure Res (l : List Int) (f : Int → Int) (N L : Nat) : Prop where
  p : isPoly l = true
  e : ∀ x, ev x l = f x
  n : nrm l ≤ N
  z : l.length ≤ L
theorem ev_zeros (x : Int) (k : Nat) : ev x (List.replicate k 0) = 0 := by
  induction k with
  | zero => rfl
  | succ k ih => simp [List.replicate_succ, ev, ih]
theorem nrm_zeros (k : Nat) : nrm (List.replicate k 0) = 0 := by
  induction k with
  | zero => rfl
  | succ k ih => simp [List.replicate_succ, nrm, ih]
theorem ev_zip (x : Int) : ∀ (a b : List Int), a.length = b.length → ev x (List.zipWith (· + ·) a b) = ev x a + ev x b
  | [], [], _ => by simp [ev]
  | c :: r, d :: t, h => by
    simp only [List.length_cons, Nat.add_right_cancel_iff] at h
    simp only [List.zipWith_cons_cons, ev, ev_zip x r t h]
    grind
  | [], _ :: _, h => by simp at h
  | _ :: _, [], h => by simp at h
theorem nrm_zip : ∀ (a b : List Int), nrm (List.zipWith (· + ·) a b) ≤ nrm a + nrm b
  | [], b => by simp [nrm]
  | c :: r, [] => by simp [nrm]
  | c :: r, d :: t => by
    have := nrm_zip r t
    simp only [List.zipWith_cons_cons, nrm]
    omega
theorem ev_scale (x k : Int) (l : List Int) : ev x (l.map (k * ·)) = k * ev x l := by
  induction l with
  | nil => simp [ev]
  | cons c r ih =>
    simp only [List.map_cons, ev, ih]
    grind
theorem nrm_scale (k : Int) (l : List Int) : nrm (l.map (k * ·)) = k.natAbs * nrm l := by
  induction l with
  | nil => simp [nrm]
  | cons c r ih =>
    simp only [List.map_cons, nrm, ih, Int.natAbs_mul]
    grind
theorem ev_set (x d : Int) : ∀ (l : List Int) (i : Nat) (c : Int), l[i]? = some c → ev x (l.set i (c + d)) = ev x l + x ^ i * d
  | [], i, c, h => by simp at h
  | a :: r, 0, c, h => by
    have e : a = c := by simpa using h
    subst e
    simp only [List.set_cons_zero, ev]
    grind
  | a :: r, i + 1, c, h => by
    have h' : r[i]? = some c := by simpa using h
    simp only [List.set_cons_succ, ev, ev_set x d r i c h', Int.pow_succ]
    grind
theorem nrm_set (d : Int) : ∀ (l : List Int) (i : Nat) (c : Int), l[i]? = some c → nrm (l.set i (c + d)) ≤ nrm l + d.natAbs
  | [], i, c, h => by simp at h
  | a :: r, 0, c, h => by
    have e : a = c := by simpa using h
    subst e
    simp only [List.set_cons_zero, nrm]
    omega
  | a :: r, i + 1, c, h => by
    have h' : r[i]? = some c := by simpa using h
    have := nrm_set d r i c h'
    simp only [List.set_cons_succ, nrm]
    omega
theorem ev_take (x : Int) {l : List Int} {i : Nat} {c : Int} (h : l[i]? = some c) : ev x (l.take (i + 1)) = ev x (l.take i) + x ^ i * c := by
  have hi : i < l.length := (List.getElem?_eq_some_iff.mp h).1
  rw [List.take_add_one, h, ev_append]
  simp [ev, Nat.min_eq_left (Nat.le_of_lt hi)]
theorem nrm_take {l : List Int} {i : Nat} {c : Int} (h : l[i]? = some c) : nrm (l.take (i + 1)) = nrm (l.take i) + c.natAbs := by
  rw [List.take_add_one, h, nrm_append]
  simp [nrm]
theorem ev_drop (x : Int) {l : List Int} {i : Nat} {c : Int} (h : l[i]? = some c) : ev x (l.drop i) = c + x * ev x (l.drop (i + 1)) := by
  obtain ⟨hi, e⟩ := List.getElem?_eq_some_iff.mp h
  rw [List.drop_eq_getElem_cons hi, e]
  rfl
theorem nrm_drop (l : List Int) (i : Nat) : nrm (l.drop i) ≤ nrm l := by
  have := nrm_append (l.take i) (l.drop i)
  rw [List.take_append_drop] at this
  omega
def hv (t b : Int) : List Int → Int
  | [] => 0
  | c :: r => hv t b r * t + c * b ^ r.length
theorem hv_drop (t b : Int) {l : List Int} {i : Nat} {c : Int} (h : l[i]? = some c) : hv t b (l.drop i) = hv t b (l.drop (i + 1)) * t + c * b ^ (l.length - (i + 1)) := by
  obtain ⟨hi, e⟩ := List.getElem?_eq_some_iff.mp h
  rw [List.drop_eq_getElem_cons hi, e]
  simp [hv]
theorem hv_one (t : Int) (l : List Int) : hv t 1 l = ev t l := by
  induction l with
  | nil => rfl
  | cons c r ih =>
    simp only [hv, ev, ih, Int.one_pow]
    grind
theorem hv_le {t b : Int} {X : Nat} (ht : t.natAbs ≤ X) (hb : b.natAbs ≤ X) (h1 : 1 ≤ X) : ∀ l : List Int, (hv t b l).natAbs ≤ nrm l * X ^ (l.length - 1)
  | [] => by simp [hv, nrm]
  | [c] => by simp [hv, nrm]
  | c :: d :: r => by
    have ih := hv_le ht hb h1 (d :: r)
    have e0 : hv t b (c :: d :: r) = hv t b (d :: r) * t + c * b ^ (d :: r).length := rfl
    rw [e0]
    simp only [nrm, List.length_cons, Nat.add_sub_cancel] at ih ⊢
    have e1 := Int.natAbs_add_le (hv t b (d :: r) * t) (c * b ^ (r.length + 1))
    rw [Int.natAbs_mul, Int.natAbs_mul, Int.natAbs_pow] at e1
    have e2 : (hv t b (d :: r)).natAbs * t.natAbs ≤ ((d.natAbs + nrm r) * X ^ r.length) * X := Nat.mul_le_mul ih ht
    have e3 : c.natAbs * b.natAbs ^ (r.length + 1) ≤ c.natAbs * X ^ (r.length + 1) := Nat.mul_le_mul_left _ (Nat.pow_le_pow_left hb _)
    have e4 : ((d.natAbs + nrm r) * X ^ r.length) * X = (d.natAbs + nrm r) * X ^ (r.length + 1) := by rw [Nat.pow_succ, Nat.mul_assoc]
    have e5 : (c.natAbs + (d.natAbs + nrm r)) * X ^ (r.length + 1) = c.natAbs * X ^ (r.length + 1) + (d.natAbs + nrm r) * X ^ (r.length + 1) := Nat.add_mul ..
    omega
theorem ev_big {x : Int} {l : List Int} {i : Nat} (hx : x.natAbs < 2 ^ 64) (hn : nrm l < 2 ^ 2000) (hl : l.length ≤ 1000) : (ev x (l.drop i)).natAbs < 2 ^ 66001 := by
  have h := ev_le (x := x) (X := 2 ^ 64) (by omega) (Nat.one_le_two_pow) (l.drop i)
  have h1 := nrm_drop l i
  have h2 : (2 ^ 64 : Nat) ^ ((l.drop i).length - 1) ≤ (2 ^ 64) ^ 1000 := Nat.pow_le_pow_right (by decide) (by rw [List.length_drop]; omega)
  have h3 : nrm (l.drop i) * (2 ^ 64) ^ ((l.drop i).length - 1) ≤ 2 ^ 2000 * (2 ^ 64) ^ 1000 := Nat.mul_le_mul (by omega) h2
  have h4 : (2 : Nat) ^ 2000 * (2 ^ 64) ^ 1000 = 2 ^ 66000 := by rw [← Nat.pow_mul, ← Nat.pow_add]
  have h5 : (2 : Nat) ^ 66000 < 2 ^ 66001 := Nat.pow_lt_pow_right (by decide) (by decide)
  omega
theorem hv_big {t b : Int} {l : List Int} {i : Nat} (ht : t.natAbs < 2 ^ 64) (hb : b.natAbs < 2 ^ 64) (hn : nrm l < 2 ^ 2000) (hl : l.length ≤ 1000) : (hv t b (l.drop i)).natAbs < 2 ^ 66001 := by
  have h := hv_le (t := t) (b := b) (X := 2 ^ 64) (by omega) (by omega) (Nat.one_le_two_pow) (l.drop i)
  have h1 := nrm_drop l i
  have h2 : (2 ^ 64 : Nat) ^ ((l.drop i).length - 1) ≤ (2 ^ 64) ^ 1000 := Nat.pow_le_pow_right (by decide) (by rw [List.length_drop]; omega)
  have h3 : nrm (l.drop i) * (2 ^ 64) ^ ((l.drop i).length - 1) ≤ 2 ^ 2000 * (2 ^ 64) ^ 1000 := Nat.mul_le_mul (by omega) h2
  have h4 : (2 : Nat) ^ 2000 * (2 ^ 64) ^ 1000 = 2 ^ 66000 := by rw [← Nat.pow_mul, ← Nat.pow_add]
  have h5 : (2 : Nat) ^ 66000 < 2 ^ 66001 := Nat.pow_lt_pow_right (by decide) (by decide)
  omega
end PM
namespace PM
def low (t b : Int) : Int × Int := (t / ((Nat.gcd t.natAbs b.natAbs : Nat) : Int), b / ((Nat.gcd t.natAbs b.natAbs : Nat) : Int))
theorem low_mul {t b c : Int} (hc : 0 < c) : low (t * c) (b * c) = low t b := by
  unfold low
  have e : Nat.gcd (t * c).natAbs (b * c).natAbs = Nat.gcd t.natAbs b.natAbs * c.natAbs := by
    rw [Int.natAbs_mul, Int.natAbs_mul, Nat.gcd_mul_right]
  have ec : ((c.natAbs : Nat) : Int) = c := by omega
  rw [e, Int.natCast_mul, ec, Int.mul_ediv_mul_of_pos_left _ _ hc, Int.mul_ediv_mul_of_pos_left _ _ hc]
theorem pow_bits {b : Int} {i n : Nat} (hb : b.natAbs < 2 ^ 64) (hi : i ≤ n) : (b ^ i).natAbs < 2 ^ (64 * n + 1) := by
  rw [Int.natAbs_pow]
  have h1 : b.natAbs ^ i ≤ (2 ^ 64) ^ i := Nat.pow_le_pow_left (Nat.le_of_lt hb) _
  have h2 : ((2 : Nat) ^ 64) ^ i ≤ (2 ^ 64) ^ n := Nat.pow_le_pow_right (by decide) hi
  have h3 : ((2 : Nat) ^ 64) ^ n = 2 ^ (64 * n) := by rw [← Nat.pow_mul]
  have h4 : (2 : Nat) ^ (64 * n) < 2 ^ (64 * n + 1) := Nat.pow_lt_pow_right (by decide) (by omega)
  omega
theorem pow_pos' {b : Int} (h : 0 < b) (n : Nat) : 0 < b ^ n := Int.pow_pos h
end PM
namespace PM
theorem ev_bits {b : Nat} {x : Int} {l : List Int} {i : Nat} (hx : x.natAbs < 2 ^ b) (hn : nrm l < 2 ^ 2000) (hl : l.length ≤ 1000) : (ev x (l.drop i)).natAbs < 2 ^ (2000 + b * 1000 + 1) := by
  have h := ev_le (x := x) (X := 2 ^ b) (by omega) (Nat.one_le_two_pow) (l.drop i)
  have h1 := nrm_drop l i
  have h2 : (2 ^ b : Nat) ^ ((l.drop i).length - 1) ≤ (2 ^ b) ^ 1000 := Nat.pow_le_pow_right (Nat.one_le_two_pow) (by rw [List.length_drop]; omega)
  have h3 : nrm (l.drop i) * (2 ^ b) ^ ((l.drop i).length - 1) ≤ 2 ^ 2000 * (2 ^ b) ^ 1000 := Nat.mul_le_mul (by omega) h2
  have h4 : (2 : Nat) ^ 2000 * (2 ^ b) ^ 1000 = 2 ^ (2000 + b * 1000) := by rw [← Nat.pow_mul, ← Nat.pow_add]
  have h5 : (2 : Nat) ^ (2000 + b * 1000) < 2 ^ (2000 + b * 1000 + 1) := Nat.pow_lt_pow_right (by decide) (Nat.lt_succ_self _)
  omega
theorem nrm_len {l : List Int} {k : Nat} (h : ∀ c ∈ l, c.natAbs ≤ k) : nrm l ≤ l.length * k := by
  induction l with
  | nil => simp [nrm]
  | cons c r ih =>
    have h1 := h c (List.mem_cons_self ..)
    have h2 := ih fun d hd => h d (List.mem_cons_of_mem _ hd)
    simp only [nrm, List.length_cons, Nat.add_mul, Nat.one_mul]
    omega
end PM
end
section
set_option maxRecDepth 100000
namespace LM
open PySem
def four : List (List Int) := [[0, 0, 0, 0], [0, 1, 2, 3], [0, 2, 3, 1], [0, 3, 1, 2]]
def lsum (q a b : Int) : Int := if q = 4 then Builtin.bitXor a b else (a + b).fmod q
def lneg (q a : Int) : Int := if q = 4 then a else (0 - a).fmod q
def ltim (q a b : Int) : Int := if q = 4 then (four.getD a.toNat []).getD b.toNat 0 else (a * b).fmod q
structure LetQ (q : Int) : Prop where
  lo : 2 ≤ q
  hi : q ≤ 5
def linv (q a : Int) : Int := (((List.range q.toNat).map (fun n : Nat => (n : Int))).find? fun x => decide (ltim q a x = 1)).getD 0
def IsLet (q a : Int) : Prop := 0 ≤ a ∧ a < q
theorem invs_next (q a : Int) (i : Nat) : (((List.range (i + 1)).map (fun n : Nat => (n : Int))).filter fun x => decide (ltim q a x = 1)) =
    (((List.range i).map (fun n : Nat => (n : Int))).filter fun x => decide (ltim q a x = 1)) ++ (if decide (ltim q a (i : Int) = 1) = true then [(i : Int)] else []) := by
  rw [List.range_succ, List.map_append, List.filter_append]
  congr 1
  by_cases c : ltim q a (i : Int) = 1
  · simp [c]
  · simp [c]
theorem linv_some {q a : Int} (hq : LetQ q) (ha : IsLet q a) (a0 : a ≠ 0) : (((List.range q.toNat).map (fun n : Nat => (n : Int))).find? fun x => decide (ltim q a x = 1)).isSome = true := by
  obtain ⟨h1, h2⟩ := hq
  obtain ⟨h3, h4⟩ := ha
  have hc : q = 2 ∨ q = 3 ∨ q = 4 ∨ q = 5 := by omega
  have ac : a = 1 ∨ a = 2 ∨ a = 3 ∨ a = 4 := by omega
  rcases hc with rfl | rfl | rfl | rfl <;> rcases ac with rfl | rfl | rfl | rfl <;> first | (exfalso; omega) | decide
def IsRow (q : Int) (ns : List Int) : Prop := ∀ c ∈ ns, IsLet q c
theorem four_cases {q a : Int} (e : q = 4) (h : IsLet q a) : a = 0 ∨ a = 1 ∨ a = 2 ∨ a = 3 := by
  obtain ⟨h1, h2⟩ := h
  omega
theorem let_fmod {q : Int} (hq : LetQ q) (x : Int) : IsLet q (x.fmod q) := by
  have := hq.lo
  exact ⟨Int.fmod_nonneg_of_pos _ (by omega), Int.fmod_lt_of_pos _ (by omega)⟩
theorem let_sum {q a b : Int} (hq : LetQ q) (ha : IsLet q a) (hb : IsLet q b) : IsLet q (lsum q a b) := by
  unfold lsum
  split
  · rename_i e
    rcases four_cases e ha with rfl | rfl | rfl | rfl <;> rcases four_cases e hb with rfl | rfl | rfl | rfl <;> subst e <;> exact ⟨by decide, by decide⟩
  · exact let_fmod hq _
theorem let_neg {q a : Int} (hq : LetQ q) (ha : IsLet q a) : IsLet q (lneg q a) := by
  unfold lneg
  split
  · exact ha
  · exact let_fmod hq _
theorem let_tim {q a b : Int} (hq : LetQ q) (ha : IsLet q a) (hb : IsLet q b) : IsLet q (ltim q a b) := by
  unfold ltim
  split
  · rename_i e
    rcases four_cases e ha with rfl | rfl | rfl | rfl <;> rcases four_cases e hb with rfl | rfl | rfl | rfl <;> subst e <;> exact ⟨by decide, by decide⟩
  · exact let_fmod hq _
theorem let_inv {q a : Int} (hq : LetQ q) (ha : IsLet q a) (a0 : a ≠ 0) : IsLet q (linv q a) := by
  have hs := linv_some hq ha a0
  unfold linv
  cases hf : ((List.range q.toNat).map (fun n : Nat => (n : Int))).find? fun x => decide (ltim q a x = 1) with
  | none =>
    rw [hf] at hs
    cases hs
  | some x =>
    obtain ⟨n, hn, rfl⟩ := List.mem_map.mp (List.mem_of_find?_eq_some hf)
    rw [List.mem_range] at hn
    exact ⟨by simp, by simp; omega⟩
def wza (q : Int) (p : Nat) (row head : List Int) : List Int := List.zipWith (lsum q) row (head.map (ltim q (lneg q (row.getD p 0))))
theorem row_at {q : Int} {ns : List Int} (h : IsRow q ns) {p : Nat} (hp : p < ns.length) : IsLet q (ns.getD p 0) := by
  rw [List.getD_eq_getElem?_getD, List.getElem?_eq_getElem hp]
  exact h _ (List.getElem_mem hp)
theorem row_wza {q : Int} (hq : LetQ q) {p : Nat} {row head : List Int} (hr : IsRow q row) (hh : IsRow q head) (hp : p < row.length) : IsRow q (wza q p row head) := by
  intro c hc
  unfold wza at hc
  obtain ⟨i, hi, rfl⟩ := List.mem_iff_getElem.mp hc
  rw [List.getElem_zipWith, List.getElem_map]
  exact let_sum hq (hr _ (List.getElem_mem _)) (let_tim hq (let_neg hq (row_at hr hp)) (hh _ (List.getElem_mem _)))
def gstep (q : Int) (s : List (List Int) × List (List Int)) (p : Nat) : List (List Int) × List (List Int) :=
  match s.1.filter (fun r => r.getD p 0 != 0) with
  | [] => s
  | h :: _ => (s.1.map fun r => wza q p r (h.map (ltim q (linv q (h.getD p 0)))), (s.2.map fun r => wza q p r (h.map (ltim q (linv q (h.getD p 0))))) ++ [h.map (ltim q (linv q (h.getD p 0)))])
def gauss (q : Int) (n : Nat) (rows : List (List Int)) : List (List Int) := ((List.range n).foldl (gstep q) (rows, [])).2
def AllR (q : Int) (n : Nat) (Ls : List (List Int)) : Prop := ∀ r ∈ Ls, IsRow q r ∧ r.length = n
end LM
end
section
set_option maxRecDepth 100000
set_option maxHeartbeats 4000000
namespace MB
open PySem PySem.Spec PyProof.Rows L2
def p1k1 {α : Type} : List α → List α → List α
  | [a], [b] => [a, b]
  | _, _ => []
def kDef {α : Type} (v : α) : List α → List α → List α
  | [], [b] => [b, v]
  | _, _ => []
theorem kb_p1k1 {K : PySem.W.Frag} {fd : FuncData} {p q : Str} (h : ∀ a b : Value, bindArgs fd ⟨[a], [(q, b)]⟩ = pure [(p, a), (q, b)]) : KBinds K fd [p, q] [q] p1k1 p1k1 where
  to := fun s us ws _ hl => by
    match us, ws, hl with
    | [a], [b], _ => exact .of_eq (h a b)
  rel := fun {vs us zs ws} r rz => by
    cases r with
    | nil => exact .nil
    | cons r1 r' =>
      cases r' with
      | cons _ _ => exact .nil
      | nil =>
        cases rz with
        | nil => exact .nil
        | cons r2 rz' =>
          cases rz' with
          | cons _ _ => exact .nil
          | nil => exact .cons r1 (.cons r2 .nil)
theorem kb_def {K : PySem.W.Frag} {fd : FuncData} {p q : Str} {v : Value} {x : V} (hv : RelV x v) (h : ∀ (S : Setting) (b : Value), PySem.W.peek K S (bindArgs fd ⟨[], [(p, b)]⟩) = some [(p, b), (q, v)]) : KBinds K fd [p, q] [p] (kDef v) (kDef x) where
  to := fun s us ws hi hl => by
    match us, ws, hl with
    | [], [b], _ => exact PySem.W.kp_binds hi fun S => h S b
  rel := fun {vs us zs ws} r rz => by
    cases r with
    | cons _ _ => exact .nil
    | nil =>
      cases rz with
      | nil => exact .nil
      | cons r2 rz' =>
        cases rz' with
        | cons _ _ => exact .nil
        | nil => exact .cons r2 (.cons hv .nil)
theorem b_def {K : PySem.W.Frag} {fd : FuncData} {p q : Str} {v : Value} (h : ∀ (S : Setting) (b : Value), PySem.W.peek K S (bindArgs fd ⟨[b], []⟩) = some [(p, b), (q, v)]) : Binds K fd [p, q] [v] := fun s us hi hl => by
  obtain ⟨b, rfl⟩ := List.length_eq_one_iff.mp (show us.length = 1 by simpa using hl)
  exact PySem.W.kp_binds hi fun S => h S b
section
variable {X : Cx} {CX : CXT} {k : Nat} {f : Addr} {fd : FuncData} {ps ks : List Str} {sp : Sp} {E : L2.St → XK} {x : Str} {p pos : Pos} {e : Expr} {es : List Expr} {t tk : TA} {dvs : List V} {ds : List Value} {kws : List Keyword}
variable {gu : List Value → List Value → List Value} {gV : List V → List V → List V}
def tCallSD (sp : Sp) (dvs : List V) (E : L2.St → XK) (t : TA) : TE := fun σ H Q => t σ H fun vs H1 => sp (vs ++ dvs) H1 Q (E σ)
theorem pe_callSD (F : FnOk X.prog X.w X.K X.mg X.base CX k f fd ps sp) (hr : Room k X.A) (hg : Gl X x) (hm : X.mg x = some (.ref f)) (hk : PySem.W.keepIn X.K (.ref f) = true) (hb : Binds X.K fd ps ds) (hd : Vals dvs ds) (hx : ∀ σ, PassesAt CX X σ (E σ))
    (ha : PA X (e :: es) t) (hdb : (x == ("__debug__" : Str)) = false := by decide) (he : starEach (e :: es) X.env = (false, eval e X.env) :: starEach es X.env := by rfl) (hpl : (backTo pos (starEach es X.env)).any (·.1) = false := by rfl) :
    PE X (.Call (.Name x p) (e :: es) [] pos) (tCallSD sp dvs E t) := by
  refine ⟨fun pins s σ H Q I h => ?_⟩
  refine wpAny_Call_Name_kw (ld_glob I hg hm ?_ hdb)
  refine PySem.W.callWith_K (h₀ := X.base) I.ok.mod.kin hk (thn (ha.run pos pins s σ H _ I h) fun us s1 ⟨vs, H1, I1, r, q⟩ => ⟨I1.kIn, ?_⟩) he hpl
  have r2 : Vals (vs ++ dvs) (us ++ ds) := r.append hd
  have hl : (us ++ ds).length = ps.length := by rw [← r2.length]; exact F.len _ _ _ _ q
  refine wpAny_call (codeAny_mono (F.run X.A X.stack s1 H1 ⟨us, []⟩ (us ++ ds) (vs ++ dvs) Q (E σ) hr I1.env0 (hb s1 us I1.kIn hl) r2 q) fun r s' hq => ?_)
  cases r with
  | error e => exact hx σ pins H1 s1 e s' I1 hq
  | ok fl =>
    cases fl with
    | ret u => exact I1.after hq
    | next | brk | cont => exact False.elim hq
def tCallKS (sp : Sp) (gV : List V → List V → List V) (E : L2.St → XK) (t tk : TA) : TE := fun σ H Q => t σ H fun vs H1 => tk σ H1 fun zs H2 => sp (gV vs zs) H2 Q (E σ)
theorem pe_callKS (F : FnOk X.prog X.w X.K X.mg X.base CX k f fd ps sp) (hr : Room k X.A) (hg : Gl X x) (hm : X.mg x = some (.ref f)) (hk : PySem.W.keepIn X.K (.ref f) = true) (hb : KBinds X.K fd ps ks gu gV) (hx : ∀ σ, PassesAt CX X σ (E σ))
    (ha : PA X (e :: es) t) (hkw : PK X kws tk) (hall : (backToKw pos (keywordEach kws X.env)).all (·.1.isSome) = true := by rfl) (hks : (backToKw pos (keywordEach kws X.env)).filterMap (·.1) = ks := by rfl)
    (hdb : (x == ("__debug__" : Str)) = false := by decide) (he : starEach (e :: es) X.env = (false, eval e X.env) :: starEach es X.env := by rfl)
    (hpl : ((backTo pos (starEach (e :: es) X.env)).any (·.1) || (backToKw pos (keywordEach kws X.env)).any (·.1.isNone)) = false := by rfl) :
    PE X (.Call (.Name x p) (e :: es) kws pos) (tCallKS sp gV E t tk) := by
  refine ⟨fun pins s σ H Q I h => ?_⟩
  refine wpAny_Call_Name_kw (ld_glob I hg hm ?_ hdb)
  refine PySem.W.callWith_KW (h₀ := X.base) I.ok.mod.kin hk hall (thn (ha.run pos pins s σ H _ I h) fun us s1 ⟨vs, H1, I1, r, q⟩ => ?_) hpl he
  refine thn (hkw.run pos pins s1 σ H1 _ I1 q) fun ws s2 ⟨zs, H2, I2, rz, q2⟩ => ⟨I2.kIn, ?_⟩
  rw [hks]
  have r2 := hb.rel r rz
  have hl : (gu us ws).length = ps.length := by rw [← r2.length]; exact F.len _ _ _ _ q2
  refine wpAny_call (codeAny_mono (F.run X.A X.stack s2 H2 ⟨us, ks.zip ws⟩ (gu us ws) (gV vs zs) Q (E σ) hr I2.env0 (hb.to s2 us ws I2.kIn hl) r2 q2) fun r s' hq => ?_)
  cases r with
  | error e => exact hx σ pins H2 s2 e s' I2 hq
  | ok fl =>
    cases fl with
    | ret u => exact I2.after hq
    | next | brk | cont => exact False.elim hq
end
end MB
end
section
set_option maxRecDepth 100000
set_option maxHeartbeats 4000000
namespace MB
open PySem PySem.Spec PyProof.Rows L2
section
variable {prog : Program} {w : World} {A : Around} {s : Shared}
theorem swo_int {α : Type} (r : α → Int) : SrtO.Swo fun v u => decide (r v < r u) := by
  refine ⟨fun x y h => ?_, fun x y z h1 h2 => ?_⟩
  · have a := of_decide_eq_true h
    exact decide_eq_false (by omega)
  · have a := of_decide_eq_false h1
    have b := of_decide_eq_false h2
    exact decide_eq_false (by omega)
theorem tups_sortable {a : Addr} {vs : List Value} {d : Nat} {B : Int} (hd : 1 ≤ d) (h0 : 0 < vs.length) (hp : TS.TupsOk s.heap d B vs) (ha : ∀ o, s.heap.get? a = some o → o.cls ≠ .type "tuple")
    (r : Value → Int) (hr : ∀ v, v ∈ vs → ∀ ns, TS.TupInts s.heap v ns → r v = TS.code B ns) : SrtO.SortableO prog w A s a vs fun v u => decide (r v < r u) := by
  intro h' keep
  have kp : ∀ b o, s.heap.get? b = some o → o.cls = .type "tuple" → h'.get? b = some o := fun b o e c => keep b o (fun z => by subst z; exact ha o e c) e
  have hp' := hp.keeps kp
  obtain ⟨fs, h1, h2, h3⟩ := TS.firsts_of hd vs hp'
  refine ⟨tuples' true, fun Q E hq => ?_, fun p q hm hm' => ?_⟩
  · refine PySem.W.kat_kind (T := .type "int") h1 (by omega) (fun f hm => ?_) (by rfl) ?_
    · obtain ⟨x, t, rfl⟩ := h3 f hm
      exact PySem.W.Looks.now
    · have e : (Value.type "int" != Value.type "tuple") = true := by first | decide +kernel | rfl | decide
      rw [e]
      exact hq
  · obtain ⟨ns, tp, lp, bp⟩ := hp _ hm
    obtain ⟨ms, tq, lq, bq⟩ := hp _ hm'
    have e1 := hr _ hm _ tp
    have e2 := hr _ hm' _ tq
    replace tp := tp.keeps kp
    replace tq := tq.keeps kp
    show wpAny (model prog w) A (keyLt' (tuples' true) p.1 q.1) (fun b s' => s' = { s with heap := h' } ∧ b = decide (r p.1 < r q.1)) (fun _ _ => False) { s with heap := h' }
    rw [e1, e2]
    obtain ⟨a1, xs, x1, ⟨o, ho, hc, n, hdt⟩, i⟩ := tp
    obtain ⟨a2, ys, x2, ⟨o', ho', hc', n', hdt'⟩, i'⟩ := tq
    rw [x1, x2]
    refine PySem.W.kat_lt ho hdt ho' hdt' ?_
    have sz : decide (xs.size < ys.size) = false := by
      have l1 := i.length
      have l2 := i'.length
      rw [Array.length_toList] at l1 l2
      exact decide_eq_false (by omega)
    rw [sz]
    exact TS.lex_ints 0 i i' (by omega) bp bq ⟨rfl, rfl⟩
end
def rSortTB (K : PySem.W.Frag) (d : Nat) (B : Int) : List V → Hp → VK → Prop := fun vs H Q => ∃ (a : Addr) (xs : List V), vs = [V.ref a] ∧ SqL K H a xs ∧ (∀ x ∈ xs, ∃ ns, TupI K H x ns ∧ ns.length = d ∧ TS.Bd B ns) ∧
  ∀ (ys : List V) (p : Addr), ys.Perm xs → ys.Pairwise (fun x y => ∀ n m, TupI K H x n → TupI K H y m → TS.code B n ≤ TS.code B m) → H p = none → Q (.ref p) (upd H p (.lst ys))
theorem cr_sortTB {X : Cx} {d : Nat} {B : Int} (hd : 1 ≤ d) : CallR X (.builtin "sorted") (rSortTB X.K d B) := by
  intro pins s σ H vs us Q I r h
  obtain ⟨a, xs, rfl, hs, hx, q⟩ := h
  obtain ⟨its, rv, hl, hz⟩ := I.list hs
  rw [Vals.ref1 r]
  obtain ⟨e1, e2⟩ := bkV_refs rv fun x m => by
    obtain ⟨ns, ⟨t, e, _⟩, _⟩ := hx x m
    exact ⟨t, e⟩
  have ok : TS.TupsOk s.heap d B its := fun v hv => by
    obtain ⟨t, rfl⟩ := e2 v hv
    have hm : V.ref t ∈ xs := by
      rw [e1]
      exact List.mem_map.mpr ⟨_, hv, rfl⟩
    obtain ⟨ns, ⟨t', e, ht⟩, hn, hb⟩ := hx _ hm
    cases e
    exact ⟨ns, tupI_raw I ht, hn, hb⟩
  refine SrtO.sorted_ord (swo_int fun v => TS.code B (TS.intsOf s.heap v)) hl.isList (by rw [← rv.length]; exact hz) (fun h2 h₁ a' ha kk => ?_) fun out h1 h2 => ?_
  · have kp : ∀ b o, s.heap.get? b = some o → o.cls = .type "tuple" → h₁.get? b = some o := fun b o e _ => (kk b o e).2
    refine tups_sortable (s := { s with heap := h₁ }) hd (by omega) (ok.keeps kp) (fun o e => ?_) _ fun v hv ns t => ?_
    · have e' : some o = some (seqObj "list" its.toArray 0) := e.symm.trans ha
      cases e'
      intro c
      exact absurd (Value.type.inj c) (by decide)
    · obtain ⟨ns0, t0, _⟩ := ok v hv
      have e : ns = ns0 := t.ints.symm.trans (t0.keeps kp).ints
      rw [e]
      show TS.code B (TS.intsOf s.heap v) = TS.code B ns0
      rw [t0.ints]
  · have h3 : ∀ u ∈ out, ∃ a, u = Value.ref a := fun u hu => e2 u (h2.perm.mem_iff.mp hu)
    have hp : (out.map bkV).Perm xs := by
      rw [e1]
      exact h2.perm.map bkV
    have hlen : (out.map bkV).length ≤ sizeLine := by
      rw [hp.length_eq]
      exact hz
    obtain ⟨n, hn⟩ := PyProof.Rows.sortedAll_at s.heap its out.toArray
    refine ⟨.ref _, upd H (s.heap.objs.size + 1) (.lst (out.map bkV)), I.laid (t' := s.toks) (fun _ _ => PyProof.Rows.sortedAll_old) (Nat.le_succ _) ⟨hlen, out, n, bkV_vals h3, hn⟩, rfl, q _ _ hp ?_ (I.hok.fresh (Nat.le_succ _))⟩
    rw [List.pairwise_map]
    refine List.Pairwise.imp (fun {u v} huv n m hn hm => ?_) h1
    obtain ⟨t, et, ht⟩ := hn
    obtain ⟨t', et', ht'⟩ := hm
    have eu := bkV_ref et
    have ev := bkV_ref et'
    have i1 : TS.intsOf s.heap u = n := by
      rw [eu]
      exact (tupI_raw I ht).ints
    have i2 : TS.intsOf s.heap v = m := by
      rw [ev]
      exact (tupI_raw I ht').ints
    rw [← i1, ← i2]
    exact Int.not_lt.mp (of_decide_eq_false huv)
end MB
end
section
set_option maxRecDepth 100000
set_option maxHeartbeats 4000000
namespace MB
open PySem PySem.Spec PyProof.Rows L2
section
variable {J : It} {n : Nat} {G : Hp → Prop} {Y : Nat → Hp → V → Hp → Prop}
theorem in_it (w : Walk J n G Y) {g : TG} {tt : TT} {te : TE} {vs : List Nat} {σ : L2.St} {H0 : Hp} {D : Addr} {Nx : Hp → Prop} (Pv : Nat → Hp → Prop) (h0 : Pv 0 H0) (hG : ∀ i H, i ≤ n → Pv i H → G H)
    (hs : ∀ i x H H', i < n → Pv i H → Y i H x H' → g x (wipe σ vs) H' fun σ3 H5 => wipe σ3 vs = wipe σ vs ∧ tt σ3 H5 fun b H6 =>
      if b = true then te σ3 H6 fun y H7 => ∃ acc, H7 D = some (.lst acc) ∧ acc.length < sizeLine ∧ Pv (i + 1) (upd H7 D (.lst (acc ++ [y]))) else Pv (i + 1) H6) (hd : ∀ H, Pv n H → Nx H) :
    ∃ W1 : Nat → Nat → Hp → Prop, (∃ m, W1 0 m H0) ∧ ∀ j k H, W1 j k H →
      (J.stop j H ∧ Nx H) ∨ (J.go j H ∧ ∃ Nx1 : Hp → Prop, (∀ H', Nx1 H' → ∃ k', k' < k ∧ W1 (j + 1) k' H') ∧ ∀ x H', J.yld j H x H' → g x (wipe σ vs) H' fun σ3 H5 => wipe σ3 vs = wipe σ vs ∧ tt σ3 H5 fun b H6 =>
        if b = true then te σ3 H6 fun y H7 => ∃ acc, H7 D = some (.lst acc) ∧ acc.length < sizeLine ∧ Nx1 (upd H7 D (.lst (acc ++ [y]))) else Nx1 H6) := by
  refine ⟨fun i m H => m = n - i ∧ i ≤ n ∧ Pv i H, ⟨n, by simp, Nat.zero_le _, h0⟩, ?_⟩
  rintro i m H ⟨rfl, hi, p⟩
  have q := hG i H hi p
  by_cases hlt : i < n
  · refine .inr ⟨w.goes i H hlt q, Pv (i + 1), fun H' p' => ⟨n - (i + 1), by omega, rfl, hlt, p'⟩, fun x H' y => hs i x H H' hlt p (w.yields i H x H' hlt q y)⟩
  · have e : i = n := by omega
    subst e
    exact .inl ⟨w.stops H q, hd H p⟩
theorem out_it (w : Walk J n G Y) {g : TG} {tt : TT} {vs : List Nat} {σ : L2.St} {H1 : Hp} {D : Addr} {Qd : Hp → Prop} {B : (Hp → Prop) → L2.St → Hp → Prop} (Pv : Nat → Hp → Prop) (h0 : Pv 0 (upd H1 D (.lst []))) (hG : ∀ i H, i ≤ n → Pv i H → G H)
    (hs : ∀ i x H H', i < n → Pv i H → Y i H x H' → g x (wipe σ vs) H' fun σ2 H2 => wipe σ2 vs = wipe σ vs ∧ tt σ2 H2 fun b H3 => if b = true then B (Pv (i + 1)) σ2 H3 else Pv (i + 1) H3) (hd : ∀ H, Pv n H → Qd H) :
    ∃ W : Nat → Nat → Hp → Prop, (∃ m, W 0 m (upd H1 D (.lst []))) ∧ ∀ i m H, W i m H →
      (J.stop i H ∧ Qd H) ∨ (J.go i H ∧ ∃ Nx : Hp → Prop, (∀ H', Nx H' → ∃ m', m' < m ∧ W (i + 1) m' H') ∧ ∀ x H', J.yld i H x H' → g x (wipe σ vs) H' fun σ2 H2 => wipe σ2 vs = wipe σ vs ∧ tt σ2 H2 fun b H3 =>
        if b = true then B Nx σ2 H3 else Nx H3) := by
  refine ⟨fun i m H => m = n - i ∧ i ≤ n ∧ Pv i H, ⟨n, by simp, Nat.zero_le _, h0⟩, ?_⟩
  rintro i m H ⟨rfl, hi, p⟩
  have q := hG i H hi p
  by_cases hlt : i < n
  · refine .inr ⟨w.goes i H hlt q, Pv (i + 1), fun H' p' => ⟨n - (i + 1), by omega, rfl, hlt, p'⟩, fun x H' y => hs i x H H' hlt p (w.yields i H x H' hlt q y)⟩
  · have e : i = n := by omega
    subst e
    exact .inl ⟨w.stops H q, hd H p⟩
end
end MB
end
section
set_option maxRecDepth 100000
namespace MB
open PySem PySem.Spec PyProof.Rows L2
def rEqNil (K : PySem.W.Frag) : R2 := fun x y H Q => ∃ a b xs, x = .ref a ∧ y = .ref b ∧ SqL K H a xs ∧ SqL K H b [] ∧ Q (.bl xs.isEmpty) H
theorem op_eqNil {X : Cx} (hu : X.A.units + 64 < cLine) : OpR X (compareOp .Eq) (rEqNil X.K) := by
  intro pins s σ H x y v u Q I rx ry h
  obtain ⟨a, b, xs, rfl, rfl, ha, hb, q⟩ := h
  cases rx
  cases ry
  obtain ⟨its, rv, ⟨o, n, ho, hc, hn, hd⟩, _⟩ := I.list ha
  obtain ⟨its2, rv2, ⟨o2, n2, ho2, hc2, hn2, hd2⟩, _⟩ := I.list hb
  cases rv2
  have la : s.heap.IsList a its.toArray := by first | exact ⟨o, ho, hc, n, hd⟩ | exact ⟨o, ho, hc, hd⟩
  have lb : s.heap.IsList b ([] : List Value).toArray := by first | exact ⟨o2, ho2, hc2, n2, hd2⟩ | exact ⟨o2, ho2, hc2, hd2⟩
  show wpAny (model X.prog X.w) X.A (richCompare .Eq (.ref a) (.ref b)) (EP X pins σ Q) X.xe s
  have hu1 : X.A.units < cLine := by omega
  cases xs with
  | nil =>
    cases rv
    exact SeqAt.RcAt.lists (e := fun _ => true) la lb rfl hu1 (fun j h1 _ => absurd h1 (by simp)) X.prog X.w X.xe _ ⟨.bl _, H, I, rfl, q⟩
  | cons z r =>
    have l1 : (its.toArray.size != ([] : List Value).toArray.size) = true := by
      cases rv
      simp
    exact SeqAt.RcAt.lists_lengths la lb l1 hu1 X.prog X.w X.xe _ ⟨.bl _, H, I, rfl, q⟩
end MB
end
section
set_option maxRecDepth 100000
namespace MB
open PySem PySem.Spec PyProof.Rows L2
def rNeNil (K : PySem.W.Frag) : R2 := fun x y H Q => ∃ a b xs, x = .ref a ∧ y = .ref b ∧ SqL K H a xs ∧ SqL K H b [] ∧ Q (.bl (!xs.isEmpty)) H
theorem op_neNil {X : Cx} (hu : X.A.units + 64 < cLine) : OpR X (compareOp .NotEq) (rNeNil X.K) := by
  intro pins s σ H x y v u Q I rx ry h
  obtain ⟨a, b, xs, rfl, rfl, ha, hb, q⟩ := h
  cases rx
  cases ry
  obtain ⟨its, rv, ⟨o, n, ho, hc, hn, hd⟩, _⟩ := I.list ha
  obtain ⟨its2, rv2, ⟨o2, n2, ho2, hc2, hn2, hd2⟩, _⟩ := I.list hb
  cases rv2
  have la : s.heap.IsList a its.toArray := by first | exact ⟨o, ho, hc, n, hd⟩ | exact ⟨o, ho, hc, hd⟩
  have lb : s.heap.IsList b ([] : List Value).toArray := by first | exact ⟨o2, ho2, hc2, n2, hd2⟩ | exact ⟨o2, ho2, hc2, hd2⟩
  show wpAny (model X.prog X.w) X.A (richCompare .NotEq (.ref a) (.ref b)) (EP X pins σ Q) X.xe s
  have hu1 : X.A.units < cLine := by omega
  cases xs with
  | nil =>
    cases rv
    exact SeqAt.RcNeAt.lists (e := fun _ => true) la lb rfl hu1 (fun j h1 _ => absurd h1 (by simp)) X.prog X.w X.xe _ ⟨.bl _, H, I, rfl, q⟩
  | cons z r =>
    have l1 : (its.toArray.size != ([] : List Value).toArray.size) = true := by
      cases rv
      simp
    exact SeqAt.RcNeAt.lists_lengths la lb l1 hu1 X.prog X.w X.xe _ ⟨.bl _, H, I, rfl, q⟩
end MB
end
section
set_option maxRecDepth 100000
set_option maxHeartbeats 4000000
namespace K11
open PySem PySem.Spec PyProof.Rows L2 MB PM LM
open LamX hiding takes0
section
variable {α : Type}
def bca3 : List α → List α → List α
  | [], [a, b, c] => [b, c, a]
  | _, _ => []
def bac3 : List α → List α → List α
  | [], [a, b, c] => [b, a, c]
  | _, _ => []
def cba3 : List α → List α → List α
  | [], [a, b, c] => [c, b, a]
  | _, _ => []
def cab3 : List α → List α → List α
  | [], [a, b, c] => [c, a, b]
  | _, _ => []
end
theorem kbca3 {K : PySem.W.Frag} {fd : FuncData} {p q r : Str} (h : ∀ a b c : Value, bindArgs fd ⟨[], [(r, a), (p, b), (q, c)]⟩ = pure [(p, b), (q, c), (r, a)]) :
    KBinds K fd [p, q, r] [r, p, q] bca3 bca3 where
  to := fun s us ws _ hl => by
    match us, ws, hl with
    | [], [a, b, c], _ => exact .of_eq (h a b c)
  rel := fun {vs us zs ws} r rz => by
    cases r with
    | cons _ _ => exact .nil
    | nil =>
      match rz with
      | .nil => exact .nil
      | .cons _ .nil => exact .nil
      | .cons _ (.cons _ .nil) => exact .nil
      | .cons r1 (.cons r2 (.cons r3 .nil)) => exact .cons r2 (.cons r3 (.cons r1 .nil))
      | .cons _ (.cons _ (.cons _ (.cons _ _))) => exact .nil
theorem kbac3 {K : PySem.W.Frag} {fd : FuncData} {p q r : Str} (h : ∀ a b c : Value, bindArgs fd ⟨[], [(q, a), (p, b), (r, c)]⟩ = pure [(p, b), (q, a), (r, c)]) :
    KBinds K fd [p, q, r] [q, p, r] bac3 bac3 where
  to := fun s us ws _ hl => by
    match us, ws, hl with
    | [], [a, b, c], _ => exact .of_eq (h a b c)
  rel := fun {vs us zs ws} r rz => by
    cases r with
    | cons _ _ => exact .nil
    | nil =>
      match rz with
      | .nil => exact .nil
      | .cons _ .nil => exact .nil
      | .cons _ (.cons _ .nil) => exact .nil
      | .cons r1 (.cons r2 (.cons r3 .nil)) => exact .cons r2 (.cons r1 (.cons r3 .nil))
      | .cons _ (.cons _ (.cons _ (.cons _ _))) => exact .nil
theorem kcba3 {K : PySem.W.Frag} {fd : FuncData} {p q r : Str} (h : ∀ a b c : Value, bindArgs fd ⟨[], [(r, a), (q, b), (p, c)]⟩ = pure [(p, c), (q, b), (r, a)]) :
    KBinds K fd [p, q, r] [r, q, p] cba3 cba3 where
  to := fun s us ws _ hl => by
    match us, ws, hl with
    | [], [a, b, c], _ => exact .of_eq (h a b c)
  rel := fun {vs us zs ws} r rz => by
    cases r with
    | cons _ _ => exact .nil
    | nil =>
      match rz with
      | .nil => exact .nil
      | .cons _ .nil => exact .nil
      | .cons _ (.cons _ .nil) => exact .nil
      | .cons r1 (.cons r2 (.cons r3 .nil)) => exact .cons r3 (.cons r2 (.cons r1 .nil))
      | .cons _ (.cons _ (.cons _ (.cons _ _))) => exact .nil
theorem kcab3 {K : PySem.W.Frag} {fd : FuncData} {p q r : Str} (h : ∀ a b c : Value, bindArgs fd ⟨[], [(q, a), (r, b), (p, c)]⟩ = pure [(p, c), (q, a), (r, b)]) :
    KBinds K fd [p, q, r] [q, r, p] cab3 cab3 where
  to := fun s us ws _ hl => by
    match us, ws, hl with
    | [], [a, b, c], _ => exact .of_eq (h a b c)
  rel := fun {vs us zs ws} r rz => by
    cases r with
    | cons _ _ => exact .nil
    | nil =>
      match rz with
      | .nil => exact .nil
      | .cons _ .nil => exact .nil
      | .cons _ (.cons _ .nil) => exact .nil
      | .cons r1 (.cons r2 (.cons r3 .nil)) => exact .cons r3 (.cons r1 (.cons r2 .nil))
      | .cons _ (.cons _ (.cons _ (.cons _ _))) => exact .nil
def top (i : Nat) : Stmt := PySem.Challenge.pw_mirrorbook_k11_all_words_and_stacks.main.body.getD i (.Pass ⟨0, 0, 0, 0⟩)
abbrev P : Program := PySem.Challenge.pw_mirrorbook_k11_all_words_and_stacks
abbrev s_letter_sum : Stmt := top 11
abbrev N_letter_sum : List Str := ["q", "one", "other"]
abbrev P_letter_sum : List Str := ["q", "one", "other"]
theorem sc_letter_sum : FnScope N_letter_sum P_letter_sum (defScope s_letter_sum) := ⟨rfl, rfl, rfl, by decide +kernel, rfl, by decide +kernel, by decide +kernel⟩
abbrev s_letter_negative : Stmt := top 12
abbrev N_letter_negative : List Str := ["q", "letter"]
abbrev P_letter_negative : List Str := ["q", "letter"]
theorem sc_letter_negative : FnScope N_letter_negative P_letter_negative (defScope s_letter_negative) := ⟨rfl, rfl, rfl, by decide +kernel, rfl, by decide +kernel, by decide +kernel⟩
abbrev s_letter_times : Stmt := top 13
abbrev N_letter_times : List Str := ["q", "one", "other"]
abbrev P_letter_times : List Str := ["q", "one", "other"]
theorem sc_letter_times : FnScope N_letter_times P_letter_times (defScope s_letter_times) := ⟨rfl, rfl, rfl, by decide +kernel, rfl, by decide +kernel, by decide +kernel⟩
abbrev s_letter_inverse : Stmt := top 14
abbrev N_letter_inverse : List Str := ["q", "letter", "other"]
abbrev P_letter_inverse : List Str := ["q", "letter"]
theorem sc_letter_inverse : FnScope N_letter_inverse P_letter_inverse (defScope s_letter_inverse) := ⟨rfl, rfl, rfl, by decide +kernel, rfl, by decide +kernel, by decide +kernel⟩
abbrev s_row_sum : Stmt := top 15
abbrev N_row_sum : List Str := ["q", "one", "other", "left", "right"]
abbrev P_row_sum : List Str := ["q", "one", "other"]
theorem sc_row_sum : FnScope N_row_sum P_row_sum (defScope s_row_sum) := ⟨rfl, rfl, rfl, by decide +kernel, rfl, by decide +kernel, by decide +kernel⟩
abbrev s_row_times : Stmt := top 16
abbrev N_row_times : List Str := ["q", "letter", "row", "item"]
abbrev P_row_times : List Str := ["q", "letter", "row"]
theorem sc_row_times : FnScope N_row_times P_row_times (defScope s_row_times) := ⟨rfl, rfl, rfl, by decide +kernel, rfl, by decide +kernel, by decide +kernel⟩
abbrev s_row_support : Stmt := top 17
abbrev N_row_support : List Str := ["row", "place"]
abbrev P_row_support : List Str := ["row"]
theorem sc_row_support : FnScope N_row_support P_row_support (defScope s_row_support) := ⟨rfl, rfl, rfl, by decide +kernel, rfl, by decide +kernel, by decide +kernel⟩
abbrev s_is_integer : Stmt := top 19
abbrev N_is_integer : List Str := ["thing"]
abbrev P_is_integer : List Str := ["thing"]
theorem sc_is_integer : FnScope N_is_integer P_is_integer (defScope s_is_integer) := ⟨rfl, rfl, rfl, by decide +kernel, rfl, by decide +kernel, by decide +kernel⟩
abbrev s_is_integer_from : Stmt := top 20
abbrev N_is_integer_from : List Str := ["thing", "low", "high"]
abbrev P_is_integer_from : List Str := ["thing", "low", "high"]
theorem sc_is_integer_from : FnScope N_is_integer_from P_is_integer_from (defScope s_is_integer_from) := ⟨rfl, rfl, rfl, by decide +kernel, rfl, by decide +kernel, by decide +kernel⟩
abbrev s_are_integers_from : Stmt := top 21
abbrev N_are_integers_from : List Str := ["thing", "low", "high", "item"]
abbrev P_are_integers_from : List Str := ["thing", "low", "high"]
theorem sc_are_integers_from : FnScope N_are_integers_from P_are_integers_from (defScope s_are_integers_from) := ⟨rfl, rfl, rfl, by decide +kernel, rfl, by decide +kernel, by decide +kernel⟩
abbrev s_are_letters : Stmt := top 22
abbrev N_are_letters : List Str := ["q", "thing"]
abbrev P_are_letters : List Str := ["q", "thing"]
theorem sc_are_letters : FnScope N_are_letters P_are_letters (defScope s_are_letters) := ⟨rfl, rfl, rfl, by decide +kernel, rfl, by decide +kernel, by decide +kernel⟩
abbrev s_is_row : Stmt := top 23
abbrev N_is_row : List Str := ["q", "n", "thing"]
abbrev P_is_row : List Str := ["q", "n", "thing"]
theorem sc_is_row : FnScope N_is_row P_is_row (defScope s_is_row) := ⟨rfl, rfl, rfl, by decide +kernel, rfl, by decide +kernel, by decide +kernel⟩
abbrev s_check_field : Stmt := top 25
abbrev N_check_field : List Str := ["q"]
abbrev P_check_field : List Str := ["q"]
theorem sc_check_field : FnScope N_check_field P_check_field (defScope s_check_field) := ⟨rfl, rfl, rfl, by decide +kernel, rfl, by decide +kernel, by decide +kernel⟩
abbrev s_lead_of : Stmt := top 28
abbrev N_lead_of : List Str := ["row"]
abbrev P_lead_of : List Str := ["row"]
theorem sc_lead_of : FnScope N_lead_of P_lead_of (defScope s_lead_of) := ⟨rfl, rfl, rfl, by decide +kernel, rfl, by decide +kernel, by decide +kernel⟩
abbrev s_with_zero_at : Stmt := top 29
abbrev N_with_zero_at : List Str := ["q", "place", "row", "head"]
abbrev P_with_zero_at : List Str := ["q", "place", "row", "head"]
theorem sc_with_zero_at : FnScope N_with_zero_at P_with_zero_at (defScope s_with_zero_at) := ⟨rfl, rfl, rfl, by decide +kernel, rfl, by decide +kernel, by decide +kernel⟩
abbrev s_reduced_rows : Stmt := top 30
abbrev N_reduced_rows : List Str := ["q", "n", "rows", "left", "done", "place", "heads", "head", "row"]
abbrev P_reduced_rows : List Str := ["q", "n", "rows"]
theorem sc_reduced_rows : FnScope N_reduced_rows P_reduced_rows (defScope s_reduced_rows) := ⟨rfl, rfl, rfl, by decide +kernel, rfl, by decide +kernel, by decide +kernel⟩
abbrev s_sum_of_rows : Stmt := top 31
abbrev N_sum_of_rows : List Str := ["q", "n", "amounts", "rows", "total", "amount", "row"]
abbrev P_sum_of_rows : List Str := ["q", "n", "amounts", "rows"]
theorem sc_sum_of_rows : FnScope N_sum_of_rows P_sum_of_rows (defScope s_sum_of_rows) := ⟨rfl, rfl, rfl, by decide +kernel, rfl, by decide +kernel, by decide +kernel⟩
abbrev s_Book___init__ : Stmt := inClass (top 34) 0
abbrev N_Book___init__ : List Str := ["self", "q", "n", "rows", "number", "row"]
abbrev P_Book___init__ : List Str := ["self", "q", "n", "rows"]
theorem sc_Book___init__ : FnScope N_Book___init__ P_Book___init__ (defScope s_Book___init__) := ⟨rfl, rfl, rfl, by decide +kernel, rfl, by decide +kernel, by decide +kernel⟩
abbrev s_leads : Stmt := top 39
abbrev N_leads : List Str := ["book", "row"]
abbrev P_leads : List Str := ["book"]
theorem sc_leads : FnScope N_leads P_leads (defScope s_leads) := ⟨rfl, rfl, rfl, by decide +kernel, rfl, by decide +kernel, by decide +kernel⟩
abbrev s_made : Stmt := top 40
abbrev N_made : List Str := ["book", "amounts"]
abbrev P_made : List Str := ["book", "amounts"]
theorem sc_made : FnScope N_made P_made (defScope s_made) := ⟨rfl, rfl, rfl, by decide +kernel, rfl, by decide +kernel, by decide +kernel⟩
abbrev s_count_words : Stmt := top 41
abbrev N_count_words : List Str := ["book", "count", "_"]
abbrev P_count_words : List Str := ["book"]
theorem sc_count_words : FnScope N_count_words P_count_words (defScope s_count_words) := ⟨rfl, rfl, rfl, by decide +kernel, rfl, by decide +kernel, by decide +kernel⟩
abbrev s_words : Stmt := top 42
abbrev N_words : List Str := ["book", "most", "found", "row", "parts", "letter", "word", "part"]
abbrev P_words : List Str := ["book", "most"]
theorem sc_words : FnScope N_words P_words (defScope s_words) := ⟨rfl, rfl, rfl, by decide +kernel, rfl, by decide +kernel, by decide +kernel⟩
abbrev s_amounts_at_leads : Stmt := top 43
abbrev N_amounts_at_leads : List Str := ["book", "word", "lead"]
abbrev P_amounts_at_leads : List Str := ["book", "word"]
theorem sc_amounts_at_leads : FnScope N_amounts_at_leads P_amounts_at_leads (defScope s_amounts_at_leads) := ⟨rfl, rfl, rfl, by decide +kernel, rfl, by decide +kernel, by decide +kernel⟩
abbrev s_is_word : Stmt := top 44
abbrev N_is_word : List Str := ["book", "thing"]
abbrev P_is_word : List Str := ["book", "thing"]
theorem sc_is_word : FnScope N_is_word P_is_word (defScope s_is_word) := ⟨rfl, rfl, rfl, by decide +kernel, rfl, by decide +kernel, by decide +kernel⟩
abbrev s_stack_support : Stmt := top 45
abbrev N_stack_support : List Str := ["book", "stack", "number", "word", "place", "item"]
abbrev P_stack_support : List Str := ["book", "stack"]
theorem sc_stack_support : FnScope N_stack_support P_stack_support (defScope s_stack_support) := ⟨rfl, rfl, rfl, by decide +kernel, rfl, by decide +kernel, by decide +kernel⟩
abbrev s__law_deck : Stmt := top 47
abbrev N__law_deck : List Str := ["_law_script", "_law_mixed", "_law_cell"]
abbrev P__law_deck : List Str := ["_law_script"]
theorem sc__law_deck : FnScope N__law_deck P__law_deck (defScope s__law_deck) := ⟨rfl, rfl, rfl, by decide +kernel, rfl, by decide +kernel, by decide +kernel⟩
abbrev s__law_draw : Stmt := top 48
abbrev N__law_draw : List Str := ["_law_deck_here", "_law_many", "_law_number", "_law_cell"]
abbrev P__law_draw : List Str := ["_law_deck_here", "_law_many"]
theorem sc__law_draw : FnScope N__law_draw P__law_draw (defScope s__law_draw) := ⟨rfl, rfl, rfl, by decide +kernel, rfl, by decide +kernel, by decide +kernel⟩
abbrev s__law_pick : Stmt := top 49
abbrev N__law_pick : List Str := ["_law_deck_here", "_law_some"]
abbrev P__law_pick : List Str := ["_law_deck_here", "_law_some"]
theorem sc__law_pick : FnScope N__law_pick P__law_pick (defScope s__law_pick) := ⟨rfl, rfl, rfl, by decide +kernel, rfl, by decide +kernel, by decide +kernel⟩
abbrev s__law_any : Stmt := top 50
abbrev N__law_any : List Str := ["_law_deck_here", "_law_deep", "_law_way", "_law_some", "_law_turn"]
abbrev P__law_any : List Str := ["_law_deck_here", "_law_deep"]
theorem sc__law_any : FnScope N__law_any P__law_any (defScope s__law_any) := ⟨rfl, rfl, rfl, by decide +kernel, rfl, by decide +kernel, by decide +kernel⟩
abbrev s__law_by : Stmt := top 51
abbrev N__law_by : List Str := ["_law_q", "_law_one", "_law_other"]
abbrev P__law_by : List Str := ["_law_q", "_law_one", "_law_other"]
theorem sc__law_by : FnScope N__law_by P__law_by (defScope s__law_by) := ⟨rfl, rfl, rfl, by decide +kernel, rfl, by decide +kernel, by decide +kernel⟩
abbrev s__law_plus : Stmt := top 52
abbrev N__law_plus : List Str := ["_law_q", "_law_one", "_law_other", "_law_x", "_law_y"]
abbrev P__law_plus : List Str := ["_law_q", "_law_one", "_law_other"]
theorem sc__law_plus : FnScope N__law_plus P__law_plus (defScope s__law_plus) := ⟨rfl, rfl, rfl, by decide +kernel, rfl, by decide +kernel, by decide +kernel⟩
abbrev s__law_drawn : Stmt := top 53
abbrev N__law_drawn : List Str := ["_law_deck_here", "_law_q", "_law_n", "_law_way", "_law_rows", "_law_heads", "_law_head", "_law_row", "_law_at"]
abbrev P__law_drawn : List Str := ["_law_deck_here", "_law_q", "_law_n"]
theorem sc__law_drawn : FnScope N__law_drawn P__law_drawn (defScope s__law_drawn) := ⟨rfl, rfl, rfl, by decide +kernel, rfl, by decide +kernel, by decide +kernel⟩
abbrev s__law_sum : Stmt := top 54
abbrev N__law_sum : List Str := ["_law_q", "_law_n", "_law_rows", "_law_amounts", "_law_found", "_law_row", "_law_amount", "_law_x"]
abbrev P__law_sum : List Str := ["_law_q", "_law_n", "_law_rows", "_law_amounts"]
theorem sc__law_sum : FnScope N__law_sum P__law_sum (defScope s__law_sum) := ⟨rfl, rfl, rfl, by decide +kernel, rfl, by decide +kernel, by decide +kernel⟩
abbrev s__law_is_word : Stmt := top 55
abbrev N__law_is_word : List Str := ["_law_q", "_law_n", "_law_rows", "_law_thing", "_law_x", "_law_row"]
abbrev P__law_is_word : List Str := ["_law_q", "_law_n", "_law_rows", "_law_thing"]
theorem sc__law_is_word : FnScope N__law_is_word P__law_is_word (defScope s__law_is_word) := ⟨rfl, rfl, rfl, by decide +kernel, rfl, by decide +kernel, by decide +kernel⟩
abbrev s__law_listed : Stmt := top 56
abbrev N__law_listed : List Str := ["_law_q", "_law_n", "_law_rows", "_law_found", "_law_row", "_law_near", "_law_made", "_law_word", "_law_letter", "_law_x", "_law_other"]
abbrev P__law_listed : List Str := ["_law_q", "_law_n", "_law_rows"]
theorem sc__law_listed : FnScope N__law_listed P__law_listed (defScope s__law_listed) := ⟨rfl, rfl, rfl, by decide +kernel, rfl, by decide +kernel, by decide +kernel⟩
abbrev s__law_told : Stmt := top 57
abbrev N__law_told : List Str := ["_law_deed", "e"]
abbrev P__law_told : List Str := ["_law_deed"]
theorem sc__law_told : FnScope N__law_told P__law_told (defScope s__law_told) := ⟨rfl, rfl, rfl, by decide +kernel, rfl, by decide +kernel, by decide +kernel⟩
abbrev s__law_are_words : Stmt := top 58
abbrev N__law_are_words : List Str := ["_law_deck_here", "_law_book", "_law_q", "_law_n", "_law_rows", "_law_many", "_law_row", "_law_limits", "_law_due", "_law_most"]
abbrev P__law_are_words : List Str := ["_law_deck_here", "_law_book", "_law_q", "_law_n", "_law_rows"]
theorem sc__law_are_words : FnScope N__law_are_words P__law_are_words (defScope s__law_are_words) := ⟨rfl, rfl, rfl, by decide +kernel, rfl, by decide +kernel, by decide +kernel⟩
abbrev s__law_stack : Stmt := top 59
abbrev N__law_stack : List Str := ["_law_deck_here", "_law_q", "_law_n", "_law_rows", "_law_found", "_law_turn", "_law_word", "_law_way", "_law_at", "_law_strange", "_law_row"]
abbrev P__law_stack : List Str := ["_law_deck_here", "_law_q", "_law_n", "_law_rows"]
theorem sc__law_stack : FnScope N__law_stack P__law_stack (defScope s__law_stack) := ⟨rfl, rfl, rfl, by decide +kernel, rfl, by decide +kernel, by decide +kernel⟩
abbrev s__law_is_covered : Stmt := top 60
abbrev N__law_is_covered : List Str := ["_law_book", "_law_q", "_law_n", "_law_rows", "_law_stack_here", "_law_due", "_law_places", "_law_wrong", "_law_told_here", "_law_number", "_law_word", "_law_at"]
abbrev P__law_is_covered : List Str := ["_law_book", "_law_q", "_law_n", "_law_rows", "_law_stack_here"]
theorem sc__law_is_covered : FnScope N__law_is_covered P__law_is_covered (defScope s__law_is_covered) := ⟨rfl, rfl, rfl, by decide +kernel, rfl, by decide +kernel, by decide +kernel⟩
abbrev s__law_are_many : Stmt := top 61
abbrev N__law_are_many : List Str := ["_law_deck_here", "_law_q", "_law_k", "_law_n", "_law_heads", "_law_rows", "_law_left", "_law_turn", "_law_head", "_law_row", "_law_found", "_law_number", "_law_word", "_law_total", "_law_amounts", "_law_near", "_law_book", "_law_many", "_law_at"]
abbrev P__law_are_many : List Str := ["_law_deck_here"]
theorem sc__law_are_many : FnScope N__law_are_many P__law_are_many (defScope s__law_are_many) := ⟨rfl, rfl, rfl, by decide +kernel, rfl, by decide +kernel, by decide +kernel⟩
abbrev s_law : Stmt := top 62
abbrev N_law : List Str := ["_law_script", "_law_deck_here", "_law_q", "_law_n", "_law_rows", "_law_book", "_law_turn", "_law_stack_here", "_law_odd"]
abbrev P_law : List Str := ["_law_script"]
theorem sc_law : FnScope N_law P_law (defScope s_law) := ⟨rfl, rfl, rfl, by decide +kernel, rfl, by decide +kernel, by decide +kernel⟩
def FourTab (K : PySem.W.Frag) (t : Addr) : Prop := ∃ rs : List Addr, rs.length = 4 ∧ (∀ H : Hp, SqT K H t (rs.map V.ref)) ∧ ∀ (i : Nat) (r : Addr) (H : Hp), rs[i]? = some r → SqT K H r ((four.getD i []).map V.int)
structure ClsIs (K : PySem.W.Frag) (C : Addr) : Prop where
  ha : PySem.W.findIn K (.ref C) "__class__" = some (some (.builtin "object.__class__"))
  hn : PySem.W.specialIn K (.builtin "object.__class__") "__get__" = some (some (.builtin "getset_descriptor.__get__"))
  ht : PySem.W.takesIn K (.builtin "object.__class__") = some true
  hm : PySem.W.mroIn K C (.type "object") = some true
  nt : PySem.W.kitOne K (.ref C) (.type "tuple") = some false
  ni : PySem.W.kitOne K (.ref C) (.type "int") = some false
structure Txt (K : PySem.W.Frag) (mg : Str → Option Value) where
  a_letter_sum : Addr
  d_letter_sum : FuncData
  F_letter_sum : Fun K "letter_sum" "letter_sum" s_letter_sum a_letter_sum d_letter_sum
  m_letter_sum : mg "letter_sum" = some (.ref a_letter_sum)
  b_letter_sum : Binds K d_letter_sum P_letter_sum []
  a_letter_negative : Addr
  d_letter_negative : FuncData
  F_letter_negative : Fun K "letter_negative" "letter_negative" s_letter_negative a_letter_negative d_letter_negative
  m_letter_negative : mg "letter_negative" = some (.ref a_letter_negative)
  b_letter_negative : Binds K d_letter_negative P_letter_negative []
  a_letter_times : Addr
  d_letter_times : FuncData
  F_letter_times : Fun K "letter_times" "letter_times" s_letter_times a_letter_times d_letter_times
  m_letter_times : mg "letter_times" = some (.ref a_letter_times)
  b_letter_times : Binds K d_letter_times P_letter_times []
  a_letter_inverse : Addr
  d_letter_inverse : FuncData
  F_letter_inverse : Fun K "letter_inverse" "letter_inverse" s_letter_inverse a_letter_inverse d_letter_inverse
  m_letter_inverse : mg "letter_inverse" = some (.ref a_letter_inverse)
  b_letter_inverse : Binds K d_letter_inverse P_letter_inverse []
  a_row_sum : Addr
  d_row_sum : FuncData
  F_row_sum : Fun K "row_sum" "row_sum" s_row_sum a_row_sum d_row_sum
  m_row_sum : mg "row_sum" = some (.ref a_row_sum)
  b_row_sum : Binds K d_row_sum P_row_sum []
  a_row_times : Addr
  d_row_times : FuncData
  F_row_times : Fun K "row_times" "row_times" s_row_times a_row_times d_row_times
  m_row_times : mg "row_times" = some (.ref a_row_times)
  b_row_times : Binds K d_row_times P_row_times []
  a_row_support : Addr
  d_row_support : FuncData
  F_row_support : Fun K "row_support" "row_support" s_row_support a_row_support d_row_support
  m_row_support : mg "row_support" = some (.ref a_row_support)
  b_row_support : Binds K d_row_support P_row_support []
  a_is_integer : Addr
  d_is_integer : FuncData
  F_is_integer : Fun K "is_integer" "is_integer" s_is_integer a_is_integer d_is_integer
  m_is_integer : mg "is_integer" = some (.ref a_is_integer)
  b_is_integer : Binds K d_is_integer P_is_integer []
  a_is_integer_from : Addr
  d_is_integer_from : FuncData
  F_is_integer_from : Fun K "is_integer_from" "is_integer_from" s_is_integer_from a_is_integer_from d_is_integer_from
  m_is_integer_from : mg "is_integer_from" = some (.ref a_is_integer_from)
  b_is_integer_from : Binds K d_is_integer_from P_is_integer_from []
  a_are_integers_from : Addr
  d_are_integers_from : FuncData
  F_are_integers_from : Fun K "are_integers_from" "are_integers_from" s_are_integers_from a_are_integers_from d_are_integers_from
  m_are_integers_from : mg "are_integers_from" = some (.ref a_are_integers_from)
  b_are_integers_from : Binds K d_are_integers_from P_are_integers_from []
  a_are_letters : Addr
  d_are_letters : FuncData
  F_are_letters : Fun K "are_letters" "are_letters" s_are_letters a_are_letters d_are_letters
  m_are_letters : mg "are_letters" = some (.ref a_are_letters)
  b_are_letters : Binds K d_are_letters P_are_letters []
  a_is_row : Addr
  d_is_row : FuncData
  F_is_row : Fun K "is_row" "is_row" s_is_row a_is_row d_is_row
  m_is_row : mg "is_row" = some (.ref a_is_row)
  b_is_row : Binds K d_is_row P_is_row []
  a_check_field : Addr
  d_check_field : FuncData
  F_check_field : Fun K "check_field" "check_field" s_check_field a_check_field d_check_field
  m_check_field : mg "check_field" = some (.ref a_check_field)
  b_check_field : Binds K d_check_field P_check_field []
  a_lead_of : Addr
  d_lead_of : FuncData
  F_lead_of : Fun K "lead_of" "lead_of" s_lead_of a_lead_of d_lead_of
  m_lead_of : mg "lead_of" = some (.ref a_lead_of)
  b_lead_of : Binds K d_lead_of P_lead_of []
  a_with_zero_at : Addr
  d_with_zero_at : FuncData
  F_with_zero_at : Fun K "with_zero_at" "with_zero_at" s_with_zero_at a_with_zero_at d_with_zero_at
  m_with_zero_at : mg "with_zero_at" = some (.ref a_with_zero_at)
  b_with_zero_at : Binds K d_with_zero_at P_with_zero_at []
  a_reduced_rows : Addr
  d_reduced_rows : FuncData
  F_reduced_rows : Fun K "reduced_rows" "reduced_rows" s_reduced_rows a_reduced_rows d_reduced_rows
  m_reduced_rows : mg "reduced_rows" = some (.ref a_reduced_rows)
  b_reduced_rows : Binds K d_reduced_rows P_reduced_rows []
  a_sum_of_rows : Addr
  d_sum_of_rows : FuncData
  F_sum_of_rows : Fun K "sum_of_rows" "sum_of_rows" s_sum_of_rows a_sum_of_rows d_sum_of_rows
  m_sum_of_rows : mg "sum_of_rows" = some (.ref a_sum_of_rows)
  b_sum_of_rows : Binds K d_sum_of_rows P_sum_of_rows []
  a_Book___init__ : Addr
  d_Book___init__ : FuncData
  F_Book___init__ : Fun K "__init__" "Book.__init__" s_Book___init__ a_Book___init__ d_Book___init__
  b_Book___init__ : Binds K d_Book___init__ P_Book___init__ []
  a_leads : Addr
  d_leads : FuncData
  F_leads : Fun K "leads" "leads" s_leads a_leads d_leads
  m_leads : mg "leads" = some (.ref a_leads)
  b_leads : Binds K d_leads P_leads []
  a_made : Addr
  d_made : FuncData
  F_made : Fun K "made" "made" s_made a_made d_made
  m_made : mg "made" = some (.ref a_made)
  b_made : Binds K d_made P_made []
  a_count_words : Addr
  d_count_words : FuncData
  F_count_words : Fun K "count_words" "count_words" s_count_words a_count_words d_count_words
  m_count_words : mg "count_words" = some (.ref a_count_words)
  b_count_words : Binds K d_count_words P_count_words []
  a_words : Addr
  d_words : FuncData
  F_words : Fun K "words" "words" s_words a_words d_words
  m_words : mg "words" = some (.ref a_words)
  tk_words : Tok
  b_words : Binds K d_words P_words [.int 4096 tk_words]
  q_words_book : KBinds K d_words P_words ["book"] (kDef (.int 4096 tk_words)) (kDef (.int 4096))
  q_words_most : KBinds K d_words P_words ["most"] p1k1 p1k1
  q_words_most_book : KBinds K d_words P_words ["most", "book"] two2s two2s
  a_amounts_at_leads : Addr
  d_amounts_at_leads : FuncData
  F_amounts_at_leads : Fun K "amounts_at_leads" "amounts_at_leads" s_amounts_at_leads a_amounts_at_leads d_amounts_at_leads
  m_amounts_at_leads : mg "amounts_at_leads" = some (.ref a_amounts_at_leads)
  b_amounts_at_leads : Binds K d_amounts_at_leads P_amounts_at_leads []
  a_is_word : Addr
  d_is_word : FuncData
  F_is_word : Fun K "is_word" "is_word" s_is_word a_is_word d_is_word
  m_is_word : mg "is_word" = some (.ref a_is_word)
  b_is_word : Binds K d_is_word P_is_word []
  a_stack_support : Addr
  d_stack_support : FuncData
  F_stack_support : Fun K "stack_support" "stack_support" s_stack_support a_stack_support d_stack_support
  m_stack_support : mg "stack_support" = some (.ref a_stack_support)
  b_stack_support : Binds K d_stack_support P_stack_support []
  q_stack_support_stack_book : KBinds K d_stack_support P_stack_support ["stack", "book"] two2s two2s
  a__law_deck : Addr
  d__law_deck : FuncData
  F__law_deck : Fun K "_law_deck" "_law_deck" s__law_deck a__law_deck d__law_deck
  m__law_deck : mg "_law_deck" = some (.ref a__law_deck)
  b__law_deck : Binds K d__law_deck P__law_deck []
  a__law_draw : Addr
  d__law_draw : FuncData
  F__law_draw : Fun K "_law_draw" "_law_draw" s__law_draw a__law_draw d__law_draw
  m__law_draw : mg "_law_draw" = some (.ref a__law_draw)
  b__law_draw : Binds K d__law_draw P__law_draw []
  a__law_pick : Addr
  d__law_pick : FuncData
  F__law_pick : Fun K "_law_pick" "_law_pick" s__law_pick a__law_pick d__law_pick
  m__law_pick : mg "_law_pick" = some (.ref a__law_pick)
  b__law_pick : Binds K d__law_pick P__law_pick []
  a__law_any : Addr
  d__law_any : FuncData
  F__law_any : Fun K "_law_any" "_law_any" s__law_any a__law_any d__law_any
  m__law_any : mg "_law_any" = some (.ref a__law_any)
  b__law_any : Binds K d__law_any P__law_any []
  a__law_by : Addr
  d__law_by : FuncData
  F__law_by : Fun K "_law_by" "_law_by" s__law_by a__law_by d__law_by
  m__law_by : mg "_law_by" = some (.ref a__law_by)
  b__law_by : Binds K d__law_by P__law_by []
  a__law_plus : Addr
  d__law_plus : FuncData
  F__law_plus : Fun K "_law_plus" "_law_plus" s__law_plus a__law_plus d__law_plus
  m__law_plus : mg "_law_plus" = some (.ref a__law_plus)
  b__law_plus : Binds K d__law_plus P__law_plus []
  a__law_drawn : Addr
  d__law_drawn : FuncData
  F__law_drawn : Fun K "_law_drawn" "_law_drawn" s__law_drawn a__law_drawn d__law_drawn
  m__law_drawn : mg "_law_drawn" = some (.ref a__law_drawn)
  b__law_drawn : Binds K d__law_drawn P__law_drawn []
  a__law_sum : Addr
  d__law_sum : FuncData
  F__law_sum : Fun K "_law_sum" "_law_sum" s__law_sum a__law_sum d__law_sum
  m__law_sum : mg "_law_sum" = some (.ref a__law_sum)
  b__law_sum : Binds K d__law_sum P__law_sum []
  a__law_is_word : Addr
  d__law_is_word : FuncData
  F__law_is_word : Fun K "_law_is_word" "_law_is_word" s__law_is_word a__law_is_word d__law_is_word
  m__law_is_word : mg "_law_is_word" = some (.ref a__law_is_word)
  b__law_is_word : Binds K d__law_is_word P__law_is_word []
  a__law_listed : Addr
  d__law_listed : FuncData
  F__law_listed : Fun K "_law_listed" "_law_listed" s__law_listed a__law_listed d__law_listed
  m__law_listed : mg "_law_listed" = some (.ref a__law_listed)
  b__law_listed : Binds K d__law_listed P__law_listed []
  a__law_told : Addr
  d__law_told : FuncData
  F__law_told : Fun K "_law_told" "_law_told" s__law_told a__law_told d__law_told
  m__law_told : mg "_law_told" = some (.ref a__law_told)
  b__law_told : Binds K d__law_told P__law_told []
  a__law_are_words : Addr
  d__law_are_words : FuncData
  c__law_are_words : Addr
  tP__law_are_words : Addr
  F__law_are_words : FunL K "_law_are_words" "_law_are_words" s__law_are_words a__law_are_words d__law_are_words c__law_are_words
  m__law_are_words : mg "_law_are_words" = some (.ref a__law_are_words)
  b__law_are_words : Binds K d__law_are_words P__law_are_words []
  a__law_stack : Addr
  d__law_stack : FuncData
  F__law_stack : Fun K "_law_stack" "_law_stack" s__law_stack a__law_stack d__law_stack
  m__law_stack : mg "_law_stack" = some (.ref a__law_stack)
  b__law_stack : Binds K d__law_stack P__law_stack []
  a__law_is_covered : Addr
  d__law_is_covered : FuncData
  c__law_is_covered : Addr
  tP__law_is_covered : Addr
  F__law_is_covered : FunL K "_law_is_covered" "_law_is_covered" s__law_is_covered a__law_is_covered d__law_is_covered c__law_is_covered
  m__law_is_covered : mg "_law_is_covered" = some (.ref a__law_is_covered)
  b__law_is_covered : Binds K d__law_is_covered P__law_is_covered []
  a__law_are_many : Addr
  d__law_are_many : FuncData
  c__law_are_many : Addr
  tP__law_are_many : Addr
  F__law_are_many : FunL K "_law_are_many" "_law_are_many" s__law_are_many a__law_are_many d__law_are_many c__law_are_many
  m__law_are_many : mg "_law_are_many" = some (.ref a__law_are_many)
  b__law_are_many : Binds K d__law_are_many P__law_are_many []
  a_law : Addr
  d_law : FuncData
  F_law : Fun K "law" "law" s_law a_law d_law
  m_law : mg "law" = some (.ref a_law)
  b_law : Binds K d_law P_law []
  B0 : Addr
  gB : mg "BookError" = some (.ref B0)
  C_BadField : Addr
  I_BadField : Addr
  e_BadField : Er.Txt P K mg B0 C_BadField I_BadField "BadField" "thing"
  C_BadWord : Addr
  I_BadWord : Addr
  e_BadWord : Er.Txt P K mg B0 C_BadWord I_BadWord "BadWord" "thing"
  C_TooMany : Addr
  I_TooMany : Addr
  e_TooMany : Er.Txt P K mg B0 C_TooMany I_TooMany "TooMany" "most"
  C_BadStack : Addr
  I_BadStack : Addr
  e_BadStack : Er.Txt P K mg B0 C_BadStack I_BadStack "BadStack" "number"
  C_Book : Addr
  g_Book : mg "Book" = some (.ref C_Book)
  cl_Book : Cls K C_Book
  mk_Book : Mk K C_Book a_Book___init__
  is_Book : ClsIs K C_Book
  no_Book_q : NoAttr K C_Book "q"
  no_Book_n : NoAttr K C_Book "n"
  no_Book_rows : NoAttr K C_Book "rows"
  no_Book_dimension : NoAttr K C_Book "dimension"
  t_MOST_PLACES : Tok
  m_MOST_PLACES : mg "MOST_PLACES" = some (.int 8 t_MOST_PLACES)
  t_MOST_ROWS : Tok
  m_MOST_ROWS : mg "MOST_ROWS" = some (.int 16 t_MOST_ROWS)
  t_four : Addr
  m_four : mg "FOUR_TIMES" = some (.ref t_four)
  four : FourTab K t_four
  x_st : PySem.W.subIn K (.ref C_BadStack) (.ref C_TooMany) = some false
  tnd : [tP__law_are_words, tP__law_is_covered, tP__law_are_many].Nodup
  m_all : mg "all" = none
  m_any : mg "any" = none
  m_bool : mg "bool" = none
  m_enumerate : mg "enumerate" = none
  m_int : mg "int" = none
  m_isinstance : mg "isinstance" = none
  m_len : mg "len" = none
  m_list : mg "list" = none
  m_max : mg "max" = none
  m_range : mg "range" = none
  m_repr : mg "repr" = none
  m_sorted : mg "sorted" = none
  m_tuple : mg "tuple" = none
  m_zip : mg "zip" = none
def spLaw (K : PySem.W.Frag) (TT : List (Addr × Str)) : Sp := fun vs H Q _ => ∃ (a : Addr) (ns : List Int), vs = [.ref a] ∧ SqL K H a (ns.map V.int) ∧ ns.length ≤ 63 ∧ Tabs TT H ∧ ∀ H', Q (.bl true) H'
def TI (K : PySem.W.Frag) (H : Hp) (v : V) (ns : List Int) : Prop := ∃ a, v = .ref a ∧ SqT K H a (ns.map V.int)
theorem _root_.L2.Same.tup {K : PySem.W.Frag} {H H' : Hp} {a : Addr} {xs : List V} (e : Same H H') (h : SqT K H a xs) : SqT K H' a xs := by
  rcases h with (h | ⟨o, h⟩) | h
  · exact .inl (.inl (e _ _ h))
  · exact .inl (.inr ⟨o, e _ _ h⟩)
  · exact .inr h
theorem TI.same {K : PySem.W.Frag} {H H' : Hp} {v : V} {ns : List Int} (h : TI K H v ns) (e : Same H H') : TI K H' v ns :=
  let ⟨a, h1, h2⟩ := h
  ⟨a, h1, e.tup h2⟩
theorem same_upd {H : Hp} {p : Addr} {o : HO} (h : H p = none) : Same H (upd H p o) := fun b u e => by
  rw [upd_ne (ne_of_none e h)]
  exact e
theorem same_set {H H' : Hp} {p : Addr} {o : HO} (h : H p = none) (e : Same H H') : Same H (upd H' p o) := fun b u q => by
  rw [upd_ne (ne_of_none q h)]
  exact e b u q
theorem tyx_tup {K : PySem.W.Frag} {H : Hp} {a : Addr} {xs : List V} (h : SqT K H a xs) : TyX K H (.ref a) (.type "tuple") := by
  rcases h with (h | ⟨o, h⟩) | ⟨o, its, n, h1, h2, _⟩
  · exact .base (.tup h)
  · exact .fTuple h
  · exact .kTuple h1 h2
theorem int_at {ns : List Int} {i : Nat} {x : V} (h : (ns.map V.int)[i]? = some x) : ∃ z, ns[i]? = some z ∧ x = .int z := by
  rw [List.getElem?_map] at h
  cases e : ns[i]? with
  | none =>
    rw [e] at h
    cases h
  | some z =>
    rw [e] at h
    exact ⟨z, rfl, (Option.some.inj h).symm⟩
theorem line_le {n : Nat} (h : n ≤ 100000) : n < sizeLine := Nat.lt_of_le_of_lt h (by decide)
end K11
end
section
set_option maxRecDepth 100000
set_option maxHeartbeats 4000000
namespace K11
open PySem PySem.Spec PyProof.Rows L2 MB LM
open LamX hiding takes0
section
variable {w : World} {K : PySem.W.Frag} {mg : Str → Option Value} {base : Heap}
def spInt (K : PySem.W.Frag) : Sp := fun vs H Q _ => ∃ (v : V) (o : Option Int), vs = [v] ∧ IntQ K H v o ∧ Q (.bl o.isSome) H
theorem ok_is_integer (T : Txt K mg) : FnOk P w K mg base CX0 1 T.a_is_integer T.d_is_integer P_is_integer (spInt K) := by
  refine T.F_is_integer.ok sc_is_integer (fun vs H Q E h => ?_) (fun cdv A outer s H vs Q E hr h => ?_)
  · obtain ⟨v, o, rfl, _⟩ := h
    rfl
  · obtain ⟨v, o, rfl, hv, q⟩ := h
    refine ⟨_, 
      (pss_one (ps_ret (pe_and (pe_callB (id := "isinstance") (r := rIsi K) call_isi (by rfl) T.m_isinstance (by decide +kernel) (pa_cons (pv 0) (pa_cons (pe_bltn (by rfl) T.m_int (v := .ty "int") (by decide +kernel) rfl) pa_nil))) (pe_one (pe_not (pe_callB (id := "isinstance") (r := rIsi K) call_isi (by rfl) T.m_isinstance (by decide +kernel) (pa_cons (pv 0) (pa_cons (pe_bltn (by rfl) T.m_bool (v := .ty "bool") (by decide +kernel) rfl) pa_nil)))))))), ?_⟩
    cases o with
    | some i =>
      obtain rfl : v = .int i := hv
      refine ⟨_, rfl, _, _, _, _, _, rfl, .ty "int", .base (.int i), kit_ty (r := true) (by decide +kernel), true, rfl, ?_⟩
      refine iteT ?_
      exact ⟨_, rfl, _, _, _, _, _, rfl, .ty "bool", .base (.int i), kit_ty (r := false) (by decide +kernel), false, rfl, q⟩
    | none =>
      rcases hv with ⟨b, rfl⟩ | ⟨t, ht, hk⟩
      · refine ⟨_, rfl, _, _, _, _, _, rfl, .ty "int", .base (.bl b), kit_ty (r := true) (by decide +kernel), true, rfl, ?_⟩
        refine iteT ?_
        exact ⟨_, rfl, _, _, _, _, _, rfl, .ty "bool", .base (.bl b), kit_ty (r := true) (by decide +kernel), true, rfl, q⟩
      · refine ⟨_, rfl, _, _, _, _, _, rfl, .ty "int", ht, hk, false, rfl, ?_⟩
        exact iteF q
def Lev (K : PySem.W.Frag) (H : Hp) (v : V) : Option (List (Option Int)) → Prop
  | none => TupQ K H v none
  | some os => ∃ xs, TupQ K H v (some xs) ∧ Paired (IntQ K H) xs os ∧ xs.length ≤ 1000
def allInt : Option (List (Option Int)) → Bool
  | none => false
  | some os => os.all (·.isSome)
theorem paired_at {α β : Type} {R : α → β → Prop} {xs : List α} {ys : List β} (h : Paired R xs ys) {i : Nat} {x : α} (e : xs[i]? = some x) : ∃ y, ys[i]? = some y ∧ R x y := by
  induction h generalizing i with
  | nil => simp at e
  | cons r rs ih =>
    cases i with
    | zero =>
      obtain rfl := Option.some.inj e
      exact ⟨_, rfl, r⟩
    | succ i => exact ih e
theorem take_map_add {α β : Type} (f : α → β) {l : List α} {i : Nat} {x : α} (e : l[i]? = some x) : (l.take (i + 1)).map f = (l.take i).map f ++ [f x] := by
  rw [List.take_add_one, e]
  simp
end
theorem dec_int (a b : Int) : decide (V.int a = V.int b) = decide (a = b) := by
  by_cases h : a = b
  · subst h
    simp
  · rw [decide_eq_false h, decide_eq_false (fun e => h (V.int.inj e))]
end K11
end
section
set_option maxRecDepth 100000
set_option maxHeartbeats 4000000
set_option exponentiation.threshold 9000
namespace K11
open PySem PySem.Spec PyProof.Rows L2 MB LM
open LamX hiding takes0
abbrev kL : Str := "cells"
theorem kOk : KOk kL := ⟨by decide +kernel, by decide +kernel⟩
theorem cut63 {ns : List Int} (h : ns.length ≤ 63) : cutV (ns.map V.int) none (some (63 : Int)) = ns.map V.int := by
  have e : HT.sIx ns.length ns.length (some (63 : Int)) = min 63 ns.length := HT.sIx_nat _ _ 63
  unfold cutV
  rw [HT.sIx_none, List.drop_zero, List.length_map, e, List.take_of_length_le (by rw [List.length_map]; omega)]
theorem get_left {H : Hp} {d l : Addr} {m n : Int} (h : H d = some (.dK (dk kL l m n))) : DGet H d (.str kL) (some (.ref l)) :=
  .inl ⟨_, .inr kL, .inl h, rfl, dk_left.symm⟩
theorem get_mixed {H : Hp} {d l : Addr} {m n : Int} (h : H d = some (.dK (dk kL l m n))) : DGet H d (.str "mixed") (some (.int m)) :=
  .inl ⟨_, .inr "mixed", .inl h, rfl, (dk_mixed kOk).symm⟩
theorem get_draws {H : Hp} {d l : Addr} {m n : Int} (h : H d = some (.dK (dk kL l m n))) : DGet H d (.str "draws") (some (.int n)) :=
  .inl ⟨_, .inr "draws", .inl h, rfl, (dk_draws kOk).symm⟩
section
variable {w : World} {K : PySem.W.Frag} {mg : Str → Option Value} {base : Heap}
def spDeck (K : PySem.W.Frag) : Sp := fun vs H Q _ => ∃ (a : Addr) (ns : List Int), vs = [.ref a] ∧ SqL K H a (ns.map V.int) ∧ ns.length ≤ 63 ∧
  ∀ d l H', Same H H' → Deck kL H' d l → Q (.ref d) H'
theorem ok__law_deck (T : Txt K mg) : FnOk P w K mg base CX0 1 T.a__law_deck T.d__law_deck P__law_deck (spDeck K) := by
  refine T.F__law_deck.ok sc__law_deck (fun vs H Q E h => ?_) (fun cdv A outer s H vs Q E hr h => ?_)
  · obtain ⟨a, ns, rfl, _⟩ := h
    rfl
  · obtain ⟨a, ns, rfl, ha, hl, q⟩ := h
    refine ⟨_, 
      (pss_cons (ps_set (i := 1) sc__law_deck.nd rfl (Or.inl rfl) pe_int)
      (pss_cons (ps_for PassesOwn.never rfl (pi_list (pe_slice sl_list (pv 0) po_none (po_some pe_int))) (pg_name (i := 2) sc__law_deck.nd rfl (Or.inl rfl)) (pss_one (ps_set (i := 1) sc__law_deck.nd rfl (Or.inl rfl) (pe_op op_mod (pe_callTy call_int1 (by rfl) T.m_int (by decide +kernel) (pa_cons (pe_op op_add (pe_op op_add (pe_op op_mul (pv 1) pe_int) (pe_op op_mod (pe_callTy call_int1 (by rfl) T.m_int (by decide +kernel) (pa_cons (pv 2) pa_nil)) pe_int)) pe_int) pa_nil)) pe_int))))
      (pss_one (ps_ret (pe_disp (pps_cons pe_str (pe_revL (pe_callTy call_list_of (by rfl) T.m_list (by decide +kernel) (pa_cons (pe_slice sl_list (pv 0) po_none (po_some pe_int)) pa_nil))) (pps_cons pe_str (pv 1) (pps_cons pe_str pe_int pps_nil))) (by rfl) (by rfl) (fun z => by cases z) (by decide)))))), ?_⟩
    refine ⟨_, rfl, _, rfl, a, _, rfl, ha, fun p hp => ?_⟩
    rw [cut63 hl]
    have s1 := same_upd (o := .lst (ns.map V.int)) hp
    refine ⟨p, rfl, ⟨_, SqL.of upd_same⟩, for_it (walk_list (K := K) (a := p) (xs := ns.map V.int))
      (fun i σ H' => ∃ (m : Int) (u : Option V), σ = [some (.ref a), some (.int m), u] ∧ 0 ≤ m ∧ m < 2147483648 ∧ H' = upd H p (.lst (ns.map V.int)))
      ⟨_, none, rfl, by decide, by decide, rfl⟩ (fun i σ H' _ ⟨_, _, _, _, _, e⟩ => by rw [e]; exact SqL.of upd_same) ?_ ?_⟩
    · rintro i v _ _ _ hi ⟨m, u, rfl, m0, m1, rfl⟩ ⟨rfl, hv⟩
      obtain ⟨c, hc, rfl⟩ := int_at hv
      refine ⟨_, rfl, _, _, rfl, rfl, .inr (by decide), _, rfl, .inl ⟨_, rfl, ?_⟩⟩
      refine ⟨_, _, rfl, rfl, (by decide : (0 : Int) < 2147483629), _, _, rfl, rfl, _, _, rfl, rfl, .inl ⟨_, rfl, ?_⟩⟩
      refine ⟨_, _, rfl, rfl, (by decide : (0 : Int) < 2147483587), _, _, rfl, ?_, ?_, rfl⟩
      · exact Int.emod_nonneg _ (by decide)
      · exact Int.lt_trans (Int.emod_lt_of_pos _ (by decide)) (by decide)
    · rintro _ _ ⟨m, u, rfl, m0, m1, rfl⟩
      refine fun d hd => ?_
      have s2 := s1.trans (same_upd (o := .dK []) hd)
      refine ⟨_, rfl, _, rfl, a, _, rfl, s2.seq ha, fun p2 hp2 => ?_⟩
      rw [cut63 hl]
      have s3 := s2.trans (same_upd (o := .lst (ns.map V.int)) hp2)
      refine ⟨p2, _, rfl, .inl (SqL.of upd_same), fun p3 hp3 => ?_⟩
      have s4 := s3.trans (same_upd (o := .lst (ns.map V.int)) hp3)
      refine ⟨p3, _, rfl, SqL.of upd_same, fun l hl4 => ?_⟩
      have s5 := s4.trans (same_upd (o := .lst (ns.map V.int).reverse) hl4)
      refine ⟨_, rfl, ?_⟩
      have at3 : ∀ {q : Addr} {o : HO} {G : Hp}, G d = some (.dK []) → G q = none → (upd G q o) d = some (.dK []) := fun h1 h2 => (upd_ne (ne_of_none h1 h2)).trans h1
      have hd4 := at3 (o := .lst (ns.map V.int)) (at3 (o := .lst (ns.map V.int)) upd_same hp2) hp3
      have hd5 := at3 (o := .lst (ns.map V.int).reverse) hd4 hl4
      refine ⟨hd5, dk kL l m 0, rfl, (by decide : 3 ≤ 15), ?_⟩
      rw [dk_merge kOk]
      have hdl : l ≠ d := (ne_of_none hd4 hl4).symm
      refine q d l _ (same_set (s1.free hd) s5) ⟨m, 0, ns.reverse, upd_same, ?_, ?_, m0, m1⟩
      · rw [upd_ne hdl, upd_same, List.map_reverse]
      · rw [List.length_reverse]
        exact hl
def spDraw : Sp := fun vs H Q _ => ∃ (d l : Addr) (k : Int), vs = [.ref d, .int k] ∧ 0 < k ∧ k.natAbs < 2 ^ 8000 ∧ Deck kL H d l ∧
  ∀ (r : Int) H', 0 ≤ r → r < k → But d l H H' → Deck kL H' d l → Q (.int r) H'
theorem ok__law_draw (T : Txt K mg) : FnOk P w K mg base CX0 1 T.a__law_draw T.d__law_draw P__law_draw spDraw := by
  refine T.F__law_draw.ok sc__law_draw (fun vs H Q E h => ?_) (fun cdv A outer s H vs Q E hr h => ?_)
  · obtain ⟨d, l, k, rfl, _⟩ := h
    rfl
  · obtain ⟨d, l, k, rfl, k0, kb, D, q⟩ := h
    have hne := D.ne
    obtain ⟨m, n, cs, hd, hl, lc, m0, m1⟩ := D.ex
    refine ⟨_, 
      (pss_cons (ps_dput (hu_of hr) (pv 0) pe_str (pe_op op_add (pe_dget (hu_of hr) (pv 0) pe_str (fun _ _ => rfl)) pe_int) rfl)
      (pss_cons (ps_set (i := 2) sc__law_draw.nd rfl (Or.inl rfl) (pe_op op_add (pe_dget (hu_of hr) (pv 0) pe_str (fun _ _ => rfl)) (pe_op op_mul pe_int (pe_dget (hu_of hr) (pv 0) pe_str (fun _ _ => rfl)))))
      (pss_cons (ps_if (pt_cmpR (op_neD hr.units) (pe_dget (hu_of hr) (pv 0) pe_str (fun _ _ => rfl)) (pe_lst pa_nil) (nomark _)) (pss_cons (ps_set (i := 3) sc__law_draw.nd rfl (Or.inl rfl) (pe_bm0 PySem.F.plainAttrs_list PySem.F.slot_list_pop PySem.F.type_list_pop mt_pop (pe_dget (hu_of hr) (pv 0) pe_str (fun _ _ => rfl))))
      (pss_cons (ps_if (pt_cmpR op_ge (pv 3) (pe_op op_pow pe_int pe_int) (nomark _)) (pss_cons (ps_expr (pe_bm PySem.F.plainAttrs_list PySem.F.slot_list_append PySem.F.type_list_append mt_append (pe_dget (hu_of hr) (pv 0) pe_str (fun _ _ => rfl)) (pa_cons (pe_op op_fdivW (pv 3) (pe_callB (call_max2 rfl) (by rfl) T.m_max (by decide +kernel) (pa_cons pe_int (pa_cons (pv 1) pa_nil)))) pa_nil)))
      (pss_one (ps_ret (pe_op op_modN (pe_callTy call_int1 (by rfl) T.m_int (by decide +kernel) (pa_cons (pv 3) pa_nil)) (pv 1))))) pss_nil)
      (pss_one (ps_set (i := 2) sc__law_draw.nd rfl (Or.inl rfl) (pe_op op_add (pv 2) (pe_op op_mod (pe_callTy call_int1 (by rfl) T.m_int (by decide +kernel) (pa_cons (pv 3) pa_nil)) pe_int)))))) pss_nil)
      (pss_cons (ps_set (i := 2) sc__law_draw.nd rfl (Or.inl rfl) (pe_op op_mod (pe_callTy call_int1 (by rfl) T.m_int (by decide +kernel) (pa_cons (pe_op op_add (pe_op op_mul (pv 2) pe_int) pe_int) pa_nil)) pe_int))
      (pss_cons (ps_set (i := 2) sc__law_draw.nd rfl (Or.inl rfl) (pe_op op_mod (pe_callTy call_int1 (by rfl) T.m_int (by decide +kernel) (pa_cons (pe_op op_add (pe_op op_add (pe_op op_mulW (pv 2) (pv 2)) (pe_op op_mul pe_int (pe_dget (hu_of hr) (pv 0) pe_str (fun _ _ => rfl)))) pe_int) pa_nil)) pe_int))
      (pss_cons (ps_set (i := 2) sc__law_draw.nd rfl (Or.inl rfl) (pe_op op_mod (pe_callTy call_int1 (by rfl) T.m_int (by decide +kernel) (pa_cons (pe_op op_mul (pv 2) pe_int) pa_nil)) pe_int))
      (pss_one (ps_ret (pe_op op_modN (pe_callTy call_int1 (by rfl) T.m_int (by decide +kernel) (pa_cons (pe_op op_fdiv (pv 2) pe_int) pa_nil)) (pv 1)))))))))), ?_⟩
    refine ⟨_, rfl, d, _, rfl, get_draws hd, _, _, rfl, rfl, _, rfl, d, _, rfl, DPut.k (k := Sum.inr ("draws" : Str)) hd (line_le (by decide : 3 ≤ 100000)), ?_⟩
    rw [dk_put kOk]
    have hd1 : (upd H d (.dK (dk kL l m (n + 1)))) d = some (.dK (dk kL l m (n + 1))) := upd_same
    have hl1 : (upd H d (.dK (dk kL l m (n + 1)))) l = some (.lst (cs.map V.int)) := (upd_ne hne.symm).trans hl
    have e1 : But d l H (upd H d (.dK (dk kL l m (n + 1)))) := fun b o h h1 _ => (upd_ne h1).trans h
    have D1 : Deck kL (upd H d (.dK (dk kL l m (n + 1)))) d l := ⟨m, n + 1, cs, hd1, hl1, lc, m0, m1⟩
    refine ⟨_, rfl, d, _, rfl, get_mixed hd1, _, rfl, d, _, rfl, get_draws hd1, _, _, rfl, rfl, .inl (by decide), _, _, rfl, rfl, ?_⟩
    refine ⟨_, rfl, d, _, rfl, get_left hd1, (by decide : 0 ≤ sizeLine), fun p hp => ?_⟩
    have s2 := same_upd (o := .lst []) hp
    refine ne_nil_rd (SqL.of (s2 _ _ hl1)) (SqL.of upd_same) ⟨_, rfl, ?_⟩
    generalize hH2 : upd (upd H d (.dK (dk kL l m (n + 1)))) p (.lst []) = H2
    rw [hH2] at s2
    have hd2 := s2 _ _ hd1
    have hl2 := s2 _ _ hl1
    have e2 : But d l H H2 := e1.same s2
    have D2 : Deck kL H2 d l := D1.same s2
    clear hH2 s2 hp e1 D1 hd1 hl1
    cases hcs : cs with
    | nil =>
      refine iteF ?_
      have bnd : ∀ x : Int, (x % 2147483647).natAbs < 2 ^ 32 := fun x => by
        have h1 := Int.emod_nonneg x (by decide : (2147483647 : Int) ≠ 0)
        have h2 := Int.emod_lt_of_pos x (by decide : (0 : Int) < 2147483647)
        omega
      refine ⟨_, rfl, _, _, rfl, rfl, .inr (by decide), _, _, rfl, rfl, .inl ⟨_, rfl, ?_⟩⟩
      refine ⟨_, _, rfl, rfl, (by decide : (0 : Int) < 2147483647), ?_⟩
      refine ⟨_, rfl, _, rfl, _, _, rfl, rfl, wide_mul (bnd _) (bnd _) (by decide) (by decide) (by decide), _, rfl, d, _, rfl, get_draws hd2, _, _, rfl, rfl, .inl (by decide), _, _, rfl, rfl, _, _, rfl, rfl, .inl ⟨_, rfl, ?_⟩⟩
      refine ⟨_, _, rfl, rfl, (by decide : (0 : Int) < 2147483587), ?_⟩
      refine ⟨_, rfl, _, _, rfl, rfl, .inr (by decide), .inl ⟨_, rfl, ?_⟩⟩
      refine ⟨_, _, rfl, rfl, (by decide : (0 : Int) < 2147483563), ?_⟩
      refine ⟨_, rfl, _, _, rfl, rfl, ⟨by decide, by decide⟩, .inl ⟨_, rfl, ?_⟩⟩
      refine ⟨_, rfl, _, _, rfl, rfl, (by omega : k ≠ 0), ?_⟩
      exact q _ _ (Int.fmod_nonneg_of_pos _ k0) (Int.fmod_lt_of_pos _ k0) e2 D2
    | cons c0 cr =>
      refine iteT ?_
      obtain ⟨ys, c, hys⟩ : ∃ ys c, cs = ys ++ [c] := ⟨cs.dropLast, cs.getLast (by rw [hcs]; simp), (List.dropLast_concat_getLast _).symm⟩
      clear hcs
      subst hys
      rw [List.length_append, List.length_singleton] at lc
      rw [List.map_append] at hl2
      refine ⟨_, rfl, d, _, rfl, get_left hd2, .inl ⟨rfl, _, SqL.of hl2⟩, l, _, .int c, rfl, rfl, hl2, ?_, ?_⟩
      · simp
      have edl : (ys.map V.int ++ [c].map V.int).dropLast = ys.map V.int := by
        show (ys.map V.int ++ [V.int c]).dropLast = _
        rw [List.dropLast_concat]
      rw [edl]
      have hd3 : (upd H2 l (.lst (ys.map V.int))) d = some (.dK (dk kL l m (n + 1))) := (upd_ne hne).trans hd2
      have hl3 : (upd H2 l (.lst (ys.map V.int))) l = some (.lst (ys.map V.int)) := upd_same
      have e3 : But d l H (upd H2 l (.lst (ys.map V.int))) := fun b o h h1 h2 => (upd_ne h2).trans (e2 b o h h1 h2)
      have D3 : Deck kL (upd H2 l (.lst (ys.map V.int))) d l := ⟨m, n + 1, ys, hd3, hl3, by omega, m0, m1⟩
      generalize upd H2 l (.lst (ys.map V.int)) = H3 at hd3 hl3 e3 D3
      clear e2 D2 hd2 hl2
      refine ⟨_, rfl, _, _, rfl, rfl, ⟨by decide, by decide, by decide⟩, _, _, rfl, rfl, _, rfl, ?_⟩
      refine ite2 (fun _ => ?_) (fun _ => ?_)
      ·
        have dv : CDivW c (if k > 2 then k else 2) := by
          split
          · exact wide_div k0 kb (by decide) (by decide)
          · exact wide_div (by decide) (b := 8) (by decide) (by decide) (by decide)
        refine ⟨_, rfl, d, _, rfl, get_left hd3, .inl ⟨rfl, _, SqL.of hl3⟩, _, rfl, _, rfl, _, _, rfl, _, _, rfl, rfl, dv, l, _, _, rfl, rfl, hl3, ?_, ?_⟩
        · rw [List.length_map]
          exact line_le (by omega)
        refine ⟨_, rfl, .inl ⟨_, rfl, ?_⟩⟩
        refine ⟨_, rfl, _, _, rfl, rfl, (by omega : k ≠ 0), ?_⟩
        refine q _ _ (Int.fmod_nonneg_of_pos _ k0) (Int.fmod_lt_of_pos _ k0) (fun b o h h1 h2 => (upd_ne h2).trans (e3 b o h h1 h2)) ?_
        refine ⟨m, n + 1, ys ++ [c / (if k > 2 then k else 2)], (upd_ne hne).trans hd3, ?_, by rw [List.length_append]; simp; omega, m0, m1⟩
        rw [upd_same, List.map_append]
        rfl
      ·
        refine ⟨_, rfl, _, rfl, .inl ⟨_, rfl, ?_⟩⟩
        refine ⟨_, _, rfl, rfl, (by decide : (0 : Int) < 2147483629), _, _, rfl, rfl, ?_⟩
        have bnd : ∀ x : Int, (x % 2147483647).natAbs < 2 ^ 32 := fun x => by
          have h1 := Int.emod_nonneg x (by decide : (2147483647 : Int) ≠ 0)
          have h2 := Int.emod_lt_of_pos x (by decide : (0 : Int) < 2147483647)
          omega
        refine ⟨_, rfl, _, _, rfl, rfl, .inr (by decide), _, _, rfl, rfl, .inl ⟨_, rfl, ?_⟩⟩
        refine ⟨_, _, rfl, rfl, (by decide : (0 : Int) < 2147483647), ?_⟩
        refine ⟨_, rfl, _, rfl, _, _, rfl, rfl, wide_mul (bnd _) (bnd _) (by decide) (by decide) (by decide), _, rfl, d, _, rfl, get_draws hd3, _, _, rfl, rfl, .inl (by decide), _, _, rfl, rfl, _, _, rfl, rfl, .inl ⟨_, rfl, ?_⟩⟩
        refine ⟨_, _, rfl, rfl, (by decide : (0 : Int) < 2147483587), ?_⟩
        refine ⟨_, rfl, _, _, rfl, rfl, .inr (by decide), .inl ⟨_, rfl, ?_⟩⟩
        refine ⟨_, _, rfl, rfl, (by decide : (0 : Int) < 2147483563), ?_⟩
        refine ⟨_, rfl, _, _, rfl, rfl, ⟨by decide, by decide⟩, .inl ⟨_, rfl, ?_⟩⟩
        refine ⟨_, rfl, _, _, rfl, rfl, (by omega : k ≠ 0), ?_⟩
        exact q _ _ (Int.fmod_nonneg_of_pos _ k0) (Int.fmod_lt_of_pos _ k0) e3 D3
end
end K11
end
section
set_option maxRecDepth 100000
set_option maxHeartbeats 4000000
namespace K11
open PySem PySem.Spec PyProof.Rows L2 MB LM
open LamX hiding takes0
section
variable {w : World} {K : PySem.W.Frag} {mg : Str → Option Value} {base : Heap}
def spLsum : Sp := fun vs H Q _ => ∃ q a b : Int, vs = [.int q, .int a, .int b] ∧ LetQ q ∧ Q (.int (lsum q a b)) H
theorem ok_letter_sum (T : Txt K mg) : FnOk P w K mg base CX0 1 T.a_letter_sum T.d_letter_sum P_letter_sum spLsum := by
  refine T.F_letter_sum.ok sc_letter_sum (fun vs H Q E h => ?_) (fun cdv A outer s H vs Q E hr h => ?_)
  · obtain ⟨q, a, b, rfl, _⟩ := h
    rfl
  · obtain ⟨q, a, b, rfl, hq, k⟩ := h
    refine ⟨_, 
      (pss_cons (ps_if (pt_cmpR op_eq (pv 0) pe_int (nomark _)) (pss_one (ps_ret (pe_op op_xor (pv 1) (pv 2)))) pss_nil)
      (pss_one (ps_ret (pe_op op_modN (pe_op op_add (pv 1) (pv 2)) (pv 0))))), ?_⟩
    have := hq.lo
    refine ⟨_, rfl, rfl, _, rfl, ?_⟩
    rw [dec_int]
    unfold lsum at k
    refine ite2 (fun e => ?_) (fun e => ?_)
    · rw [if_pos (of_decide_eq_true e)] at k
      exact ⟨_, rfl, _, rfl, _, _, rfl, rfl, k⟩
    · rw [if_neg (fun z => e (decide_eq_true z))] at k
      exact ⟨_, rfl, _, rfl, _, _, rfl, rfl, _, rfl, _, _, rfl, rfl, by omega, k⟩
def spLneg : Sp := fun vs H Q _ => ∃ q a : Int, vs = [.int q, .int a] ∧ LetQ q ∧ Q (.int (lneg q a)) H
theorem ok_letter_negative (T : Txt K mg) : FnOk P w K mg base CX0 1 T.a_letter_negative T.d_letter_negative P_letter_negative spLneg := by
  refine T.F_letter_negative.ok sc_letter_negative (fun vs H Q E h => ?_) (fun cdv A outer s H vs Q E hr h => ?_)
  · obtain ⟨q, a, rfl, _⟩ := h
    rfl
  · obtain ⟨q, a, rfl, hq, k⟩ := h
    refine ⟨_, 
      (pss_cons (ps_if (pt_cmpR op_eq (pv 0) pe_int (nomark _)) (pss_one (ps_ret (pv 1))) pss_nil)
      (pss_one (ps_ret (pe_op op_modN (pe_op op_sub pe_int (pv 1)) (pv 0))))), ?_⟩
    have := hq.lo
    refine ⟨_, rfl, rfl, _, rfl, ?_⟩
    rw [dec_int]
    unfold lneg at k
    refine ite2 (fun e => ?_) (fun e => ?_)
    · rw [if_pos (of_decide_eq_true e)] at k
      exact ⟨_, rfl, k⟩
    · rw [if_neg (fun z => e (decide_eq_true z))] at k
      exact ⟨_, rfl, _, _, rfl, rfl, _, rfl, _, _, rfl, rfl, by omega, k⟩
def spLtim : Sp := fun vs H Q _ => ∃ q a b : Int, vs = [.int q, .int a, .int b] ∧ LetQ q ∧ (0 ≤ a ∧ a < q) ∧ (0 ≤ b ∧ b < q) ∧ Q (.int (ltim q a b)) H
theorem ok_letter_times (T : Txt K mg) : FnOk P w K mg base CX0 1 T.a_letter_times T.d_letter_times P_letter_times spLtim := by
  refine T.F_letter_times.ok sc_letter_times (fun vs H Q E h => ?_) (fun cdv A outer s H vs Q E hr h => ?_)
  · obtain ⟨q, a, b, rfl, _⟩ := h
    rfl
  · obtain ⟨q, a, b, rfl, hq, ⟨a0, a1⟩, ⟨b0, b1⟩, k⟩ := h
    refine ⟨_, 
      (pss_cons (ps_if (pt_cmpR op_eq (pv 0) pe_int (nomark _)) (pss_one (ps_ret (pe_ix (r := rIxT K) ix_tup (pe_ix (r := rIxT K) ix_tup (pe_glob (v := .ref T.t_four) rfl T.m_four rfl) (pv 1) (fun _ _ => rfl)) (pv 2) (fun _ _ => rfl)))) pss_nil)
      (pss_one (ps_ret (pe_op op_modN (pe_op op_mulW (pv 1) (pv 2)) (pv 0))))), ?_⟩
    have := hq.lo
    have := hq.hi
    refine ⟨_, rfl, rfl, _, rfl, ?_⟩
    rw [dec_int]
    unfold ltim at k
    refine ite2 (fun e => ?_) (fun e => ?_)
    · have e4 := of_decide_eq_true e
      rw [if_pos e4] at k
      obtain ⟨rs, rl, rt, rr⟩ := T.four
      obtain ⟨i, rfl⟩ : ∃ i : Nat, a = (i : Int) := ⟨a.toNat, by omega⟩
      obtain ⟨j, rfl⟩ : ∃ j : Nat, b = (j : Int) := ⟨b.toNat, by omega⟩
      have hi : i < 4 := by omega
      have hj : j < 4 := by omega
      have hir : i < rs.length := by omega
      have hrow := rr i rs[i] H (List.getElem?_eq_getElem hir)
      refine ⟨_, rfl, T.t_four, _, _, .ref rs[i], rfl, rfl, rt H, atI_nat (by rw [List.getElem?_map, List.getElem?_eq_getElem hir]; rfl), _, rfl, rs[i], _, _, .int ((four.getD i []).getD j 0), rfl, rfl, hrow, atI_nat ?_, ?_⟩
      · have : ∀ i < 4, ∀ j < 4, ((four.getD i []).map V.int)[j]? = some (.int ((four.getD i []).getD j 0)) := by decide
        exact this i hi j hj
      · simpa using k
    · rw [if_neg (fun z => e (decide_eq_true z))] at k
      exact ⟨_, rfl, _, rfl, _, _, rfl, rfl, wide_mul (a := 3) (b := 3) (by omega) (by omega) (by decide) (by decide) (by decide), _, rfl, _, _, rfl, rfl, by omega, k⟩
def spLinv : Sp := fun vs H Q _ => ∃ q a : Int, vs = [.int q, .int a] ∧ LetQ q ∧ IsLet q a ∧ a ≠ 0 ∧ ∀ H', Same H H' → Q (.int (linv q a)) H'
theorem ok_letter_inverse (T : Txt K mg) : FnOk P w K mg base CX0 2 T.a_letter_inverse T.d_letter_inverse P_letter_inverse spLinv := by
  refine T.F_letter_inverse.ok sc_letter_inverse (fun vs H Q E h => ?_) (fun cdv A outer s H vs Q E hr h => ?_)
  · obtain ⟨q, a, rfl, _⟩ := h
    rfl
  · obtain ⟨q, a, rfl, hq, ha, a0, k⟩ := h
    refine ⟨_, 
      (pss_one (ps_ret (pe_ix (r := rIxL K) ix_list (pe_lc (own := [("other", 2)]) (g := gName 2)  rfl sc_letter_inverse.nd (pi_range1 rfl T.m_range (pa_cons (pv 0) pa_nil)) (blkOk_by (own := [("other", 2)]) (N := N_letter_inverse) (sc := (defScope s_letter_inverse)) (by decide +kernel)) (fun _ _ _ _ _ => (pg_name (i := 2) sc_letter_inverse.nd rfl (Or.inl rfl))) (fun _ _ _ _ _ => (pts_one (pt_cmpR op_eq (pe_call (ok_letter_times T) (hr.mono (by decide)) rfl T.m_letter_times T.F_letter_times.kp T.b_letter_times .nil pass0 (pa_cons (pv 0) (pa_cons (pv 1) (pa_cons (pv 2) pa_nil)))) pe_int (nomark _)))) (fun _ _ _ _ _ => (pv 2))) pe_int (fun _ _ => rfl)))), ?_⟩
    have := hq.lo
    have := hq.hi
    refine ⟨_, rfl, _, rfl, by omega, by omega, fun D hD => ?_⟩
    have nat : ∀ n : Nat, ((List.range n).map (fun n : Nat => (n : Int))).length = n := fun n => by rw [List.length_map, List.length_range]
    refine lc_it (walk_range (lo := 0) (n := q.toNat))
      (fun i H' => Same H H' ∧ H' D = some (.lst ((((List.range i).map (fun n : Nat => (n : Int))).filter fun x => decide (ltim q a x = 1)).map V.int)))
      ⟨same_upd hD, upd_same⟩ (fun _ _ _ _ => trivial) ?_ ?_
    · rintro i x H' _ hi ⟨e, hN⟩ ⟨rfl, rfl⟩
      refine ⟨rfl, ?_⟩
      refine ⟨_, rfl, _, rfl, _, rfl, q, a, _, rfl, hq, ha, ⟨by omega, by omega⟩, rfl, _, rfl, ?_⟩
      rw [dec_int]
      have z0 : (0 : Int) + (i : Int) = (i : Int) := Int.zero_add _
      rw [z0]
      have sz : ((((List.range i).map (fun n : Nat => (n : Int))).filter fun x => decide (ltim q a x = 1)).map V.int).length < sizeLine := by
        rw [List.length_map]
        exact line_le (Nat.le_trans (List.length_filter_le _ _) (by rw [nat]; omega))
      refine ite2 (fun c => ?_) (fun c => ?_)
      · refine ⟨_, rfl, _, hN, sz, same_set hD e, ?_⟩
        rw [upd_same, invs_next, if_pos c, List.map_append]
        show some (HO.lst (_ ++ [V.int (0 + (i : Int))])) = _
        rw [z0]
        rfl
      · refine ⟨e, ?_⟩
        rw [invs_next, if_neg c, List.append_nil]
        exact hN
    · rintro H' ⟨e, hN⟩
      refine ⟨D, _, 0, .int (linv q a), rfl, rfl, SqL.of hN, atI_nat (j := 0) ?_, k H' e⟩
      rw [List.getElem?_map, ← List.head?_eq_getElem?, List.head?_filter]
      have hs := linv_some hq ha a0
      unfold linv
      cases hf : ((List.range q.toNat).map (fun n : Nat => (n : Int))).find? fun x => decide (ltim q a x = 1) with
      | none =>
        rw [hf] at hs
        cases hs
      | some x => rfl
def spRsum (K : PySem.W.Frag) : Sp := fun vs H Q _ => ∃ (q : Int) (u v : V) (ns ms : List Int), vs = [.int q, u, v] ∧ LetQ q ∧ TI K H u ns ∧ TI K H v ms ∧ ns.length ≤ 1000 ∧
  ∀ z H', Same H H' → TI K H' z (List.zipWith (lsum q) ns ms) → Q z H'
theorem ok_row_sum (T : Txt K mg) : FnOk P w K mg base CX0 2 T.a_row_sum T.d_row_sum P_row_sum (spRsum K) := by
  refine T.F_row_sum.ok sc_row_sum (fun vs H Q E h => ?_) (fun cdv A outer s H vs Q E hr h => ?_)
  · obtain ⟨q, u, v, ns, ms, rfl, _⟩ := h
    rfl
  · obtain ⟨q, _, _, ns, ms, rfl, hq, ⟨a, rfl, ha⟩, ⟨b, rfl, hb⟩, hl, k⟩ := h
    refine ⟨_, 
      (pss_one (ps_ret (pe_callTy call_tuple_of (by rfl) T.m_tuple (by decide +kernel) (pa_cons (pe_lc (own := [("left", 3), ("right", 4)]) (g := gTup K 2 (gCons (gName 3) (gCons (gName 4) gNil))) (tt := tYes) rfl sc_row_sum.nd (RZ.pi_zipA (by rfl) T.m_zip (pa_cons (pv 1) (pa_cons (pv 2) pa_nil))) (blkOk_by (own := [("left", 3), ("right", 4)]) (N := N_row_sum) (sc := (defScope s_row_sum)) (by decide +kernel)) (fun _ _ _ _ _ => (pg_tup rfl (pgs_cons (pg_name (i := 3) sc_row_sum.nd rfl (Or.inl rfl)) (pgs_cons (pg_name (i := 4) sc_row_sum.nd rfl (Or.inl rfl)) pgs_nil)))) (fun _ _ _ _ _ => pts_nil) (fun _ _ _ _ _ => (pe_call (ok_letter_sum T) (hr.mono (by decide)) rfl T.m_letter_sum T.F_letter_sum.kp T.b_letter_sum .nil pass0 (pa_cons (pv 0) (pa_cons (pv 3) (pa_cons (pv 4) pa_nil)))))) pa_nil)))), ?_⟩
    refine ⟨_, rfl, _, rfl, a, b, _, _, rfl, .inr ⟨ha, hb, ?_⟩⟩
    refine fun D hD => lc_it (walk_zipT (K := K) (a := a) (b := b) (xs := ns.map V.int) (ys := ms.map V.int) rfl)
      (fun i H' => Same H H' ∧ H' D = some (.lst (((List.zipWith (lsum q) ns ms).take i).map V.int)))
      ⟨same_upd hD, by rw [upd_same]; simp⟩ (fun i H' _ ⟨e, _⟩ => ⟨e.tup ha, e.tup hb⟩) ?_ ?_
    · rintro i v H' H'' hi ⟨e, hacc⟩ ⟨T0, x, y, rfl, hT0, rfl, hx, hy⟩
      obtain ⟨c, hc, rfl⟩ := int_at hx
      obtain ⟨d, hd, rfl⟩ := int_at hy
      have hiL : i < ns.length := (List.getElem?_eq_some_iff.mp hc).1
      refine ⟨T0, _, rfl, SqT.of upd_same, rfl, _, _, rfl, _, _, rfl, rfl, rfl, ?_⟩
      refine ⟨_, rfl, _, rfl, _, rfl, q, c, d, rfl, hq, _, (upd_ne (ne_of_none hacc hT0)).trans hacc, ?_, ?_, ?_⟩
      · rw [List.length_map, List.length_take]
        exact line_le (by omega)
      · exact same_set hD (e.trans (same_upd hT0))
      · rw [upd_same, List.take_add_one, List.getElem?_zipWith, hc, hd]
        simp
    · rintro H' ⟨e, hacc⟩
      rw [List.length_map, List.length_map, List.take_of_length_le (by rw [List.length_zipWith]; exact Nat.le_refl _)] at hacc
      refine ⟨D, _, rfl, .inl ⟨SqL.of hacc, fun p8 hp8 => ?_⟩⟩
      exact k _ _ (e.trans (same_upd hp8)) ⟨p8, rfl, SqT.of upd_same⟩
def spRtim (K : PySem.W.Frag) : Sp := fun vs H Q _ => ∃ (q c : Int) (v : V) (ns : List Int), vs = [.int q, .int c, v] ∧ LetQ q ∧ IsLet q c ∧ TI K H v ns ∧ IsRow q ns ∧ ns.length ≤ 1000 ∧
  ∀ z H', Same H H' → TI K H' z (ns.map (ltim q c)) → Q z H'
theorem ok_row_times (T : Txt K mg) : FnOk P w K mg base CX0 2 T.a_row_times T.d_row_times P_row_times (spRtim K) := by
  refine T.F_row_times.ok sc_row_times (fun vs H Q E h => ?_) (fun cdv A outer s H vs Q E hr h => ?_)
  · obtain ⟨q, c, v, ns, rfl, _⟩ := h
    rfl
  · obtain ⟨q, c, _, ns, rfl, hq, hc, ⟨a, rfl, ha⟩, hr', hl, k⟩ := h
    refine ⟨_, 
      (pss_one (ps_ret (pe_callTy call_tuple_of (by rfl) T.m_tuple (by decide +kernel) (pa_cons (pe_lc (own := [("item", 3)]) (g := gName 3) (tt := tYes) rfl sc_row_times.nd (pi_tup (pv 2)) (blkOk_by (own := [("item", 3)]) (N := N_row_times) (sc := (defScope s_row_times)) (by decide +kernel)) (fun _ _ _ _ _ => (pg_name (i := 3) sc_row_times.nd rfl (Or.inl rfl))) (fun _ _ _ _ _ => pts_nil) (fun _ _ _ _ _ => (pe_call (ok_letter_times T) (hr.mono (by decide)) rfl T.m_letter_times T.F_letter_times.kp T.b_letter_times .nil pass0 (pa_cons (pv 0) (pa_cons (pv 1) (pa_cons (pv 3) pa_nil)))))) pa_nil)))), ?_⟩
    refine ⟨_, rfl, a, rfl, ⟨_, ha⟩, fun D hD => lc_it (walk_tup (K := K) (a := a) (xs := ns.map V.int))
      (fun i H' => Same H H' ∧ H' D = some (.lst (((ns.map (ltim q c)).take i).map V.int))) ⟨same_upd hD, by rw [upd_same]; simp⟩ (fun i H' _ ⟨e, _⟩ => e.tup ha) ?_ ?_⟩
    · rintro i x H' _ hi ⟨e, hacc⟩ ⟨rfl, hx⟩
      obtain ⟨z, hz, rfl⟩ := int_at hx
      have hiL : i < ns.length := (List.getElem?_eq_some_iff.mp hz).1
      refine ⟨rfl, ?_⟩
      refine ⟨_, rfl, _, rfl, _, rfl, q, c, z, rfl, hq, hc, hr' z (List.mem_of_getElem? hz), _, hacc, ?_, same_set hD e, ?_⟩
      · rw [List.length_map, List.length_take]
        exact line_le (by omega)
      · rw [upd_same, List.take_add_one, List.getElem?_map, hz]
        simp
    · rintro H' ⟨e, hacc⟩
      rw [List.take_of_length_le (by rw [List.length_map, List.length_map]; exact Nat.le_refl _)] at hacc
      refine ⟨D, _, rfl, .inl ⟨SqL.of hacc, fun p8 hp8 => ?_⟩⟩
      exact k _ _ (e.trans (same_upd hp8)) ⟨p8, rfl, SqT.of upd_same⟩
def supp (ns : List Int) : List Int := ((List.range ns.length).filter fun i => ns.getD i 0 != 0).map fun i : Nat => (i : Int)
def spRsup (K : PySem.W.Frag) : Sp := fun vs H Q _ => ∃ (v : V) (ns : List Int), vs = [v] ∧ TI K H v ns ∧ ns.length ≤ 1000 ∧ ∀ z H', Same H H' → TI K H' z (supp ns) → Q z H'
theorem ok_row_support (T : Txt K mg) : FnOk P w K mg base CX0 1 T.a_row_support T.d_row_support P_row_support (spRsup K) := by
  refine T.F_row_support.ok sc_row_support (fun vs H Q E h => ?_) (fun cdv A outer s H vs Q E hr h => ?_)
  · obtain ⟨v, ns, rfl, _⟩ := h
    rfl
  · obtain ⟨_, ns, rfl, ⟨a, rfl, ha⟩, hl, k⟩ := h
    refine ⟨_, 
      (pss_one (ps_ret (pe_callTy call_tuple_of (by rfl) T.m_tuple (by decide +kernel) (pa_cons (pe_lc (own := [("place", 1)]) (g := gName 1)  rfl sc_row_support.nd (pi_range1 rfl T.m_range (pa_cons (pe_callB call_len_seq (by rfl) T.m_len (by decide +kernel) (pa_cons (pv 0) pa_nil)) pa_nil)) (blkOk_by (own := [("place", 1)]) (N := N_row_support) (sc := (defScope s_row_support)) (by decide +kernel)) (fun _ _ _ _ _ => (pg_name (i := 1) sc_row_support.nd rfl (Or.inl rfl))) (fun _ _ _ _ _ => (pts_one (pt_cmpR op_ne (pe_ix (r := rIxT K) ix_tup (pv 0) (pv 1) (fun _ _ => rfl)) pe_int (nomark _)))) (fun _ _ _ _ _ => (pv 1))) pa_nil)))), ?_⟩
    refine ⟨_, rfl, a, _, rfl, .inr ha, _, rfl, ?_, ?_, fun D hD => ?_⟩
    · rw [List.length_map]; omega
    · rw [List.length_map]; omega
    refine lc_it (walk_range (lo := 0) (n := ((ns.map V.int).length : Int).toNat))
      (fun i H' => Same H H' ∧ H' D = some (.lst ((((List.range i).filter fun j => ns.getD j 0 != 0).map fun j : Nat => (j : Int)).map V.int))) ⟨same_upd hD, upd_same⟩ (fun _ _ _ _ => trivial) ?_ ?_
    · rintro i x H' _ hi ⟨e, hN⟩ ⟨rfl, rfl⟩
      rw [List.length_map] at hi
      have hi' : i < ns.length := by omega
      refine ⟨rfl, ?_⟩
      refine ⟨_, rfl, _, rfl, a, _, _, .int ns[i], rfl, rfl, e.tup ha, ?_, rfl, _, rfl, ?_⟩
      · rw [show (0 : Int) + (i : Int) = (i : Int) from Int.zero_add _]
        exact atI_nat (by rw [List.getElem?_map, List.getElem?_eq_getElem hi']; rfl)
      · rw [dec_int]
        have gd : ns.getD i 0 = ns[i] := by rw [List.getD_eq_getElem?_getD, List.getElem?_eq_getElem hi']; rfl
        have sz : ((((List.range i).filter fun j => ns.getD j 0 != 0).map fun j : Nat => (j : Int)).map V.int).length < sizeLine := by
          rw [List.length_map, List.length_map]
          exact line_le (Nat.le_trans (List.length_filter_le _ _) (by rw [List.length_range]; omega))
        refine ite2 (fun c => ?_) (fun c => ?_)
        · refine ⟨_, rfl, _, hN, sz, same_set hD e, ?_⟩
          have c' : (ns.getD i 0 != 0) = true := by
            rw [gd]
            simpa using c
          rw [upd_same, List.range_succ, List.filter_append, List.map_append, List.map_append]
          show some (HO.lst (_ ++ [V.int (0 + (i : Int))])) = _
          rw [Int.zero_add, List.filter_cons_of_pos (by exact c')]
          rfl
        · refine ⟨e, ?_⟩
          have c' : ¬ ((ns.getD i 0 != 0) = true) := by
            rw [gd]
            simpa using c
          rw [List.range_succ, List.filter_append, List.filter_cons_of_neg (by exact c'), List.filter_nil, List.append_nil]
          exact hN
    · rintro H' ⟨e, hN⟩
      refine ⟨D, _, rfl, .inl ⟨SqL.of hN, fun p8 hp8 => ?_⟩⟩
      refine k _ _ (e.trans (same_upd hp8)) ⟨p8, rfl, ?_⟩
      have z : ((ns.map V.int).length : Int).toNat = ns.length := by rw [List.length_map]; omega
      unfold supp
      rw [← z]
      exact SqT.of upd_same
end
end K11
end
section
set_option maxRecDepth 100000
set_option maxHeartbeats 4000000
namespace K11
open PySem PySem.Spec PyProof.Rows L2 MB LM
open LamX hiding takes0
section
variable {w : World} {K : PySem.W.Frag} {mg : Str → Option Value} {base : Heap}
def spWza (K : PySem.W.Frag) : Sp := fun vs H Q _ => ∃ (q : Int) (p : Nat) (u v : V) (row head : List Int), vs = [.int q, .int (p : Int), u, v] ∧ LetQ q ∧ TI K H u row ∧ TI K H v head ∧ IsRow q row ∧ IsRow q head ∧ p < row.length ∧ row.length ≤ 1000 ∧ head.length ≤ 1000 ∧
  ∀ z H', Same H H' → TI K H' z (wza q p row head) → Q z H'
theorem ok_with_zero_at (T : Txt K mg) : FnOk P w K mg base CX0 3 T.a_with_zero_at T.d_with_zero_at P_with_zero_at (spWza K) := by
  refine T.F_with_zero_at.ok sc_with_zero_at (fun vs H Q E h => ?_) (fun cdv A outer s H vs Q E hr h => ?_)
  · obtain ⟨q, p, u, v, row, head, rfl, _⟩ := h
    rfl
  · obtain ⟨q, p, _, v, row, head, rfl, hq, ⟨a, rfl, ha⟩, hv, hrow, hhead, hp, hl, hl2, k⟩ := h
    refine ⟨_, 
      (pss_one (ps_ret (pe_call (ok_row_sum T) (hr.mono (by decide)) rfl T.m_row_sum T.F_row_sum.kp T.b_row_sum .nil pass0 (pa_cons (pv 0) (pa_cons (pv 2) (pa_cons (pe_call (ok_row_times T) (hr.mono (by decide)) rfl T.m_row_times T.F_row_times.kp T.b_row_times .nil pass0 (pa_cons (pv 0) (pa_cons (pe_call (ok_letter_negative T) (hr.mono (by decide)) rfl T.m_letter_negative T.F_letter_negative.kp T.b_letter_negative .nil pass0 (pa_cons (pv 0) (pa_cons (pe_ix (r := rIxT K) ix_tup (pv 2) (pv 1) (fun _ _ => rfl)) pa_nil))) (pa_cons (pv 3) pa_nil)))) pa_nil)))))), ?_⟩
    refine ⟨_, rfl, _, rfl, _, rfl, _, rfl, _, rfl, _, rfl, a, _, _, .int (row.getD p 0), rfl, rfl, ha, atI_nat ?_, q, _, rfl, hq, _, rfl, q, _, v, head, rfl, hq, let_neg hq (row_at hrow hp), hv, hhead, hl2, fun z H1 s1 hz => ?_⟩
    · rw [List.getElem?_map, List.getD_eq_getElem?_getD, List.getElem?_eq_getElem hp]
      rfl
    · exact ⟨q, _, _, row, _, rfl, hq, ⟨a, rfl, s1.tup ha⟩, hz, hl, fun y H2 s2 hy => k y H2 (s1.trans s2) hy⟩
end
end K11
end
section
set_option maxRecDepth 100000
set_option maxHeartbeats 4000000
namespace K11
open PySem PySem.Spec PyProof.Rows L2 MB LM
open LamX hiding takes0
def RowsAt (K : PySem.W.Frag) (H : Hp) (L : Addr) (Ls : List (List Int)) : Prop := ∃ vs, H L = some (.lst vs) ∧ Paired (TI K H) vs Ls
def TupRows (K : PySem.W.Frag) (H : Hp) (v : V) (Ls : List (List Int)) : Prop := ∃ a vs, v = .ref a ∧ SqT K H a vs ∧ Paired (TI K H) vs Ls
theorem rows_same {K : PySem.W.Frag} {H H' : Hp} {vs : List V} {Ls : List (List Int)} (e : Same H H') (h : Paired (TI K H) vs Ls) : Paired (TI K H') vs Ls := by
  induction h with
  | nil => exact .nil
  | cons r _ ih => exact .cons (r.same e) ih
theorem ti_updl {K : PySem.W.Frag} {H : Hp} {L : Addr} {us : List V} {o : List V} {v : V} {ns : List Int} (hL : H L = some (.lst us)) (h : TI K H v ns) : TI K (upd H L (.lst o)) v ns := by
  obtain ⟨t, rfl, ht⟩ := h
  refine ⟨t, rfl, ?_⟩
  rcases ht with (q | ⟨ob, q⟩) | q
  · have ne : t ≠ L := ne_of q hL (by intro z; cases z)
    exact .inl (.inl ((upd_ne ne).trans q))
  · have ne : t ≠ L := ne_of q hL (by intro z; cases z)
    exact .inl (.inr ⟨ob, (upd_ne ne).trans q⟩)
  · exact .inr q
theorem rows_updl {K : PySem.W.Frag} {H : Hp} {L : Addr} {us o vs : List V} {Ls : List (List Int)} (hL : H L = some (.lst us)) (h : Paired (TI K H) vs Ls) : Paired (TI K (upd H L (.lst o))) vs Ls := by
  induction h with
  | nil => exact .nil
  | cons r _ ih => exact .cons (ti_updl hL r) ih
theorem paired_snoc {α β : Type} {R : α → β → Prop} {xs : List α} {ys : List β} {x : α} {y : β} (h : Paired R xs ys) (r : R x y) : Paired R (xs ++ [x]) (ys ++ [y]) := by
  induction h with
  | nil => exact .cons r .nil
  | cons a _ ih => exact .cons a ih
section
variable {w : World} {K : PySem.W.Frag} {mg : Str → Option Value} {base : Heap}
def spRed (K : PySem.W.Frag) : Sp := fun vs H Q _ => ∃ (q : Int) (n : Nat) (v : V) (Ls : List (List Int)), vs = [.int q, .int (n : Int), v] ∧ LetQ q ∧ n ≤ 8 ∧ TupRows K H v Ls ∧ AllR q n Ls ∧ Ls.length ≤ 1000 ∧
  ∀ z H', Same H H' → TupRows K H' z (gauss q n Ls) → Q z H'
theorem ok_reduced_rows (T : Txt K mg) : FnOk P w K mg base CX0 4 T.a_reduced_rows T.d_reduced_rows P_reduced_rows (spRed K) := by
  refine T.F_reduced_rows.ok sc_reduced_rows (fun vs H Q E h => ?_) (fun cdv A outer s H vs Q E hr h => ?_)
  · obtain ⟨q, n, v, Ls, rfl, _⟩ := h
    rfl
  · obtain ⟨q, n, _, Ls, rfl, hq, hn, ⟨a, vs, rfl, ha, hp⟩, hall, hl, k⟩ := h
    refine ⟨_, 
      (pss_cons (ps_set (i := 3) sc_reduced_rows.nd rfl (Or.inl rfl) (pe_callTy call_list_of (by rfl) T.m_list (by decide +kernel) (pa_cons (pv 2) pa_nil)))
      (pss_cons (ps_set (i := 4) sc_reduced_rows.nd rfl (Or.inl rfl) (pe_lst pa_nil))
      (pss_cons (ps_for PassesOwn.never rfl (pi_range1 rfl T.m_range (pa_cons (pv 1) pa_nil)) (pg_name (i := 5) sc_reduced_rows.nd rfl (Or.inr rfl)) (pss_cons (ps_setLc (i := 6) (own := [("row", 8)]) (g := gName 8)  rfl sc_reduced_rows.nd rfl rfl (sw_true rfl rfl rfl (by decide +kernel)) (pi_list (pv 3)) (blkOk_by (own := [("row", 8)]) (N := N_reduced_rows) (sc := (defScope s_reduced_rows)) (by decide +kernel)) (fun _ _ _ _ _ => (pg_name (i := 8) sc_reduced_rows.nd rfl (Or.inl rfl))) (fun _ _ _ _ _ => (pts_one (pt_cmpR op_ne (pe_ix (r := rIxT K) ix_tup (pv 8) (pv 5) (fun _ _ => rfl)) pe_int (nomark _)))) (fun _ _ _ _ _ => (pv 8)))
      (pss_one (ps_if (pt_truth (pv 6) (by intro _; rfl)) (pss_cons (ps_set (i := 7) sc_reduced_rows.nd rfl (Or.inr rfl) (pe_call (ok_row_times T) (hr.mono (by decide)) rfl T.m_row_times T.F_row_times.kp T.b_row_times .nil pass0 (pa_cons (pv 0) (pa_cons (pe_call (ok_letter_inverse T) (hr.mono (by decide)) rfl T.m_letter_inverse T.F_letter_inverse.kp T.b_letter_inverse .nil pass0 (pa_cons (pv 0) (pa_cons (pe_ix (r := rIxT K) ix_tup (pe_ix (r := rIxL K) ix_list (pv 6) pe_int (fun _ _ => rfl)) (pv 5) (fun _ _ => rfl)) pa_nil))) (pa_cons (pe_ix (r := rIxL K) ix_list (pv 6) pe_int (fun _ _ => rfl)) pa_nil)))))
      (pss_cons (ps_setLc (i := 3) (own := [("row", 8)]) (g := gName 8) (tt := tYes) rfl sc_reduced_rows.nd rfl rfl (sw_true rfl rfl rfl (by decide +kernel)) (pi_list (pv 3)) (blkOk_by (own := [("row", 8)]) (N := N_reduced_rows) (sc := (defScope s_reduced_rows)) (by decide +kernel)) (fun _ _ _ _ _ => (pg_name (i := 8) sc_reduced_rows.nd rfl (Or.inl rfl))) (fun _ _ _ _ _ => pts_nil) (fun _ _ _ _ _ => (pe_call (ok_with_zero_at T) (hr.mono (by decide)) rfl T.m_with_zero_at T.F_with_zero_at.kp T.b_with_zero_at .nil pass0 (pa_cons (pv 0) (pa_cons (pv 5) (pa_cons (pv 8) (pa_cons (pv 7) pa_nil)))))))
      (pss_cons (ps_setLc (i := 4) (own := [("row", 8)]) (g := gName 8) (tt := tYes) rfl sc_reduced_rows.nd rfl rfl (sw_true rfl rfl rfl (by decide +kernel)) (pi_list (pv 4)) (blkOk_by (own := [("row", 8)]) (N := N_reduced_rows) (sc := (defScope s_reduced_rows)) (by decide +kernel)) (fun _ _ _ _ _ => (pg_name (i := 8) sc_reduced_rows.nd rfl (Or.inl rfl))) (fun _ _ _ _ _ => pts_nil) (fun _ _ _ _ _ => (pe_call (ok_with_zero_at T) (hr.mono (by decide)) rfl T.m_with_zero_at T.F_with_zero_at.kp T.b_with_zero_at .nil pass0 (pa_cons (pv 0) (pa_cons (pv 5) (pa_cons (pv 8) (pa_cons (pv 7) pa_nil)))))))
      (pss_one (ps_expr (pe_bm PySem.F.plainAttrs_list PySem.F.slot_list_append PySem.F.type_list_append mt_append (pv 4) (pa_cons (pv 7) pa_nil))))))) pss_nil))))
      (pss_one (ps_ret (pe_callTy call_tuple_of (by rfl) T.m_tuple (by decide +kernel) (pa_cons (pv 4) pa_nil))))))), ?_⟩
    refine ⟨_, rfl, a, _, rfl, .inr ha, fun L0 hL0 => ?_⟩
    refine ⟨Nat.zero_le _, fun D0 hD0 => ?_⟩
    have sD : Same H (upd (upd H L0 (.lst vs)) D0 (.lst [])) := (same_upd hL0).trans (same_upd hD0)
    refine ⟨_, rfl, _, rfl, by omega, by omega, for_range (lo := 0) (n := (n : Int).toNat)
      (fun i σ H' => ∃ L D o5 o6 o7, σ = [some (.int q), some (.int (n : Int)), some (.ref a), some (.ref L), some (.ref D), o5, o6, o7, none] ∧ Same H H' ∧
        RowsAt K H' L ((List.range i).foldl (gstep q) (Ls, [])).1 ∧ RowsAt K H' D ((List.range i).foldl (gstep q) (Ls, [])).2 ∧
        AllR q n ((List.range i).foldl (gstep q) (Ls, [])).1 ∧ AllR q n ((List.range i).foldl (gstep q) (Ls, [])).2 ∧
        ((List.range i).foldl (gstep q) (Ls, [])).1.length ≤ 1000 ∧ ((List.range i).foldl (gstep q) (Ls, [])).2.length ≤ i)
      ⟨L0, D0, none, none, none, rfl, sD, ⟨vs, (same_upd hD0) _ _ upd_same, rows_same sD hp⟩, ⟨[], upd_same, .nil⟩, hall, (fun r hr => by cases hr), hl, Nat.le_refl _⟩ ?_ ?_⟩
    · rintro i _ H1 hi ⟨L, D, o5, o6, o7, rfl, s1, hL, hD, aL, aD, lL, lD⟩
      rw [List.range_succ, List.foldl_append, List.foldl_cons, List.foldl_nil]
      generalize (List.range i).foldl (gstep q) (Ls, []) = st at hL hD aL aD lL lD
      have hin : i < n := by omega
      obtain ⟨vL, hLl, pL⟩ := hL
      refine ⟨_, rfl, _, rfl, ⟨_, SqL.of hLl⟩, fun G0 hG0 => ?_⟩
      refine lc_it (walk_list (K := K) (a := L) (xs := vL))
        (fun i2 G => Same H1 G ∧ ∃ ws, G G0 = some (.lst ws) ∧ Paired (TI K G) ws ((st.1.take i2).filter fun r => r.getD i 0 != 0))
        ⟨same_upd hG0, [], upd_same, .nil⟩ (fun i2 G _ ⟨e, _⟩ => SqL.of (e _ _ hLl)) ?_ ?_
      · rintro i2 x G _ hi2 ⟨e, ws, hw, pw⟩ ⟨rfl, hx⟩
        obtain ⟨r, hr2, ti⟩ := paired_at pL hx
        have hm : r ∈ st.1 := List.mem_of_getElem? hr2
        obtain ⟨ir, lr⟩ := aL r hm
        obtain ⟨t, rfl, ht⟩ := TI.same ti e
        refine ⟨rfl, ?_⟩
        have hir : i < r.length := by omega
        have gd : r.getD i 0 = r[i] := by rw [List.getD_eq_getElem?_getD, List.getElem?_eq_getElem hir]; rfl
        refine ⟨_, rfl, _, rfl, t, _, _, .int r[i], rfl, rfl, ht, ?_, rfl, _, rfl, ?_⟩
        · rw [show (0 : Int) + (i : Int) = (i : Int) from Int.zero_add _]
          exact atI_nat (by rw [List.getElem?_map, List.getElem?_eq_getElem hir]; rfl)
        · rw [dec_int]
          have hwl : ws.length ≤ i2 := by
            rw [pw.length]
            exact Nat.le_trans (List.length_filter_le _ _) (by rw [List.length_take]; omega)
          have lM : st.1.length = vL.length := pL.length.symm
          refine ite2 (fun c => ?_) (fun c => ?_)
          · have c' : (r.getD i 0 != 0) = true := by
              rw [gd]
              simpa using c
            refine ⟨_, rfl, ws, hw, line_le (by omega), same_set hG0 e, ws ++ [.ref t], upd_same, ?_⟩
            rw [List.take_add_one, hr2, List.filter_append]
            show Paired _ _ (_ ++ List.filter _ [r])
            rw [List.filter_cons_of_pos (by exact c'), List.filter_nil]
            exact paired_snoc (rows_updl hw pw) (ti_updl hw ⟨t, rfl, ht⟩)
          · have c' : ¬ ((r.getD i 0 != 0) = true) := by
              rw [gd]
              simpa using c
            refine ⟨e, ws, hw, ?_⟩
            rw [List.take_add_one, hr2, List.filter_append]
            show Paired _ _ (_ ++ List.filter _ [r])
            rw [List.filter_cons_of_neg (by exact c'), List.filter_nil, List.append_nil]
            exact pw
      rintro H2 ⟨e2, ws, hw, pw⟩
      rw [pL.length, List.take_length] at pw
      have hLr2 : RowsAt K H2 L st.1 := ⟨vL, e2 _ _ hLl, rows_same e2 pL⟩
      have hDr2 : RowsAt K H2 D st.2 := let ⟨vD, h1, h2⟩ := hD; ⟨vD, e2 _ _ h1, rows_same e2 h2⟩
      have s2 := s1.trans e2
      unfold gstep
      cases hf : st.1.filter (fun r => r.getD i 0 != 0) with
      | nil =>
        rw [hf] at pw
        cases pw
        refine ⟨_, rfl, false, ?_, ?_⟩
        · exact .inl ⟨[], SqL.of hw, rfl⟩
        · refine iteF ?_
          exact ⟨L, D, _, _, _, rfl, s2, hLr2, hDr2, aL, aD, lL, Nat.le_succ_of_le lD⟩
      | cons h hs =>
        rw [hf] at pw
        refine ⟨_, rfl, true, ?_, ?_⟩
        · exact .inl ⟨ws, SqL.of hw, by cases pw; rfl⟩
        · refine iteT ?_
          cases pw with
          | @cons v0 _ vr _ t0 tr =>
            obtain ⟨a0, rfl, ha0⟩ := t0
            have hmem : h ∈ st.1.filter (fun r => r.getD i 0 != 0) := by rw [hf]; exact List.mem_cons_self
            obtain ⟨hm1, hm2⟩ := List.mem_filter.mp hmem
            obtain ⟨ih0, lh0⟩ := aL h hm1
            have hih : i < h.length := by omega
            have c0 : h.getD i 0 ≠ 0 := by simpa using hm2
            have lti := row_at ih0 hih
            have gd : (h.map V.int)[i]? = some (.int (h.getD i 0)) := by
              rw [List.getElem?_map, List.getD_eq_getElem?_getD, List.getElem?_eq_getElem hih]
              rfl
            refine ⟨_, rfl, _, rfl, _, rfl, G0, _, 0, .ref a0, rfl, rfl, SqL.of hw, atI_nat (j := 0) rfl, _, rfl, a0, _, _, .int (h.getD i 0), rfl, rfl, ha0, ?_, q, _, rfl, hq, lti, c0, fun H2' s2' => ?_⟩
            · rw [show (0 : Int) + (i : Int) = (i : Int) from Int.zero_add _]
              exact atI_nat gd
            refine ⟨_, rfl, G0, _, 0, .ref a0, rfl, rfl, SqL.of (s2' _ _ hw), atI_nat (j := 0) rfl, q, _, _, h, rfl, hq, let_inv hq lti c0, ⟨a0, rfl, s2'.tup ha0⟩, ih0, by omega, fun hv H3 s3 thd => ?_⟩
            have hdr : IsRow q (h.map (ltim q (linv q (h.getD i 0)))) := fun c hc => by
              obtain ⟨x, hx, rfl⟩ := List.mem_map.mp hc
              exact let_tim hq (let_inv hq lti c0) (ih0 x hx)
            have hdl : (h.map (ltim q (linv q (h.getD i 0)))).length = n := by rw [List.length_map]; exact lh0
            have s13 := s2.trans (s2'.trans s3)
            have hLr : RowsAt K H3 L st.1 := let ⟨w1, h1, h2⟩ := hLr2; ⟨w1, (s2'.trans s3) _ _ h1, rows_same (s2'.trans s3) h2⟩
            have hDr3 : RowsAt K H3 D st.2 := let ⟨w1, h1, h2⟩ := hDr2; ⟨w1, (s2'.trans s3) _ _ h1, rows_same (s2'.trans s3) h2⟩
            generalize hgd : h.map (ltim q (linv q (h.getD i 0))) = hd at thd hdr hdl
            obtain ⟨vA, lA, pA⟩ := hLr
            refine ⟨_, rfl, _, rfl, ⟨_, SqL.of lA⟩, fun LA hLA => ?_⟩
            refine lc_it (walk_list (K := K) (a := L) (xs := vA))
              (fun i2 G => Same H3 G ∧ ∃ ws, G LA = some (.lst ws) ∧ Paired (TI K G) ws ((st.1.take i2).map fun r => wza q i r hd))
              ⟨same_upd hLA, [], upd_same, .nil⟩ (fun i2 G _ ⟨e, _⟩ => SqL.of (e _ _ lA)) ?_ ?_
            · rintro i2 x G _ hi2 ⟨e, ws, hw, pw⟩ ⟨rfl, hx⟩
              obtain ⟨r, hr2, ti⟩ := paired_at pA hx
              have hm : r ∈ st.1 := List.mem_of_getElem? hr2
              obtain ⟨ir, lr⟩ := aL r hm
              have tiG := TI.same ti e
              refine ⟨rfl, ?_⟩
              refine ⟨_, rfl, _, rfl, _, rfl, _, rfl, q, i, _, _, r, hd, by rw [show ((0 : Int) + (i : Int)) = (i : Int) from Int.zero_add _]; rfl, hq, tiG, TI.same thd ((Same.refl _).trans e), ir, hdr, by omega, by omega, by omega, fun z G2 s2 hz => ?_⟩
              have hwl : ws.length ≤ i2 := by
                rw [pw.length, List.length_map, List.length_take]
                omega
              have lM : st.1.length = vA.length := pA.length.symm
              refine ⟨ws, s2 _ _ hw, line_le (by omega), same_set hLA (e.trans s2), ws ++ [z], upd_same, ?_⟩
              have g2 := s2 _ _ hw
              have pw2 := rows_updl (o := ws ++ [z]) g2 (rows_same s2 pw)
              rw [List.take_add_one, hr2]
              rw [List.map_append]
              exact paired_snoc pw2 (ti_updl g2 hz)
            rintro H4 ⟨eA, wsA, hwA, pwA⟩
            rw [pA.length, List.take_length] at pwA
            have hDr : RowsAt K H4 D st.2 := let ⟨w1, h1, h2⟩ := hDr3; ⟨w1, eA _ _ h1, rows_same eA h2⟩
            obtain ⟨vB, lB, pB⟩ := hDr
            refine ⟨_, rfl, _, rfl, ⟨_, SqL.of lB⟩, fun LB hLB => ?_⟩
            refine lc_it (walk_list (K := K) (a := D) (xs := vB))
              (fun i2 G => Same H4 G ∧ ∃ ws, G LB = some (.lst ws) ∧ Paired (TI K G) ws ((st.2.take i2).map fun r => wza q i r hd))
              ⟨same_upd hLB, [], upd_same, .nil⟩ (fun i2 G _ ⟨e, _⟩ => SqL.of (e _ _ lB)) ?_ ?_
            · rintro i2 x G _ hi2 ⟨e, ws, hw, pw⟩ ⟨rfl, hx⟩
              obtain ⟨r, hr2, ti⟩ := paired_at pB hx
              have hm : r ∈ st.2 := List.mem_of_getElem? hr2
              obtain ⟨ir, lr⟩ := aD r hm
              have tiG := TI.same ti e
              refine ⟨rfl, ?_⟩
              refine ⟨_, rfl, _, rfl, _, rfl, _, rfl, q, i, _, _, r, hd, by rw [show ((0 : Int) + (i : Int)) = (i : Int) from Int.zero_add _]; rfl, hq, tiG, TI.same thd (eA.trans e), ir, hdr, by omega, by omega, by omega, fun z G2 s2 hz => ?_⟩
              have hwl : ws.length ≤ i2 := by
                rw [pw.length, List.length_map, List.length_take]
                omega
              have lM : st.2.length = vB.length := pB.length.symm
              refine ⟨ws, s2 _ _ hw, line_le (by omega), same_set hLB (e.trans s2), ws ++ [z], upd_same, ?_⟩
              have g2 := s2 _ _ hw
              have pw2 := rows_updl (o := ws ++ [z]) g2 (rows_same s2 pw)
              rw [List.take_add_one, hr2]
              rw [List.map_append]
              exact paired_snoc pw2 (ti_updl g2 hz)
            rintro H5 ⟨eB, wsB, hwB, pwB⟩
            rw [pB.length, List.take_length] at pwB
            have nLB : H LB = none := (s13.trans eA).free hLB
            have lB1 : wsB.length ≤ 8 := by
              rw [pwB.length, List.length_map]
              omega
            refine ⟨_, rfl, .inl ⟨rfl, _, SqL.of hwB⟩, _, rfl, LB, _, _, rfl, rfl, hwB, line_le (by omega), ?_⟩
            have neAB : LA ≠ LB := ne_of_none hwA hLB
            have mapR : ∀ Ms, AllR q n Ms → AllR q n (Ms.map fun r => wza q i r hd) := fun Ms al r hr => by
              obtain ⟨x, hx, rfl⟩ := List.mem_map.mp hr
              obtain ⟨ix, lx⟩ := al x hx
              refine ⟨row_wza hq ix hdr (by omega), ?_⟩
              unfold wza
              rw [List.length_zipWith, List.length_map]
              omega
            subst hgd
            refine ⟨LA, LB, _, _, _, rfl, same_set nLB ((s13.trans eA).trans eB), ⟨wsA, (upd_ne neAB).trans (eB _ _ hwA), rows_updl hwB (rows_same eB pwA)⟩,
              ⟨wsB ++ [hv], upd_same, paired_snoc (rows_updl hwB pwB) (ti_updl hwB (TI.same thd (eA.trans eB)))⟩, mapR _ aL, ?_, ?_, ?_⟩
            · intro r hr
              rcases List.mem_append.mp hr with hr | hr
              · exact mapR _ aD r hr
              · rw [List.mem_singleton.mp hr]
                exact ⟨hdr, hdl⟩
            · rw [List.length_map]
              exact lL
            · rw [List.length_append, List.length_map]
              exact Nat.succ_le_succ lD
    · rintro _ H1 ⟨L, D, o5, o6, o7, rfl, s1, hL, hD, aL, aD, lL, lD⟩
      obtain ⟨vD, hDl, pD⟩ := hD
      refine ⟨_, rfl, D, _, rfl, .inl ⟨SqL.of hDl, fun p4 hp4 => ?_⟩⟩
      have e4 := same_upd (o := .tup vD) hp4
      refine k _ _ (s1.trans e4) ⟨p4, vD, rfl, SqT.of upd_same, rows_same e4 ?_⟩
      have z : (n : Int).toNat = n := by omega
      rw [z] at pD
      exact pD
end
end K11
end
section
set_option maxRecDepth 100000
set_option maxHeartbeats 4000000
namespace K11
open PySem PySem.Spec PyProof.Rows L2 MB LM
open LamX hiding takes0
section
variable {w : World} {K : PySem.W.Frag} {mg : Str → Option Value} {base : Heap}
def inFrom (lo hi : Int) : Option Int → Bool
  | none => false
  | some i => decide (lo ≤ i) && decide (i ≤ hi)
def spFrom (K : PySem.W.Frag) : Sp := fun vs H Q _ => ∃ (v : V) (lo hi : Int) (o : Option Int), vs = [v, .int lo, .int hi] ∧ IntQ K H v o ∧ Q (.bl (inFrom lo hi o)) H
theorem ok_is_integer_from (T : Txt K mg) : FnOk P w K mg base CX0 2 T.a_is_integer_from T.d_is_integer_from P_is_integer_from (spFrom K) := by
  refine T.F_is_integer_from.ok sc_is_integer_from (fun vs H Q E h => ?_) (fun cdv A outer s H vs Q E hr h => ?_)
  · obtain ⟨v, lo, hi, o, rfl, _⟩ := h
    rfl
  · obtain ⟨v, lo, hi, o, rfl, hv, k⟩ := h
    refine ⟨_, 
      (pss_one (ps_ret (pe_and (pe_call (ok_is_integer T) (hr.mono (by decide)) rfl T.m_is_integer T.F_is_integer.kp T.b_is_integer .nil pass0 (pa_cons (pv 0) pa_nil)) (pe_one (pe_chain op_le op_le (pv 1) (pv 0) (pv 2)))))), ?_⟩
    refine ⟨_, rfl, v, o, rfl, hv, o.isSome, rfl, ?_⟩
    cases o with
    | none => exact iteF k
    | some i =>
      obtain rfl : v = .int i := hv
      refine iteT ?_
      have k' : Q (.bl (decide (lo ≤ i) && decide (i ≤ hi))) H := k
      refine ⟨_, rfl, _, rfl, _, _, rfl, rfl, decide (lo ≤ i), rfl, ?_⟩
      by_cases c : lo ≤ i
      · rw [decide_eq_true c] at k' ⊢
        exact iteT ⟨_, rfl, _, _, rfl, rfl, k'⟩
      · rw [decide_eq_false c] at k' ⊢
        exact iteF k'
def allFrom (lo hi : Int) : Option (List (Option Int)) → Bool
  | none => false
  | some os => os.all (inFrom lo hi)
def spsFrom (K : PySem.W.Frag) : Sp := fun vs H Q _ => ∃ (v : V) (lo hi : Int) (o : Option (List (Option Int))), vs = [v, .int lo, .int hi] ∧ Lev K H v o ∧ ∀ H', Same H H' → Q (.bl (allFrom lo hi o)) H'
theorem ok_are_integers_from (T : Txt K mg) : FnOk P w K mg base CX0 3 T.a_are_integers_from T.d_are_integers_from P_are_integers_from (spsFrom K) := by
  refine T.F_are_integers_from.ok sc_are_integers_from (fun vs H Q E h => ?_) (fun cdv A outer s H vs Q E hr h => ?_)
  · obtain ⟨v, lo, hi, o, rfl, _⟩ := h
    rfl
  · obtain ⟨v, lo, hi, o, rfl, hv, k⟩ := h
    refine ⟨_, 
      (pss_one (ps_ret (pe_and (pe_callB (id := "isinstance") (r := rIsi K) call_isi (by rfl) T.m_isinstance (by decide +kernel) (pa_cons (pv 0) (pa_cons (pe_bltn (by rfl) T.m_tuple (v := .ty "tuple") (by decide +kernel) rfl) pa_nil))) (pe_one (pe_callB (id := "all") (r := rAll K) (cr_all rfl) (by rfl) T.m_all (by decide +kernel) (pa_cons (pe_lc (own := [("item", 3)]) (g := gName 3) (tt := tYes) rfl sc_are_integers_from.nd (pi_tup (pv 0)) (blkOk_by (own := [("item", 3)]) (N := N_are_integers_from) (sc := (defScope s_are_integers_from)) (by decide +kernel)) (fun _ _ _ _ _ => (pg_name (i := 3) sc_are_integers_from.nd rfl (Or.inl rfl))) (fun _ _ _ _ _ => pts_nil) (fun _ _ _ _ _ => (pe_call (ok_is_integer_from T) (hr.mono (by decide)) rfl T.m_is_integer_from T.F_is_integer_from.kp T.b_is_integer_from .nil pass0 (pa_cons (pv 3) (pa_cons (pv 1) (pa_cons (pv 2) pa_nil)))))) pa_nil)))))), ?_⟩
    cases o with
    | none =>
      obtain ⟨t, ht, hk⟩ := hv
      refine ⟨_, rfl, _, _, _, _, _, rfl, .ty "tuple", ht, hk, false, rfl, ?_⟩
      exact iteF (k H (Same.refl _))
    | some os =>
      obtain ⟨xs, ⟨a, rfl, ha⟩, hp, hl⟩ := hv
      refine ⟨_, rfl, _, _, _, _, _, rfl, .ty "tuple", tyx_tup ha, kit_ty (r := true) (by decide +kernel), true, rfl, ?_⟩
      refine iteT ?_
      refine ⟨_, rfl, a, rfl, ⟨_, ha⟩, fun D hD => lc_it (walk_tup (K := K) (a := a) (xs := xs))
        (fun i H' => ∃ H0, Same H H0 ∧ H' = upd H0 D (.lst ((os.take i).map fun o => V.bl (inFrom lo hi o)))) ⟨H, Same.refl _, rfl⟩ ?_ ?_ ?_⟩
      · rintro i _ _ ⟨H0, e, rfl⟩
        exact (same_set hD e).tup ha
      · rintro i x _ _ hi ⟨H0, e, rfl⟩ ⟨rfl, hx⟩
        obtain ⟨y, hy, r⟩ := paired_at hp hx
        refine ⟨rfl, ?_⟩
        refine ⟨_, rfl, _, rfl, _, rfl, x, lo, _, y, rfl, r.same (same_set hD e), _, upd_same, by rw [List.length_map, List.length_take]; exact line_le (by omega), H0, e, ?_⟩
        rw [upd_upd, take_map_add _ hy]
      · rintro _ ⟨H0, e, rfl⟩
        have hle : os.length = xs.length := hp.length.symm
        refine ⟨D, os.map (inFrom lo hi), rfl, SqL.of (by rw [upd_same, ← hle, List.take_length, List.map_map]; rfl), ?_⟩
        have z := k _ (same_set (o := .lst ((os.take xs.length).map fun o => V.bl (inFrom lo hi o))) hD e)
        rw [List.all_map]
        exact z
def spLets (K : PySem.W.Frag) : Sp := fun vs H Q _ => ∃ (q : Int) (v : V) (o : Option (List (Option Int))), vs = [.int q, v] ∧ Lev K H v o ∧ ∀ H', Same H H' → Q (.bl (allFrom 0 (q - 1) o)) H'
theorem ok_are_letters (T : Txt K mg) : FnOk P w K mg base CX0 4 T.a_are_letters T.d_are_letters P_are_letters (spLets K) := by
  refine T.F_are_letters.ok sc_are_letters (fun vs H Q E h => ?_) (fun cdv A outer s H vs Q E hr h => ?_)
  · obtain ⟨q, v, o, rfl, _⟩ := h
    rfl
  · obtain ⟨q, v, o, rfl, hv, k⟩ := h
    refine ⟨_, 
      (pss_one (ps_ret (pe_call (ok_are_integers_from T) (hr.mono (by decide)) rfl T.m_are_integers_from T.F_are_integers_from.kp T.b_are_integers_from .nil pass0 (pa_cons (pv 1) (pa_cons pe_int (pa_cons (pe_op op_sub (pv 0) pe_int) pa_nil)))))), ?_⟩
    exact ⟨_, rfl, _, rfl, _, _, rfl, rfl, v, 0, _, o, rfl, hv, k⟩
def rowQ (q : Int) (n : Int) : Option (List (Option Int)) → Bool
  | none => false
  | some os => allFrom 0 (q - 1) (some os) && decide ((os.length : Int) = n)
def spIsRow (K : PySem.W.Frag) : Sp := fun vs H Q _ => ∃ (q n : Int) (v : V) (o : Option (List (Option Int))), vs = [.int q, .int n, v] ∧ Lev K H v o ∧ ∀ H', Same H H' → Q (.bl (rowQ q n o)) H'
theorem ok_is_row (T : Txt K mg) : FnOk P w K mg base CX0 5 T.a_is_row T.d_is_row P_is_row (spIsRow K) := by
  refine T.F_is_row.ok sc_is_row (fun vs H Q E h => ?_) (fun cdv A outer s H vs Q E hr h => ?_)
  · obtain ⟨q, n, v, o, rfl, _⟩ := h
    rfl
  · obtain ⟨q, n, v, o, rfl, hv, k⟩ := h
    refine ⟨_, 
      (pss_one (ps_ret (pe_and (pe_call (ok_are_letters T) (hr.mono (by decide)) rfl T.m_are_letters T.F_are_letters.kp T.b_are_letters .nil pass0 (pa_cons (pv 0) (pa_cons (pv 2) pa_nil))) (pe_one (pe_cmpR op_eq (pe_callB call_len_seq (by rfl) T.m_len (by decide +kernel) (pa_cons (pv 2) pa_nil)) (pv 1) (nomark _)))))), ?_⟩
    refine ⟨_, rfl, _, rfl, q, v, o, rfl, hv, fun H1 s1 => ⟨allFrom 0 (q - 1) o, rfl, ?_⟩⟩
    cases o with
    | none => exact iteF (k H1 s1)
    | some os =>
      obtain ⟨xs, ⟨a, rfl, ha⟩, hp, hl⟩ := hv
      have z := k H1 s1
      refine ite2 (fun e => ?_) (fun e => ?_)
      · refine ⟨_, rfl, a, _, rfl, .inr (s1.tup ha), _, rfl, rfl, ?_⟩
        rw [dec_int, hp.length]
        have e2 : rowQ q n (some os) = decide ((os.length : Int) = n) := by
          show (allFrom 0 (q - 1) (some os) && _) = _
          rw [e, Bool.true_and]
        rw [e2] at z
        exact z
      · have e1 : allFrom 0 (q - 1) (some os) = false := by simpa using e
        have e2 : rowQ q n (some os) = false := by
          show (allFrom 0 (q - 1) (some os) && _) = _
          rw [e1, Bool.false_and]
        rw [e2] at z
        exact z
def spChkF : Sp := fun vs H Q _ => ∃ q : Int, vs = [.int q] ∧ LetQ q ∧ Q .non H
theorem ok0_check_field (T : Txt K mg) : FnOk P w K mg base CX0 3 T.a_check_field T.d_check_field P_check_field spChkF := by
  refine T.F_check_field.ok sc_check_field (fun vs H Q E h => ?_) (fun cdv A outer s H vs Q E hr h => ?_)
  · obtain ⟨q, rfl, _⟩ := h
    rfl
  · obtain ⟨q, rfl, hq, k⟩ := h
    refine ⟨_, 
      (pss_one (ps_if (pt_not (pt_val (pe_call (ok_is_integer_from T) (hr.mono (by decide)) rfl T.m_is_integer_from T.F_is_integer_from.kp T.b_is_integer_from .nil pass0 (pa_cons (pv 0) (pa_cons pe_int (pa_cons pe_int pa_nil)))))) (pss_one ps_never) pss_nil)), ?_⟩
    have e : inFrom 2 5 (some q) = true := by
      show (decide (2 ≤ q) && decide (q ≤ 5)) = true
      rw [decide_eq_true hq.lo, decide_eq_true hq.hi]
      rfl
    refine ⟨_, rfl, _, 2, 5, some q, rfl, rfl, _, rfl, ?_⟩
    rw [e]
    exact iteF k
end
end K11
end
section
set_option maxRecDepth 100000
set_option maxHeartbeats 4000000
namespace K11
open PySem PySem.Spec PyProof.Rows L2 MB LM
open LamX hiding takes0
theorem ti_lev {K : PySem.W.Frag} {H : Hp} {v : V} {ns : List Int} (h : TI K H v ns) (hl : ns.length ≤ 1000) : Lev K H v (some (ns.map some)) := by
  obtain ⟨a, rfl, ha⟩ := h
  refine ⟨ns.map V.int, ⟨a, rfl, ha⟩, ?_, by rw [List.length_map]; exact hl⟩
  clear ha hl
  induction ns with
  | nil => exact .nil
  | cons c r ih => exact .cons rfl ih
theorem rowQ_row {q n : Int} {r : List Int} (h : IsRow q r) (hl : (r.length : Int) = n) : rowQ q n (some (r.map some)) = true := by
  show ((r.map some).all (inFrom 0 (q - 1)) && decide (((r.map some).length : Int) = n)) = true
  rw [List.length_map, decide_eq_true hl, Bool.and_true, List.all_map, List.all_eq_true]
  intro c hc
  obtain ⟨h1, h2⟩ := h c hc
  show (decide (0 ≤ c) && decide (c ≤ q - 1)) = true
  rw [decide_eq_true h1, decide_eq_true (by omega)]
  rfl
theorem sqT_ins {K : PySem.W.Frag} {H : Hp} {b C dx : Addr} {fs : List (Str × V)} {o : HO} {a : Addr} {xs : List V} (hb : H b = some (.ins C dx fs)) (h : SqT K H a xs) : SqT K (upd H b o) a xs := by
  rcases h with (q | ⟨ob, q⟩) | q
  · exact .inl (.inl ((upd_ne (ne_of q hb (by intro z; cases z))).trans q))
  · exact .inl (.inr ⟨ob, (upd_ne (ne_of q hb (by intro z; cases z))).trans q⟩)
  · exact .inr q
theorem rows_ins {K : PySem.W.Frag} {H : Hp} {b C dx : Addr} {fs : List (Str × V)} {o : HO} {vs : List V} {Ls : List (List Int)} (hb : H b = some (.ins C dx fs)) (h : Paired (TI K H) vs Ls) : Paired (TI K (upd H b o)) vs Ls := by
  induction h with
  | nil => exact .nil
  | cons r _ ih =>
    obtain ⟨t, rfl, ht⟩ := r
    exact .cons ⟨t, rfl, sqT_ins hb ht⟩ ih
section
variable {w : World} {K : PySem.W.Frag} {mg : Str → Option Value} {base : Heap}
def BookAt (K : PySem.W.Frag) (C : Addr) (H : Hp) (b : Addr) (q n : Int) (Rs : List (List Int)) : Prop := ∃ (dx : Addr) (fs : List (Str × V)) (z : V), H b = some (.ins C dx fs) ∧
  fs.lookup ("q" : Str) = some (.int q) ∧ fs.lookup ("n" : Str) = some (.int n) ∧ fs.lookup ("rows" : Str) = some z ∧ fs.lookup ("dimension" : Str) = some (.int (Rs.length : Int)) ∧ TupRows K H z Rs
def spBook (K : PySem.W.Frag) (C : Addr) : Sp := fun vs H Q _ => ∃ (H0 : Hp) (b dx : Addr) (q : Int) (n : Nat) (v : V) (Ls : List (List Int)), vs = [.ref b, .int q, .int (n : Int), v] ∧ Same H0 H ∧ H0 b = none ∧ H b = some (.ins C dx []) ∧
  LetQ q ∧ (1 ≤ n ∧ n ≤ 8) ∧ TupRows K H0 v Ls ∧ AllR q n Ls ∧ Ls.length ≤ 16 ∧ ∀ H', Same H0 H' → BookAt K C H' b q n (gauss q n Ls) → Q .non H'
theorem ok_Book___init__ (T : Txt K mg) : FnOk P w K mg base CX0 6 T.a_Book___init__ T.d_Book___init__ P_Book___init__ (spBook K T.C_Book) := by
  refine T.F_Book___init__.ok sc_Book___init__ (fun vs H Q E h => ?_) (fun cdv A outer s H vs Q E hr h => ?_)
  · obtain ⟨H0, b, dx, q, n, v, Ls, rfl, _⟩ := h
    rfl
  · obtain ⟨H0, b, dx, q, n, _, Ls, rfl, s0, b0, hb, hq, ⟨n1, n8⟩, ⟨a, vs, rfl, ha, hp⟩, hall, hl, k⟩ := h
    refine ⟨_, 
      (pss_cons (ps_expr (pe_call (ok0_check_field T) (hr.mono (by decide)) rfl T.m_check_field T.F_check_field.kp T.b_check_field .nil pass0 (pa_cons (pv 1) pa_nil)))
      (pss_cons (ps_if (pt_not (pt_val (pe_call (ok_is_integer_from T) (hr.mono (by decide)) rfl T.m_is_integer_from T.F_is_integer_from.kp T.b_is_integer_from .nil pass0 (pa_cons (pv 2) (pa_cons pe_int (pa_cons (pe_glob (v := .int 8) rfl T.m_MOST_PLACES ⟨_, rfl⟩) pa_nil)))))) (pss_one ps_never) pss_nil)
      (pss_cons (ps_if (PW.pt (pw_or (pt_not (pt_val (pe_callB (id := "isinstance") (r := rIsi K) call_isi (by rfl) T.m_isinstance (by decide +kernel) (pa_cons (pv 3) (pa_cons (pe_bltn (by rfl) T.m_tuple (v := .ty "tuple") (by decide +kernel) rfl) pa_nil))))) (pw_or1 (pt_cmpR op_gt (pe_callB call_len_seq (by rfl) T.m_len (by decide +kernel) (pa_cons (pv 3) pa_nil)) (pe_glob (v := .int 16) rfl T.m_MOST_ROWS ⟨_, rfl⟩) (nomark _))))) (pss_one ps_never) pss_nil)
      (pss_cons (ps_for PassesOwn.never rfl (pi_enumT (by rfl) T.m_enumerate (pa_cons (pv 3) pa_nil)) (pg_tup rfl (pgs_cons (pg_name (i := 4) sc_Book___init__.nd rfl (Or.inl rfl)) (pgs_cons (pg_name (i := 5) sc_Book___init__.nd rfl (Or.inl rfl)) pgs_nil))) (pss_one (ps_if (pt_not (pt_val (pe_call (ok_is_row T) (hr.mono (by decide)) rfl T.m_is_row T.F_is_row.kp T.b_is_row .nil pass0 (pa_cons (pv 1) (pa_cons (pv 2) (pa_cons (pv 5) pa_nil)))))) (pss_one ps_never) pss_nil)))
      (pss_cons (ps_fld (pv 0) (pv 1) rfl)
      (pss_cons (ps_fld (pv 0) (pv 2) rfl)
      (pss_cons (ps_fld (pv 0) (pe_call (ok_reduced_rows T) (hr.mono (by decide)) rfl T.m_reduced_rows T.F_reduced_rows.kp T.b_reduced_rows .nil pass0 (pa_cons (pv 1) (pa_cons (pv 2) (pa_cons (pv 3) pa_nil)))) rfl)
      (pss_one (ps_fld (pv 0) (pe_callB call_len_seq (by rfl) T.m_len (by decide +kernel) (pa_cons (pe_fld (pv 0) rfl) pa_nil)) rfl))))))))), ?_⟩
    have haH := sqT_same s0 ha
    have hpH := rows_same s0 hp
    have lv : vs.length ≤ 16 := by rw [hp.length]; exact hl
    refine ⟨_, rfl, q, rfl, hq, ?_⟩
    have e1 : inFrom 1 8 (some (n : Int)) = true := by
      show (decide ((1 : Int) ≤ (n : Int)) && decide ((n : Int) ≤ 8)) = true
      rw [decide_eq_true (by omega), decide_eq_true (by omega)]
      rfl
    refine ⟨_, rfl, _, 1, 8, some (n : Int), rfl, rfl, _, rfl, ?_⟩
    rw [e1]
    refine iteF ?_
    refine ⟨_, rfl, _, _, _, _, _, rfl, .ty "tuple", tyx_tup haH, kit_ty (r := true) (by decide +kernel), true, rfl, iteF ?_⟩
    refine ⟨_, rfl, a, _, rfl, .inr haH, _, _, rfl, rfl, _, rfl, ?_⟩
    rw [decide_eq_false (by omega)]
    refine iteF ?_
    refine ⟨_, rfl, a, _, rfl, haH, for_it (walk_enumT (K := K) (a := a) (xs := vs))
      (fun i σ H' => ∃ u4 u5, σ = [some (.ref b), some (.int q), some (.int (n : Int)), some (.ref a), u4, u5] ∧ Same H H') ⟨none, none, rfl, Same.refl _⟩ (fun i σ H' _ ⟨_, _, _, e⟩ => e.tup haH) ?_ ?_⟩
    · rintro i v _ H' H'' hi ⟨u4, u5, rfl, e⟩ ⟨T0, x, y, rfl, hT0, rfl, hx, hy⟩
      obtain rfl : x = V.int (i : Nat) := (Option.some.inj hx).symm
      obtain ⟨r, hr2, ti⟩ := paired_at hpH hy
      obtain ⟨ir, lr⟩ := hall r (List.mem_of_getElem? hr2)
      have e1' : Same H (upd H' T0 (.tup [.int (i : Nat), y])) := e.trans (same_upd hT0)
      refine ⟨T0, _, rfl, SqT.of upd_same, rfl, _, _, rfl, _, _, rfl, rfl, ?_⟩
      refine ⟨_, rfl, _, rfl, _, rfl, q, (n : Int), y, some (r.map some), rfl, ti_lev (TI.same ti e1') (by omega), fun H3 s3 => ⟨rowQ q n (some (r.map some)), rfl, ?_⟩⟩
      rw [rowQ_row ir (by rw [lr])]
      exact iteF ⟨_, _, rfl, e1'.trans s3⟩
    · rintro _ H' ⟨u4, u5, rfl, e⟩
      have bne : ∀ {o : HO} {p : Addr}, H0 p = some o → p ≠ b := fun {o p} z w => by
        rw [w, b0] at z
        cases z
      have put : ∀ {G : Hp} {o : HO}, Same H0 G → Same H0 (upd G b o) := fun {G o} z c u w => by
        rw [upd_ne (bne w)]
        exact z c u w
      have sb := s0.trans e
      refine ⟨_, rfl, _, rfl, b, T.C_Book, dx, _, rfl, e _ _ hb, T.cl_Book, T.no_Book_q, (by decide : 0 < 1000), ?_⟩
      refine ⟨_, rfl, _, rfl, b, T.C_Book, dx, _, rfl, upd_same, T.cl_Book, T.no_Book_n, (by decide : 1 < 1000), ?_⟩
      have s2 := put (o := .ins T.C_Book dx (putF "n" (.int (n : Int)) (putF "q" (.int q) []))) (put (o := .ins T.C_Book dx (putF "q" (.int q) [])) sb)
      refine ⟨_, rfl, _, rfl, _, rfl, q, n, _, Ls, rfl, hq, n8, ⟨a, vs, rfl, sqT_same s2 ha, rows_same s2 hp⟩, hall, by omega, fun z H3 s3 hz => ?_⟩
      refine ⟨_, rfl, b, T.C_Book, dx, _, rfl, s3 _ _ upd_same, T.cl_Book, T.no_Book_rows, (by decide : 2 < 1000), ?_⟩
      obtain ⟨az, vz, rfl, haz, hpz⟩ := hz
      have hb3 := s3 _ _ (upd_same (a := b))
      have haz4 := sqT_ins (o := .ins T.C_Book dx (putF "rows" (.ref az) (putF "n" (.int (n : Int)) (putF "q" (.int q) [])))) hb3 haz
      refine ⟨_, rfl, b, T.C_Book, dx, _, .ref az, rfl, upd_same, T.cl_Book, T.no_Book_rows, rfl, az, vz, rfl, .inr haz4, _, rfl, b, T.C_Book, dx, _, rfl, upd_same, T.cl_Book, T.no_Book_dimension, (by decide : 3 < 1000), ?_⟩
      rw [upd_upd]
      refine k _ (put (s2.trans s3)) ⟨dx, _, .ref az, upd_same, rfl, rfl, rfl, ?_, az, vz, rfl, sqT_ins hb3 haz, rows_ins hb3 hpz⟩
      rw [← hpz.length]
      rfl
end
end K11
end
section
set_option maxRecDepth 100000
namespace LM
open PySem
def lets (q : Int) : List Int := (List.range q.toNat).map fun n : Nat => (n : Int)
theorem mem_lets {q a : Int} (h : IsLet q a) : a ∈ lets q := by
  obtain ⟨h1, h2⟩ := h
  exact List.mem_map.mpr ⟨a.toNat, List.mem_range.mpr (by omega), by omega⟩
theorem mem_q {q : Int} (h : LetQ q) : q ∈ ([2, 3, 4, 5] : List Int) := by
  obtain ⟨h1, h2⟩ := h
  have : q = 2 ∨ q = 3 ∨ q = 4 ∨ q = 5 := by omega
  rcases this with rfl | rfl | rfl | rfl <;> decide
theorem all1 {p : Int → Int → Bool} (h : (([2, 3, 4, 5] : List Int).all fun q => (lets q).all fun a => p q a) = true) {q a : Int} (hq : LetQ q) (ha : IsLet q a) : p q a = true :=
  List.all_eq_true.mp (List.all_eq_true.mp h q (mem_q hq)) a (mem_lets ha)
theorem all2 {p : Int → Int → Int → Bool} (h : (([2, 3, 4, 5] : List Int).all fun q => (lets q).all fun a => (lets q).all fun b => p q a b) = true) {q a b : Int} (hq : LetQ q) (ha : IsLet q a) (hb : IsLet q b) : p q a b = true :=
  List.all_eq_true.mp (List.all_eq_true.mp (List.all_eq_true.mp h q (mem_q hq)) a (mem_lets ha)) b (mem_lets hb)
theorem all3 {p : Int → Int → Int → Int → Bool} (h : (([2, 3, 4, 5] : List Int).all fun q => (lets q).all fun a => (lets q).all fun b => (lets q).all fun c => p q a b c) = true) {q a b c : Int} (hq : LetQ q) (ha : IsLet q a) (hb : IsLet q b) (hc : IsLet q c) : p q a b c = true :=
  List.all_eq_true.mp (List.all_eq_true.mp (List.all_eq_true.mp (List.all_eq_true.mp h q (mem_q hq)) a (mem_lets ha)) b (mem_lets hb)) c (mem_lets hc)
section
variable {q a b c : Int}
theorem let_zero (hq : LetQ q) : IsLet q 0 := ⟨Int.le_refl _, by have := hq.lo; omega⟩
theorem let_one (hq : LetQ q) : IsLet q 1 := ⟨by decide, by have := hq.lo; omega⟩
theorem sum_comm (hq : LetQ q) (ha : IsLet q a) (hb : IsLet q b) : lsum q a b = lsum q b a := of_decide_eq_true (all2 (p := fun q a b => decide (lsum q a b = lsum q b a)) (by decide +kernel) hq ha hb)
theorem sum_assoc (hq : LetQ q) (ha : IsLet q a) (hb : IsLet q b) (hc : IsLet q c) : lsum q (lsum q a b) c = lsum q a (lsum q b c) := of_decide_eq_true (all3 (p := fun q a b c => decide (lsum q (lsum q a b) c = lsum q a (lsum q b c))) (by decide +kernel) hq ha hb hc)
theorem sum_zero (hq : LetQ q) (ha : IsLet q a) : lsum q a 0 = a := of_decide_eq_true (all1 (p := fun q a => decide (lsum q a 0 = a)) (by decide +kernel) hq ha)
theorem zero_sum (hq : LetQ q) (ha : IsLet q a) : lsum q 0 a = a := of_decide_eq_true (all1 (p := fun q a => decide (lsum q 0 a = a)) (by decide +kernel) hq ha)
theorem sum_neg (hq : LetQ q) (ha : IsLet q a) : lsum q a (lneg q a) = 0 := of_decide_eq_true (all1 (p := fun q a => decide (lsum q a (lneg q a) = 0)) (by decide +kernel) hq ha)
theorem neg_zero (hq : LetQ q) : lneg q 0 = 0 := of_decide_eq_true (all1 (p := fun q _ => decide (lneg q 0 = 0)) (by decide +kernel) hq (let_zero hq))
theorem tim_comm (hq : LetQ q) (ha : IsLet q a) (hb : IsLet q b) : ltim q a b = ltim q b a := of_decide_eq_true (all2 (p := fun q a b => decide (ltim q a b = ltim q b a)) (by decide +kernel) hq ha hb)
theorem tim_assoc (hq : LetQ q) (ha : IsLet q a) (hb : IsLet q b) (hc : IsLet q c) : ltim q (ltim q a b) c = ltim q a (ltim q b c) := of_decide_eq_true (all3 (p := fun q a b c => decide (ltim q (ltim q a b) c = ltim q a (ltim q b c))) (by decide +kernel) hq ha hb hc)
theorem one_tim (hq : LetQ q) (ha : IsLet q a) : ltim q 1 a = a := of_decide_eq_true (all1 (p := fun q a => decide (ltim q 1 a = a)) (by decide +kernel) hq ha)
theorem tim_one (hq : LetQ q) (ha : IsLet q a) : ltim q a 1 = a := of_decide_eq_true (all1 (p := fun q a => decide (ltim q a 1 = a)) (by decide +kernel) hq ha)
theorem zero_tim (hq : LetQ q) (ha : IsLet q a) : ltim q 0 a = 0 := of_decide_eq_true (all1 (p := fun q a => decide (ltim q 0 a = 0)) (by decide +kernel) hq ha)
theorem tim_zero (hq : LetQ q) (ha : IsLet q a) : ltim q a 0 = 0 := of_decide_eq_true (all1 (p := fun q a => decide (ltim q a 0 = 0)) (by decide +kernel) hq ha)
theorem tim_sum (hq : LetQ q) (ha : IsLet q a) (hb : IsLet q b) (hc : IsLet q c) : ltim q a (lsum q b c) = lsum q (ltim q a b) (ltim q a c) := of_decide_eq_true (all3 (p := fun q a b c => decide (ltim q a (lsum q b c) = lsum q (ltim q a b) (ltim q a c))) (by decide +kernel) hq ha hb hc)
theorem neg_tim (hq : LetQ q) (ha : IsLet q a) (hb : IsLet q b) : ltim q (lneg q a) b = lneg q (ltim q a b) := of_decide_eq_true (all2 (p := fun q a b => decide (ltim q (lneg q a) b = lneg q (ltim q a b))) (by decide +kernel) hq ha hb)
theorem neg_sum (hq : LetQ q) (ha : IsLet q a) (hb : IsLet q b) : lneg q (lsum q a b) = lsum q (lneg q a) (lneg q b) := of_decide_eq_true (all2 (p := fun q a b => decide (lneg q (lsum q a b) = lsum q (lneg q a) (lneg q b))) (by decide +kernel) hq ha hb)
theorem neg_neg (hq : LetQ q) (ha : IsLet q a) : lneg q (lneg q a) = a := of_decide_eq_true (all1 (p := fun q a => decide (lneg q (lneg q a) = a)) (by decide +kernel) hq ha)
theorem diff_zero (hq : LetQ q) (ha : IsLet q a) (hb : IsLet q b) : lsum q a (lneg q b) = 0 ↔ a = b := of_decide_eq_true (all2 (p := fun q a b => decide (lsum q a (lneg q b) = 0 ↔ a = b)) (by decide +kernel) hq ha hb)
theorem inv_one (hq : LetQ q) : linv q 1 = 1 := of_decide_eq_true (all1 (p := fun q _ => decide (linv q 1 = 1)) (by decide +kernel) hq (let_zero hq))
theorem inv_tim (hq : LetQ q) (ha : IsLet q a) (a0 : a ≠ 0) : ltim q (linv q a) a = 1 := (of_decide_eq_true (all1 (p := fun q a => decide (a ≠ 0 → ltim q (linv q a) a = 1)) (by decide +kernel) hq ha)) a0
theorem tim_powers (hq : LetQ q) (ha : IsLet q a) (hb : IsLet q b) (e : q = 4) : ltim q a b = if a = 0 ∨ b = 0 then 0 else 1 + (a + b - 2).fmod 3 :=
  (of_decide_eq_true (all2 (p := fun q a b => decide (q = 4 → ltim q a b = if a = 0 ∨ b = 0 then 0 else 1 + (a + b - 2).fmod 3)) (by decide +kernel) hq ha hb)) e
end
section
variable {q : Int} {n : Nat}
theorem row_getD {ns : List Int} (hq : LetQ q) (h : IsRow q ns) (p : Nat) : IsLet q (ns.getD p 0) := by
  by_cases hp : p < ns.length
  · exact row_at h hp
  · rw [List.getD_eq_getElem?_getD, List.getElem?_eq_none (by omega)]
    exact let_zero hq
def zrow (n : Nat) : List Int := List.replicate n 0
theorem zrow_row (hq : LetQ q) : IsRow q (zrow n) := fun c hc => by
  rw [List.eq_of_mem_replicate hc]
  exact let_zero hq
theorem zrow_at (p : Nat) : (zrow n).getD p 0 = 0 := by
  unfold zrow
  rw [List.getD_eq_getElem?_getD, List.getElem?_replicate]
  split <;> rfl
theorem row_ext {as bs : List Int} (l : as.length = bs.length) (h : ∀ p, p < as.length → as.getD p 0 = bs.getD p 0) : as = bs := by
  apply List.ext_getElem l
  intro p h1 h2
  have := h p h1
  rw [List.getD_eq_getElem?_getD, List.getD_eq_getElem?_getD, List.getElem?_eq_getElem h1, List.getElem?_eq_getElem h2] at this
  exact this
def vsum (q : Int) (u v : List Int) : List Int := List.zipWith (lsum q) u v
def vtim (q a : Int) (u : List Int) : List Int := u.map (ltim q a)
theorem vsum_len {u v : List Int} (hu : u.length = n) (hv : v.length = n) : (vsum q u v).length = n := by
  unfold vsum
  rw [List.length_zipWith, hu, hv, Nat.min_self]
theorem vtim_len {a : Int} {u : List Int} : (vtim q a u).length = u.length := List.length_map _
theorem vsum_at (hq : LetQ q) {u v : List Int} (h : u.length = v.length) (p : Nat) : (vsum q u v).getD p 0 = lsum q (u.getD p 0) (v.getD p 0) := by
  unfold vsum
  simp only [List.getD_eq_getElem?_getD, List.getElem?_zipWith]
  by_cases hp : p < u.length
  · rw [List.getElem?_eq_getElem hp, List.getElem?_eq_getElem (h ▸ hp)]
    rfl
  · rw [List.getElem?_eq_none (by omega), List.getElem?_eq_none (by omega)]
    exact (sum_zero hq (let_zero hq)).symm
theorem vtim_at (hq : LetQ q) {a : Int} (ha : IsLet q a) {u : List Int} (p : Nat) : (vtim q a u).getD p 0 = ltim q a (u.getD p 0) := by
  unfold vtim
  simp only [List.getD_eq_getElem?_getD, List.getElem?_map]
  by_cases hp : p < u.length
  · rw [List.getElem?_eq_getElem hp]
    rfl
  · rw [List.getElem?_eq_none (by omega)]
    exact (tim_zero hq ha).symm
theorem vsum_row (hq : LetQ q) {u v : List Int} (hu : IsRow q u) (hv : IsRow q v) : IsRow q (vsum q u v) := by
  intro c hc
  unfold vsum at hc
  obtain ⟨i, hi, rfl⟩ := List.mem_iff_getElem.mp hc
  rw [List.getElem_zipWith]
  exact let_sum hq (hu _ (List.getElem_mem _)) (hv _ (List.getElem_mem _))
theorem vtim_row (hq : LetQ q) {a : Int} (ha : IsLet q a) {u : List Int} (hu : IsRow q u) : IsRow q (vtim q a u) := by
  intro c hc
  obtain ⟨x, hx, rfl⟩ := List.mem_map.mp hc
  exact let_tim hq ha (hu x hx)
def rowP (q : Int) (us vs : List Int) : Int := (us.zip vs).foldl (fun t p => lsum q t (ltim q p.1 p.2)) 0
def dot (q : Int) : List Int → List Int → Int
  | a :: u, b :: v => lsum q (ltim q a b) (dot q u v)
  | _, _ => 0
theorem dot_let (hq : LetQ q) : ∀ {u v : List Int}, IsRow q u → IsRow q v → IsLet q (dot q u v)
  | [], _, _, _ => let_zero hq
  | _ :: _, [], _, _ => let_zero hq
  | a :: u, b :: v, hu, hv => let_sum hq (let_tim hq (hu a List.mem_cons_self) (hv b List.mem_cons_self)) (dot_let hq (fun c hc => hu c (List.mem_cons_of_mem _ hc)) (fun c hc => hv c (List.mem_cons_of_mem _ hc)))
theorem fold_dot (hq : LetQ q) : ∀ {u v : List Int} {t : Int}, IsLet q t → IsRow q u → IsRow q v → (u.zip v).foldl (fun t p => lsum q t (ltim q p.1 p.2)) t = lsum q t (dot q u v)
  | [], _, t, ht, _, _ => (sum_zero hq ht).symm
  | _ :: _, [], t, ht, _, _ => (sum_zero hq ht).symm
  | a :: u, b :: v, t, ht, hu, hv => by
    have la := hu a List.mem_cons_self
    have lb := hv b List.mem_cons_self
    have hu' : IsRow q u := fun c hc => hu c (List.mem_cons_of_mem _ hc)
    have hv' : IsRow q v := fun c hc => hv c (List.mem_cons_of_mem _ hc)
    have lab := let_tim hq la lb
    show (u.zip v).foldl _ (lsum q t (ltim q a b)) = _
    rw [fold_dot hq (let_sum hq ht lab) hu' hv', sum_assoc hq ht lab (dot_let hq hu' hv')]
    rfl
theorem rowP_dot (hq : LetQ q) {u v : List Int} (hu : IsRow q u) (hv : IsRow q v) : rowP q u v = dot q u v := by
  unfold rowP
  rw [fold_dot hq (let_zero hq) hu hv, zero_sum hq (dot_let hq hu hv)]
theorem dot_comm (hq : LetQ q) : ∀ {u v : List Int}, IsRow q u → IsRow q v → dot q u v = dot q v u
  | [], [], _, _ => rfl
  | [], _ :: _, _, _ => rfl
  | _ :: _, [], _, _ => rfl
  | a :: u, b :: v, hu, hv => by
    show lsum q (ltim q a b) (dot q u v) = lsum q (ltim q b a) (dot q v u)
    rw [tim_comm hq (hu a List.mem_cons_self) (hv b List.mem_cons_self), dot_comm hq (fun c hc => hu c (List.mem_cons_of_mem _ hc)) (fun c hc => hv c (List.mem_cons_of_mem _ hc))]
theorem dot_zero (hq : LetQ q) : ∀ {v : List Int} (m : Nat), IsRow q v → dot q (zrow m) v = 0
  | _, 0, _ => by unfold zrow; rw [List.replicate_zero]; rfl
  | [], m + 1, _ => by unfold zrow; rw [List.replicate_succ]; rfl
  | b :: v, m + 1, hv => by
    have ih := dot_zero hq m (v := v) fun c hc => hv c (List.mem_cons_of_mem _ hc)
    unfold zrow at ih ⊢
    rw [List.replicate_succ]
    show lsum q (ltim q 0 b) (dot q (List.replicate m 0) v) = 0
    rw [ih, zero_tim hq (hv b List.mem_cons_self), sum_zero hq (let_zero hq)]
theorem set_row {u : List Int} {a : Int} (hu : IsRow q u) (ha : IsLet q a) (k : Nat) : IsRow q (u.set k a) := fun c hc => by
  rcases List.mem_or_eq_of_mem_set hc with h | h
  · exact hu c h
  · rw [h]
    exact ha
theorem dot_set (hq : LetQ q) {a : Int} (ha : IsLet q a) : ∀ {u v : List Int} (k : Nat), k < u.length → u.length = v.length → u.getD k 0 = 0 → IsRow q u → IsRow q v → dot q (u.set k a) v = lsum q (dot q u v) (ltim q a (v.getD k 0))
  | [], _, k, hk, _, _, _, _ => absurd hk (Nat.not_lt_zero _)
  | c :: u, [], k, _, hl, _, _, _ => by cases hl
  | c :: u, b :: v, 0, _, _, h0, hu, hv => by
    obtain rfl : c = 0 := h0
    have hu' : IsRow q u := fun c hc => hu c (List.mem_cons_of_mem _ hc)
    have hv' : IsRow q v := fun c hc => hv c (List.mem_cons_of_mem _ hc)
    have lb := hv b List.mem_cons_self
    show lsum q (ltim q a b) (dot q u v) = lsum q (lsum q (ltim q 0 b) (dot q u v)) (ltim q a b)
    rw [zero_tim hq lb, zero_sum hq (dot_let hq hu' hv'), sum_comm hq (let_tim hq ha lb) (dot_let hq hu' hv')]
  | c :: u, b :: v, k + 1, hk, hl, h0, hu, hv => by
    have hu' : IsRow q u := fun c hc => hu c (List.mem_cons_of_mem _ hc)
    have hv' : IsRow q v := fun c hc => hv c (List.mem_cons_of_mem _ hc)
    have lb := hv b List.mem_cons_self
    have lc := hu c List.mem_cons_self
    have ih := dot_set hq ha k (u := u) (v := v) (by simpa using hk) (by simpa using hl) (by simpa using h0) hu' hv'
    show lsum q (ltim q c b) (dot q (u.set k a) v) = lsum q (lsum q (ltim q c b) (dot q u v)) (ltim q a (v.getD k 0))
    rw [ih, ← sum_assoc hq (let_tim hq lc lb) (dot_let hq hu' hv') (let_tim hq ha (row_getD hq hv' k))]
end
end LM
end
section
set_option maxRecDepth 100000
namespace LM
structure RR (q : Int) (n : Nat) (Ps : List (Nat × List Int)) : Prop where
  one : ∀ x ∈ Ps, IsRow q x.2 ∧ x.2.length = n ∧ x.1 < n ∧ (∀ p, p < x.1 → x.2.getD p 0 = 0) ∧ x.2.getD x.1 0 = 1
  two : Ps.Pairwise fun a b => a.1 < b.1 ∧ a.2.getD b.1 0 = 0
theorem zrow_len {n : Nat} : (zrow n).length = n := List.length_replicate
section
variable {q : Int} {n : Nat} {Ps : List (Nat × List Int)}
theorem RR.nil : RR q n [] := ⟨(fun x hx => by cases hx), List.Pairwise.nil⟩
theorem RR.tail {x : Nat × List Int} (h : RR q n (x :: Ps)) : RR q n Ps := ⟨fun y hy => h.one y (List.mem_cons_of_mem _ hy), (List.pairwise_cons.mp h.two).2⟩
theorem RR.same (h : RR q n Ps) {x y : Nat × List Int} (hx : x ∈ Ps) (hy : y ∈ Ps) (e : x.1 = y.1) : x = y := by
  induction Ps with
  | nil => cases hx
  | cons z r ih =>
    have hp := (List.pairwise_cons.mp h.two).1
    rcases List.mem_cons.mp hx with rfl | hx
    · rcases List.mem_cons.mp hy with rfl | hy
      · rfl
      · have := (hp y hy).1
        omega
    · rcases List.mem_cons.mp hy with e' | hy
      · have := (hp x hx).1
        rw [e'] at e
        omega
      · exact ih h.tail hx hy
theorem RR.other (h : RR q n Ps) {x y : Nat × List Int} (hx : x ∈ Ps) (hy : y ∈ Ps) (e : x.1 ≠ y.1) : x.2.getD y.1 0 = 0 := by
  rcases Nat.lt_or_ge y.1 x.1 with hlt | hge
  · exact (h.one x hx).2.2.2.1 _ hlt
  · have hlt : x.1 < y.1 := by omega
    induction Ps with
    | nil => cases hx
    | cons z r ih =>
      have hp := (List.pairwise_cons.mp h.two).1
      rcases List.mem_cons.mp hx with rfl | hx'
      · rcases List.mem_cons.mp hy with rfl | hy'
        · omega
        · exact (hp y hy').2
      · rcases List.mem_cons.mp hy with rfl | hy'
        · have := (hp x hx').1
          omega
        · exact ih h.tail hx' hy'
theorem wza_eq {p : Nat} {row head : List Int} : wza q p row head = vsum q row (vtim q (lneg q (row.getD p 0)) head) := rfl
theorem wza_keep (hq : LetQ q) {p : Nat} {row head : List Int} (hr : IsRow q row) (hh : IsRow q head) (l : row.length = n) (lh : head.length = n) (e : row.getD p 0 = 0) : wza q p row head = row := by
  rw [wza_eq, e, neg_zero hq]
  have l2 : (vtim q 0 head).length = n := by rw [vtim_len, lh]
  refine row_ext (by rw [vsum_len l l2, l]) fun i _ => ?_
  rw [vsum_at hq (by rw [l, l2]), vtim_at hq (let_zero hq), zero_tim hq (row_getD hq hh i), sum_zero hq (row_getD hq hr i)]
theorem wza_self (hq : LetQ q) {p : Nat} {row : List Int} (hr : IsRow q row) (l : row.length = n) (e : row.getD p 0 = 1) : wza q p row row = zrow n := by
  rw [wza_eq, e]
  have l1 := let_neg hq (let_one hq)
  have l2 : (vtim q (lneg q 1) row).length = n := by rw [vtim_len, l]
  refine row_ext (by rw [vsum_len l l2]; unfold zrow; rw [List.length_replicate]) fun i _ => ?_
  rw [vsum_at hq (by rw [l, l2]), vtim_at hq l1, neg_tim hq (let_one hq) (row_getD hq hr i), one_tim hq (row_getD hq hr i), sum_neg hq (row_getD hq hr i), zrow_at]
theorem wza_zero (hq : LetQ q) {p : Nat} {head : List Int} (hh : IsRow q head) (lh : head.length = n) : wza q p (zrow n) head = zrow n :=
  wza_keep hq (zrow_row hq) hh (by unfold zrow; rw [List.length_replicate]) lh (zrow_at p)
theorem vtim_one (hq : LetQ q) {u : List Int} (hu : IsRow q u) : vtim q 1 u = u := by
  unfold vtim
  conv => rhs; rw [← List.map_id u]
  exact List.map_congr_left fun c hc => one_tim hq (hu c hc)
def leftAt (n p : Nat) (Qs : List (Nat × List Int)) : List (List Int) := Qs.map fun x => if x.1 < p then zrow n else x.2
def doneAt (p : Nat) (Ps : List (Nat × List Int)) : List (List Int) := (Ps.filter fun x => decide (x.1 < p)).map (·.2)
theorem filter_next (h : RR q n Ps) (p : Nat) : (Ps.filter fun x => decide (x.1 < p + 1)) = (Ps.filter fun x => decide (x.1 < p)) ++ Ps.filter fun x => decide (x.1 = p) := by
  induction Ps with
  | nil => rfl
  | cons x r ih =>
    have hp := (List.pairwise_cons.mp h.two).1
    have ih := ih h.tail
    by_cases c1 : x.1 < p
    · rw [List.filter_cons_of_pos (by simp; omega), List.filter_cons_of_pos (by simp; omega), List.filter_cons_of_neg (by simp; omega), ih]
      rfl
    · have e0 : (r.filter fun y => decide (y.1 < p)) = [] := List.filter_eq_nil_iff.mpr fun y hy => by
        have := (hp y hy).1
        simp
        omega
      rw [e0, List.nil_append] at ih
      by_cases c2 : x.1 = p
      · rw [List.filter_cons_of_pos (by simp; omega), List.filter_cons_of_neg (by simp; omega), List.filter_cons_of_pos (by simp; omega), e0, ih]
        rfl
      · rw [List.filter_cons_of_neg (by simp; omega), List.filter_cons_of_neg (by simp; omega), List.filter_cons_of_neg (by simp; omega), e0, ih]
        rfl
theorem filter_one (h : RR q n Ps) {x : Nat × List Int} (hx : x ∈ Ps) : (Ps.filter fun y => decide (y.1 = x.1)) = [x] := by
  induction Ps with
  | nil => cases hx
  | cons z r ih =>
    have hp := (List.pairwise_cons.mp h.two).1
    rcases List.mem_cons.mp hx with rfl | hx'
    · rw [List.filter_cons_of_pos (by simp)]
      have e0 : (r.filter fun y => decide (y.1 = x.1)) = [] := List.filter_eq_nil_iff.mpr fun y hy => by
        have := (hp y hy).1
        simp
        omega
      rw [e0]
    · have := (hp x hx').1
      rw [List.filter_cons_of_neg (by simp; omega)]
      exact ih h.tail hx'
theorem gstep_red (hq : LetQ q) (h : RR q n Ps) {Qs : List (Nat × List Int)} (hm : ∀ x, x ∈ Qs ↔ x ∈ Ps) (p : Nat) : gstep q (leftAt n p Qs, doneAt p Ps) p = (leftAt n (p + 1) Qs, doneAt (p + 1) Ps) := by
  have tail : ∀ y ∈ Ps, y.1 > p → y.2.getD p 0 = 0 := fun y hy hlt => (h.one y hy).2.2.2.1 _ hlt
  have member : ∀ r ∈ leftAt n p Qs, r.getD p 0 ≠ 0 → ∃ y ∈ Ps, y.1 = p ∧ r = y.2 := fun r hr r0 => by
    obtain ⟨y, hy, rfl⟩ := List.mem_map.mp hr
    have hy' := (hm y).mp hy
    split at r0
    · exact absurd (zrow_at p) r0
    · rename_i c
      by_cases e : y.1 = p
      · exact ⟨y, hy', e, by rw [if_neg c]⟩
      · exact absurd (tail y hy' (by omega)) r0
  unfold gstep
  cases hf : (leftAt n p Qs).filter (fun r => r.getD p 0 != 0) with
  | nil =>
    have none : ∀ y ∈ Ps, y.1 ≠ p := fun y hy e => by
      have hin : y.2 ∈ leftAt n p Qs := List.mem_map.mpr ⟨y, (hm y).mpr hy, by rw [if_neg (by omega)]⟩
      have h1 := (h.one y hy).2.2.2.2
      rw [e] at h1
      exact absurd h1 (by
        have := List.filter_eq_nil_iff.mp hf y.2 hin
        simp at this
        simp [this])
    have e1 : leftAt n (p + 1) Qs = leftAt n p Qs := List.map_congr_left fun y hy => by
      have := none y ((hm y).mp hy)
      by_cases c : y.1 < p
      · rw [if_pos c, if_pos (by omega)]
      · rw [if_neg c, if_neg (by omega)]
    have e2 : doneAt (p + 1) Ps = doneAt p Ps := by
      unfold doneAt
      rw [filter_next h, (List.filter_eq_nil_iff.mpr (fun y hy => by simpa using none y hy) : (Ps.filter fun y => decide (y.1 = p)) = []), List.append_nil]
    rw [e1, e2]
  | cons r0 rs =>
    have hr0 : r0 ∈ (leftAt n p Qs).filter (fun r => r.getD p 0 != 0) := by rw [hf]; exact List.mem_cons_self
    obtain ⟨m1, m2⟩ := List.mem_filter.mp hr0
    obtain ⟨x, hx, ex, rfl⟩ := member r0 m1 (by simpa using m2)
    obtain ⟨xr, xl, xn, x0, x1⟩ := h.one x hx
    rw [ex] at x1
    have eh : x.2.map (ltim q (linv q (x.2.getD p 0))) = x.2 := by
      rw [x1, inv_one hq]
      exact vtim_one hq xr
    show ((leftAt n p Qs).map (fun r => wza q p r (x.2.map (ltim q (linv q (x.2.getD p 0))))), (doneAt p Ps).map (fun r => wza q p r (x.2.map (ltim q (linv q (x.2.getD p 0))))) ++ [x.2.map (ltim q (linv q (x.2.getD p 0)))]) = _
    rw [eh]
    have e1 : (leftAt n p Qs).map (fun r => wza q p r x.2) = leftAt n (p + 1) Qs := by
      unfold leftAt
      rw [List.map_map]
      refine List.map_congr_left fun y hy => ?_
      have hy' := (hm y).mp hy
      obtain ⟨yr, yl, yn, y0, y1⟩ := h.one y hy'
      show wza q p (if y.1 < p then zrow n else y.2) x.2 = _
      by_cases c : y.1 < p
      · rw [if_pos c, if_pos (by omega)]
        exact wza_zero hq xr xl
      · rw [if_neg c]
        by_cases c2 : y.1 = p
        · rw [if_pos (by omega)]
          obtain rfl : y = x := h.same hy' hx (by omega)
          exact wza_self hq xr xl x1
        · rw [if_neg (by omega)]
          exact wza_keep hq yr xr yl xl (y0 p (by omega))
    have e2 : (doneAt p Ps).map (fun r => wza q p r x.2) ++ [x.2] = doneAt (p + 1) Ps := by
      unfold doneAt
      rw [filter_next h, ← ex, filter_one h hx, List.map_append]
      congr 1
      rw [List.map_map]
      refine List.map_congr_left fun y hy => ?_
      obtain ⟨hy1, hy2⟩ := List.mem_filter.mp hy
      have hlt : y.1 < x.1 := by simpa using hy2
      obtain ⟨yr, yl, _⟩ := h.one y hy1
      exact wza_keep hq yr xr yl xl (h.other hy1 hx (by omega))
    rw [e1, e2]
theorem gauss_red (hq : LetQ q) (h : RR q n Ps) {Qs : List (Nat × List Int)} (hm : ∀ x, x ∈ Qs ↔ x ∈ Ps) : gauss q n (Qs.map (·.2)) = Ps.map (·.2) := by
  have st : ∀ p, (List.range p).foldl (gstep q) (Qs.map (·.2), []) = (leftAt n p Qs, doneAt p Ps) := fun p => by
    induction p with
    | zero =>
      show (Qs.map (·.2), []) = _
      have e1 : leftAt n 0 Qs = Qs.map (·.2) := List.map_congr_left fun y _ => by rw [if_neg (Nat.not_lt_zero _)]
      have e2 : doneAt 0 Ps = [] := by
        unfold doneAt
        rw [List.filter_eq_nil_iff.mpr (fun y _ => by simp)]
        rfl
      rw [e1, e2]
    | succ p ih => rw [List.range_succ, List.foldl_append, ih, List.foldl_cons, List.foldl_nil, gstep_red hq h hm]
  unfold gauss
  rw [st n]
  unfold doneAt
  rw [List.filter_eq_self.mpr fun y hy => by simpa using (h.one y hy).2.2.1]
def comb (q : Int) (n : Nat) : List Int → List (List Int) → List Int
  | a :: as, r :: Rs => vsum q (vtim q a r) (comb q n as Rs)
  | _, _ => zrow n
theorem comb_len : ∀ {as : List Int} {Rs : List (List Int)}, (∀ r ∈ Rs, r.length = n) → (comb q n as Rs).length = n
  | [], _, _ => List.length_replicate
  | _ :: _, [], _ => List.length_replicate
  | a :: as, r :: Rs, h => vsum_len (by rw [vtim_len]; exact h r List.mem_cons_self) (comb_len fun r hr => h r (List.mem_cons_of_mem _ hr))
theorem comb_row (hq : LetQ q) : ∀ {as : List Int} {Rs : List (List Int)}, IsRow q as → (∀ r ∈ Rs, IsRow q r) → IsRow q (comb q n as Rs)
  | [], _, _, _ => zrow_row hq
  | _ :: _, [], _, _ => zrow_row hq
  | a :: as, r :: Rs, ha, h => vsum_row hq (vtim_row hq (ha a List.mem_cons_self) (h r List.mem_cons_self)) (comb_row hq (fun c hc => ha c (List.mem_cons_of_mem _ hc)) fun r hr => h r (List.mem_cons_of_mem _ hr))
theorem fold_comb (hq : LetQ q) : ∀ {as : List Int} {Rs : List (List Int)} {t : List Int}, IsRow q t → t.length = n → IsRow q as → (∀ r ∈ Rs, IsRow q r ∧ r.length = n) →
    (as.zip Rs).foldl (fun t p => vsum q t (vtim q p.1 p.2)) t = vsum q t (comb q n as Rs)
  | [], _, t, ht, lt, _, _ => by
    show t = vsum q t (zrow n)
    refine row_ext (by rw [vsum_len lt zrow_len, lt]) fun i _ => ?_
    rw [vsum_at hq (by rw [lt]; exact List.length_replicate.symm), zrow_at, sum_zero hq (row_getD hq ht i)]
  | _ :: _, [], t, ht, lt, _, _ => by
    show t = vsum q t (zrow n)
    refine row_ext (by rw [vsum_len lt zrow_len, lt]) fun i _ => ?_
    rw [vsum_at hq (by rw [lt]; exact List.length_replicate.symm), zrow_at, sum_zero hq (row_getD hq ht i)]
  | a :: as, r :: Rs, t, ht, lt, ha, h => by
    obtain ⟨hr, lr⟩ := h r List.mem_cons_self
    have la := ha a List.mem_cons_self
    have ha' : IsRow q as := fun c hc => ha c (List.mem_cons_of_mem _ hc)
    have h' : ∀ r ∈ Rs, IsRow q r ∧ r.length = n := fun r hr => h r (List.mem_cons_of_mem _ hr)
    have l1 : (vtim q a r).length = n := by rw [vtim_len, lr]
    have lc := comb_len (q := q) (n := n) (as := as) (Rs := Rs) fun r hr => (h' r hr).2
    have hc := comb_row (n := n) hq ha' fun r hr => (h' r hr).1
    have h1 := vtim_row hq la hr
    show (as.zip Rs).foldl _ (vsum q t (vtim q a r)) = vsum q t (vsum q (vtim q a r) (comb q n as Rs))
    rw [fold_comb hq (vsum_row hq ht h1) (vsum_len lt l1) ha' h']
    refine row_ext (by rw [vsum_len (vsum_len lt l1) lc, vsum_len lt (vsum_len l1 lc)]) fun i _ => ?_
    rw [vsum_at hq (by rw [vsum_len lt l1, lc]), vsum_at hq (by rw [lt, l1]), vsum_at hq (by rw [lt, vsum_len l1 lc]), vsum_at hq (by rw [l1, lc]), sum_assoc hq (row_getD hq ht i) (row_getD hq h1 i) (row_getD hq hc i)]
theorem fold_comb0 (hq : LetQ q) {as : List Int} {Rs : List (List Int)} (ha : IsRow q as) (h : ∀ r ∈ Rs, IsRow q r ∧ r.length = n) :
    (as.zip Rs).foldl (fun t p => vsum q t (vtim q p.1 p.2)) (zrow n) = comb q n as Rs := by
  rw [fold_comb hq (zrow_row hq) List.length_replicate ha h]
  have lc := comb_len (q := q) (n := n) (as := as) (Rs := Rs) fun r hr => (h r hr).2
  have hc := comb_row (n := n) hq ha fun r hr => (h r hr).1
  refine row_ext (by rw [vsum_len zrow_len lc, lc]) fun i _ => ?_
  rw [vsum_at hq (by rw [lc]; exact List.length_replicate), zrow_at, zero_sum hq (row_getD hq hc i)]
def csum (q : Int) (p : Nat) : List Int → List (List Int) → Int
  | a :: as, r :: Rs => lsum q (ltim q a (r.getD p 0)) (csum q p as Rs)
  | _, _ => 0
theorem comb_at (hq : LetQ q) (p : Nat) : ∀ {as : List Int} {Rs : List (List Int)}, IsRow q as → (∀ r ∈ Rs, IsRow q r ∧ r.length = n) → (comb q n as Rs).getD p 0 = csum q p as Rs
  | [], _, _, _ => zrow_at p
  | _ :: _, [], _, _ => zrow_at p
  | a :: as, r :: Rs, ha, h => by
    obtain ⟨hr, lr⟩ := h r List.mem_cons_self
    have h' : ∀ r ∈ Rs, IsRow q r ∧ r.length = n := fun r hr => h r (List.mem_cons_of_mem _ hr)
    have lc := comb_len (q := q) (n := n) (as := as) (Rs := Rs) fun r hr => (h' r hr).2
    show (vsum q (vtim q a r) (comb q n as Rs)).getD p 0 = lsum q (ltim q a (r.getD p 0)) (csum q p as Rs)
    rw [vsum_at hq (by rw [vtim_len, lr, lc]), vtim_at hq (ha a List.mem_cons_self), comb_at hq p (fun c hc => ha c (List.mem_cons_of_mem _ hc)) h']
theorem csum_let (hq : LetQ q) (p : Nat) : ∀ {as : List Int} {Rs : List (List Int)}, IsRow q as → (∀ r ∈ Rs, IsRow q r) → IsLet q (csum q p as Rs)
  | [], _, _, _ => let_zero hq
  | _ :: _, [], _, _ => let_zero hq
  | a :: as, r :: Rs, ha, h => let_sum hq (let_tim hq (ha a List.mem_cons_self) (row_getD hq (h r List.mem_cons_self) p)) (csum_let hq p (fun c hc => ha c (List.mem_cons_of_mem _ hc)) fun r hr => h r (List.mem_cons_of_mem _ hr))
theorem csum_zero (hq : LetQ q) (p : Nat) : ∀ {as : List Int} {Rs : List (List Int)}, IsRow q as → (∀ r ∈ Rs, r.getD p 0 = 0) → csum q p as Rs = 0
  | [], _, _, _ => rfl
  | _ :: _, [], _, _ => rfl
  | a :: as, r :: Rs, ha, h => by
    show lsum q (ltim q a (r.getD p 0)) (csum q p as Rs) = 0
    rw [h r List.mem_cons_self, tim_zero hq (ha a List.mem_cons_self), csum_zero hq p (fun c hc => ha c (List.mem_cons_of_mem _ hc)) fun r hr => h r (List.mem_cons_of_mem _ hr), sum_zero hq (let_zero hq)]
theorem csum_lead (hq : LetQ q) : ∀ {Ps : List (Nat × List Int)} {as : List Int} (i : Nat) {x : Nat × List Int}, RR q n Ps → IsRow q as → as.length = Ps.length → Ps[i]? = some x → csum q x.1 as (Ps.map (·.2)) = as.getD i 0
  | [], _, i, x, _, _, _, e => by cases e
  | y :: Ps, [], i, x, _, _, l, _ => by cases l
  | y :: Ps, a :: as, 0, x, h, ha, l, e => by
    obtain rfl : y = x := Option.some.inj e
    have la := ha a List.mem_cons_self
    show lsum q (ltim q a (y.2.getD y.1 0)) (csum q y.1 as (Ps.map (·.2))) = a
    rw [(h.one y List.mem_cons_self).2.2.2.2, tim_one hq la, csum_zero hq y.1 (fun c hc => ha c (List.mem_cons_of_mem _ hc)), sum_zero hq la]
    intro r hr
    obtain ⟨z, hz, rfl⟩ := List.mem_map.mp hr
    have hp := (List.pairwise_cons.mp h.two).1 z hz
    exact h.other (List.mem_cons_of_mem _ hz) List.mem_cons_self (by omega)
  | y :: Ps, a :: as, i + 1, x, h, ha, l, e => by
    have ha' : IsRow q as := fun c hc => ha c (List.mem_cons_of_mem _ hc)
    have e' : Ps[i]? = some x := by simpa using e
    have hx := List.mem_of_getElem? e'
    have hp := (List.pairwise_cons.mp h.two).1 x hx
    have ih := csum_lead hq i h.tail ha' (by simpa using l) e'
    show lsum q (ltim q a (y.2.getD x.1 0)) (csum q x.1 as (Ps.map (·.2))) = as.getD i 0
    rw [hp.2, tim_zero hq (ha a List.mem_cons_self), ih, zero_sum hq (row_getD hq ha' i)]
def atLeads (Ps : List (Nat × List Int)) (w : List Int) : List Int := Ps.map fun x => w.getD x.1 0
theorem RR.rows (h : RR q n Ps) : ∀ r ∈ Ps.map (·.2), IsRow q r ∧ r.length = n := fun r hr => by
  obtain ⟨x, hx, rfl⟩ := List.mem_map.mp hr
  exact ⟨(h.one x hx).1, (h.one x hx).2.1⟩
theorem leads_comb (hq : LetQ q) (h : RR q n Ps) {as : List Int} (ha : IsRow q as) (l : as.length = Ps.length) : atLeads Ps (comb q n as (Ps.map (·.2))) = as := by
  refine row_ext (by unfold atLeads; rw [List.length_map, l]) fun i hi => ?_
  unfold atLeads at hi ⊢
  rw [List.length_map] at hi
  rw [List.getD_eq_getElem?_getD, List.getElem?_map, List.getElem?_eq_getElem hi]
  show (comb q n as (Ps.map (·.2))).getD Ps[i].1 0 = _
  rw [comb_at hq _ ha h.rows, csum_lead hq i h ha l (List.getElem?_eq_getElem hi)]
theorem atLeads_row (hq : LetQ q) {w : List Int} (hw : IsRow q w) : IsRow q (atLeads Ps w) := fun c hc => by
  obtain ⟨x, _, rfl⟩ := List.mem_map.mp hc
  exact row_getD hq hw _
def InB (q : Int) (n : Nat) (Ps : List (Nat × List Int)) (w : List Int) : Prop := comb q n (atLeads Ps w) (Ps.map (·.2)) = w
instance : Decidable (InB q n Ps w) := inferInstanceAs (Decidable (_ = _))
theorem made_in (hq : LetQ q) (h : RR q n Ps) {as : List Int} (ha : IsRow q as) (l : as.length = Ps.length) : InB q n Ps (comb q n as (Ps.map (·.2))) := by
  unfold InB
  rw [leads_comb hq h ha l]
theorem made_iff (hq : LetQ q) (h : RR q n Ps) {as w : List Int} (ha : IsRow q as) (l : as.length = Ps.length) : comb q n as (Ps.map (·.2)) = w ↔ InB q n Ps w ∧ as = atLeads Ps w := by
  constructor
  · rintro rfl
    exact ⟨made_in hq h ha l, (leads_comb hq h ha l).symm⟩
  · rintro ⟨h1, rfl⟩
    exact h1
def chk (q : Int) (n p : Nat) (Ps : List (Nat × List Int)) : List Int := Ps.foldl (fun c x => c.set x.1 (lneg q (x.2.getD p 0))) ((zrow n).set p 1)
theorem fold_chk (hq : LetQ q) {p : Nat} {w : List Int} (hw : IsRow q w) (lw : w.length = n) : ∀ {Ps : List (Nat × List Int)} {c : List Int}, RR q n Ps → IsRow q c → c.length = n → (∀ x ∈ Ps, c.getD x.1 0 = 0) →
    dot q (Ps.foldl (fun c x => c.set x.1 (lneg q (x.2.getD p 0))) c) w = lsum q (dot q c w) (lneg q (csum q p (atLeads Ps w) (Ps.map (·.2))))
  | [], c, _, hc, lc, _ => by
    show dot q c w = lsum q (dot q c w) (lneg q 0)
    rw [neg_zero hq, sum_zero hq (dot_let hq hc hw)]
  | x :: Ps, c, h, hc, lc, h0 => by
    obtain ⟨xr, xl, xn, _, _⟩ := h.one x List.mem_cons_self
    have hp := (List.pairwise_cons.mp h.two).1
    have lx := row_getD hq xr p
    have lnx := let_neg hq lx
    have lwx := row_getD hq hw x.1
    show dot q (Ps.foldl _ (c.set x.1 (lneg q (x.2.getD p 0)))) w = lsum q (dot q c w) (lneg q (lsum q (ltim q (w.getD x.1 0) (x.2.getD p 0)) (csum q p (atLeads Ps w) (Ps.map (·.2)))))
    have lcs := csum_let hq p (as := atLeads Ps w) (Rs := Ps.map (·.2)) (atLeads_row hq hw) fun r hr => (h.tail.rows r hr).1
    rw [fold_chk hq hw lw h.tail (set_row hc lnx x.1) (by rw [List.length_set, lc]) fun y hy => ?_, dot_set hq lnx x.1 (by omega) (by omega) (h0 x List.mem_cons_self) hc hw,
      neg_tim hq lx lwx, tim_comm hq lx lwx, neg_sum hq (let_tim hq lwx lx) lcs, sum_assoc hq (dot_let hq hc hw) (let_neg hq (let_tim hq lwx lx)) (let_neg hq lcs)]
    have := (hp y hy).1
    rw [List.getD_eq_getElem?_getD, List.getElem?_set_ne (by omega), ← List.getD_eq_getElem?_getD]
    exact h0 y (List.mem_cons_of_mem _ hy)
theorem zset_at (p i : Nat) (h : i ≠ p) : ((zrow n).set p 1).getD i 0 = 0 := by
  rw [List.getD_eq_getElem?_getD, List.getElem?_set_ne (by omega), ← List.getD_eq_getElem?_getD, zrow_at]
theorem zset_row (hq : LetQ q) (p : Nat) : IsRow q ((zrow n).set p 1) := set_row (zrow_row hq) (let_one hq) p
theorem dot_unit (hq : LetQ q) {p : Nat} (hp : p < n) {w : List Int} (hw : IsRow q w) (lw : w.length = n) : dot q ((zrow n).set p 1) w = w.getD p 0 := by
  have lz : (zrow n).length = n := List.length_replicate
  rw [dot_set hq (let_one hq) p (by omega) (by omega) (zrow_at p) (zrow_row hq) hw, dot_zero hq n hw, one_tim hq (row_getD hq hw p), zero_sum hq (row_getD hq hw p)]
theorem dot_chk (hq : LetQ q) (h : RR q n Ps) {p : Nat} (hp : p < n) (hl : ∀ x ∈ Ps, x.1 ≠ p) {w : List Int} (hw : IsRow q w) (lw : w.length = n) :
    dot q (chk q n p Ps) w = lsum q (w.getD p 0) (lneg q (csum q p (atLeads Ps w) (Ps.map (·.2)))) := by
  unfold chk
  rw [fold_chk hq hw lw h (zset_row hq p) (by rw [List.length_set]; exact List.length_replicate) (fun x hx => zset_at p x.1 (hl x hx)), dot_unit hq hp hw lw]
theorem chk_row (hq : LetQ q) (p : Nat) : ∀ {Ps : List (Nat × List Int)} {c : List Int}, (∀ x ∈ Ps, IsRow q x.2) → IsRow q c → IsRow q (Ps.foldl (fun c x => c.set x.1 (lneg q (x.2.getD p 0))) c)
  | [], c, _, hc => hc
  | x :: Ps, c, h, hc => chk_row hq p (Ps := Ps) (fun y hy => h y (List.mem_cons_of_mem _ hy)) (set_row hc (let_neg hq (row_getD hq (h x List.mem_cons_self) p)) x.1)
theorem chk_len (p : Nat) : ∀ {Ps : List (Nat × List Int)} {c : List Int}, (Ps.foldl (fun c x => c.set x.1 (lneg q (x.2.getD p 0))) c).length = c.length
  | [], c => rfl
  | x :: Ps, c => by
    show (Ps.foldl _ (c.set x.1 _)).length = _
    rw [chk_len p, List.length_set]
theorem in_iff (hq : LetQ q) (h : RR q n Ps) {w : List Int} (hw : IsRow q w) (lw : w.length = n) : InB q n Ps w ↔ ∀ p, p < n → (∀ x ∈ Ps, x.1 ≠ p) → dot q (chk q n p Ps) w = 0 := by
  have ha : IsRow q (atLeads Ps w) := atLeads_row hq hw
  have la : (atLeads Ps w).length = Ps.length := List.length_map _
  have lc : ∀ p, IsLet q (csum q p (atLeads Ps w) (Ps.map (·.2))) := fun p => csum_let hq p ha fun r hr => (h.rows r hr).1
  constructor
  · intro hin p hp hl
    rw [dot_chk hq h hp hl hw lw, diff_zero hq (row_getD hq hw p) (lc p), ← comb_at hq p ha h.rows]
    exact (congrArg (fun l => l.getD p 0) hin).symm
  · intro hall
    refine row_ext (by rw [comb_len fun r hr => (h.rows r hr).2, lw]) fun p hp => ?_
    rw [comb_len fun r hr => (h.rows r hr).2] at hp
    rw [comb_at hq p ha h.rows]
    by_cases hl : ∀ x ∈ Ps, x.1 ≠ p
    · have z := hall p hp hl
      rw [dot_chk hq h hp hl hw lw, diff_zero hq (row_getD hq hw p) (lc p)] at z
      exact z.symm
    · obtain ⟨x, hx⟩ := Classical.not_forall.mp hl
      obtain ⟨hx, ex⟩ := Classical.not_imp.mp hx
      have ex : x.1 = p := Classical.not_not.mp ex
      obtain ⟨i, hi, rfl⟩ := List.mem_iff_getElem.mp hx
      have z := csum_lead hq i h ha la (List.getElem?_eq_getElem hi)
      rw [ex] at z
      rw [z]
      unfold atLeads
      rw [List.getD_eq_getElem?_getD, List.getElem?_map, List.getElem?_eq_getElem hi]
      show w.getD Ps[i].1 0 = _
      rw [ex]
theorem row_in (hq : LetQ q) (h : RR q n Ps) {x : Nat × List Int} (hx : x ∈ Ps) {p : Nat} (hp : p < n) (hl : ∀ x ∈ Ps, x.1 ≠ p) : dot q (chk q n p Ps) x.2 = 0 := by
  obtain ⟨xr, xl, xn, x0, x1⟩ := h.one x hx
  rw [dot_chk hq h hp hl xr xl]
  have key : ∀ {Ps : List (Nat × List Int)}, RR q n Ps → x ∈ Ps → csum q p (atLeads Ps x.2) (Ps.map (·.2)) = x.2.getD p 0 := by
    intro Ps h hx
    induction Ps with
    | nil => cases hx
    | cons y r ih =>
      have hp := (List.pairwise_cons.mp h.two).1
      have ly := row_getD hq (h.one y List.mem_cons_self).1 p
      show lsum q (ltim q (x.2.getD y.1 0) (y.2.getD p 0)) (csum q p (atLeads r x.2) (r.map (·.2))) = _
      rcases List.mem_cons.mp hx with rfl | hx'
      · have z0 : ∀ {r : List (Nat × List Int)}, RR q n r → (∀ z ∈ r, x.2.getD z.1 0 = 0) → csum q p (atLeads r x.2) (r.map (·.2)) = 0 := by
          intro r hr hz
          induction r with
          | nil => rfl
          | cons z t iht =>
            show lsum q (ltim q (x.2.getD z.1 0) (z.2.getD p 0)) (csum q p (atLeads t x.2) (t.map (·.2))) = 0
            rw [hz z List.mem_cons_self, zero_tim hq (row_getD hq (hr.one z List.mem_cons_self).1 p), iht hr.tail fun y hy => hz y (List.mem_cons_of_mem _ hy), sum_zero hq (let_zero hq)]
        rw [x1, one_tim hq ly, z0 h.tail fun z hz => (hp z hz).2, sum_zero hq ly]
      · have := (hp x hx').1
        rw [h.other (List.mem_cons_of_mem _ hx') List.mem_cons_self (by omega), zero_tim hq ly, ih h.tail hx', zero_sum hq (row_getD hq xr p)]
  rw [key h hx]
  exact sum_neg hq (row_getD hq xr p)
end
end LM
end
section
set_option maxRecDepth 100000
set_option maxHeartbeats 4000000
set_option exponentiation.threshold 9000
namespace K11
open PySem PySem.Spec PyProof.Rows L2 MB LM
open LamX hiding takes0
theorem line_s {n : Nat} (h : n ≤ 100000) : n ≤ sizeLine := Nat.le_of_lt (line_le h)
theorem zip_next {α β : Type} {as : List α} {bs : List β} {i : Nat} {c : α} {d : β} (hc : as[i]? = some c) (hd : bs[i]? = some d) : (as.zip bs).take (i + 1) = (as.zip bs).take i ++ [(c, d)] := by
  rw [List.take_add_one]
  have : (as.zip bs)[i]? = some (c, d) := by
    rw [List.getElem?_zip_eq_some]
    exact ⟨hc, hd⟩
  rw [this]
  rfl
theorem zeros_flat {k : Int} {n : Nat} (h : k.toNat = n) : (List.replicate k.toNat [V.int 0]).flatten = (zrow n).map V.int := by
  rw [h]
  simp [zrow]
theorem supp_lead {ns : List Int} {h : Nat} (hl : h < ns.length) (h0 : ∀ p, p < h → ns.getD p 0 = 0) (h1 : ns.getD h 0 ≠ 0) : ((supp ns).map V.int)[0]? = some (.int (h : Nat)) := by
  have e : ((List.range ns.length).filter fun i => ns.getD i 0 != 0).head? = some h := by
    rw [List.head?_filter, List.find?_range_eq_some]
    refine ⟨by simpa using h1, List.mem_range.mpr hl, fun j hj => ?_⟩
    rw [h0 j hj]
    rfl
  unfold supp
  rw [List.getElem?_map, List.getElem?_map, ← List.head?_eq_getElem?, e]
  rfl
def nats (ps : List Nat) : List Int := ps.map fun p : Nat => (p : Int)
section
variable {w : World} {K : PySem.W.Frag} {mg : Str → Option Value} {base : Heap}
def spLead (K : PySem.W.Frag) : Sp := fun vs H Q _ => ∃ (v : V) (ns : List Int) (h : Nat), vs = [v] ∧ TI K H v ns ∧ ns.length ≤ 1000 ∧ h < ns.length ∧ (∀ p, p < h → ns.getD p 0 = 0) ∧ ns.getD h 0 ≠ 0 ∧ ∀ H', Same H H' → Q (.int (h : Int)) H'
theorem ok_lead_of (T : Txt K mg) : FnOk P w K mg base CX0 2 T.a_lead_of T.d_lead_of P_lead_of (spLead K) := by
  refine T.F_lead_of.ok sc_lead_of (fun vs H Q E h => ?_) (fun cdv A outer s H vs Q E hr h => ?_)
  · obtain ⟨v, ns, h, rfl, _⟩ := h
    rfl
  · obtain ⟨v, ns, h, rfl, hv, hl, h1, h2, h3, k⟩ := h
    refine ⟨_, 
      (pss_one (ps_ret (pe_ix (r := rIxT K) ix_tup (pe_call (ok_row_support T) (hr.mono (by decide)) rfl T.m_row_support T.F_row_support.kp T.b_row_support .nil pass0 (pa_cons (pv 0) pa_nil)) pe_int (fun _ _ => rfl)))), ?_⟩
    refine ⟨_, rfl, v, ns, rfl, hv, hl, fun z H1 s1 hz => ?_⟩
    obtain ⟨c, rfl, hc⟩ := hz
    exact ⟨c, _, 0, _, rfl, rfl, hc, atI_nat (j := 0) (supp_lead h1 h2 h3), k H1 s1⟩
def TupRed (K : PySem.W.Frag) (H : Hp) (v : V) (Ps : List (Nat × List Int)) : Prop := TupRows K H v (Ps.map (·.2))
theorem TupRows.same {H H' : Hp} {v : V} {Ls : List (List Int)} (h : TupRows K H v Ls) (e : Same H H') : TupRows K H' v Ls := by
  obtain ⟨a, vs, rfl, ha, hp⟩ := h
  exact ⟨a, vs, rfl, e.tup ha, rows_same e hp⟩
theorem red_at {q : Int} {n : Nat} {Ps : List (Nat × List Int)} (h : RR q n Ps) {i : Nat} {r : List Int} (hr : (Ps.map (·.2))[i]? = some r) : ∃ x, Ps[i]? = some x ∧ x ∈ Ps ∧ r = x.2 := by
  rw [List.getElem?_map] at hr
  cases e : Ps[i]? with
  | none =>
    rw [e] at hr
    cases hr
  | some x =>
    rw [e] at hr
    exact ⟨x, rfl, List.mem_of_getElem? e, (Option.some.inj hr).symm⟩
theorem getD_at {ns : List Int} {i : Nat} (h : i < ns.length) : (ns.map V.int)[i]? = some (.int (ns.getD i 0)) := by
  rw [List.getElem?_map, List.getD_eq_getElem?_getD, List.getElem?_eq_getElem h]
  rfl
end
end K11
end
section
set_option maxRecDepth 100000
set_option maxHeartbeats 4000000
set_option exponentiation.threshold 9000
namespace K11
open PySem PySem.Spec PyProof.Rows L2 MB LM
open LamX hiding takes0
theorem rep_rd {K : PySem.W.Frag} {H : Hp} {u : V} {c k : Int} {Q : VK} (hu : TI K H u [c]) (lo : -1000 ≤ k) (hi : k ≤ 1000)
    (q : ∀ z H', Same H H' → TI K H' z (List.replicate k.toNat c) → Q z H') : rRepA K u (.int k) H Q := by
  obtain ⟨a, rfl, ha⟩ := hu
  refine ⟨a, k, _, rfl, rfl, ha, by simp, by omega, by omega, by simp, fun e => ?_, fun e p hp => ?_⟩
  · subst e
    exact q _ _ (Same.refl _) ⟨a, rfl, ha⟩
  · refine q _ _ (same_upd hp) ⟨p, rfl, ?_⟩
    have z : (List.replicate k.toNat ([c].map V.int)).flatten = (List.replicate k.toNat c).map V.int := by
      simp
    rw [← z]
    exact SqT.of upd_same
theorem rr_len {q : Int} {n : Nat} {Ps : List (Nat × List Int)} (h : RR q n Ps) : Ps.length ≤ n := by
  have key : ∀ {Ps : List (Nat × List Int)} (m : Nat), RR q n Ps → m ≤ n → (∀ x ∈ Ps, m ≤ x.1) → Ps.length + m ≤ n := by
    intro Ps
    induction Ps with
    | nil =>
      intro m _ hm _
      simpa using hm
    | cons y r ih =>
      intro m h hm hx
      have hp := (List.pairwise_cons.mp h.two).1
      have h1 := hx y List.mem_cons_self
      have h2 := (h.one y List.mem_cons_self).2.2.1
      have := ih (y.1 + 1) h.tail (by omega) fun x hx' => (hp x hx').1
      simp only [List.length_cons]
      omega
  have := key 0 h (Nat.zero_le _) fun _ _ => Nat.zero_le _
  omega
def free (n : Nat) (Ps : List (Nat × List Int)) : List Nat := (List.range n).filter fun p => !(Ps.any fun x => x.1 == p)
theorem mem_free {n p : Nat} {Ps : List (Nat × List Int)} : p ∈ free n Ps ↔ p < n ∧ ∀ x ∈ Ps, x.1 ≠ p := by
  unfold free
  simp
def checks (q : Int) (n : Nat) (Ps : List (Nat × List Int)) : List (List Int) := (free n Ps).map fun p => chk q n p Ps
theorem in_leads (p : Nat) : ∀ Ps : List (Nat × List Int), inV (.int (p : Int)) ((Ps.map fun x => (x.1 : Int)).map V.int) = Ps.any fun x => x.1 == p
  | [] => rfl
  | x :: Ps => by
    have ih := in_leads p Ps
    unfold inV at ih ⊢
    rw [List.map_cons, List.map_cons, List.any_cons, List.any_cons, ih]
    have e : eqV (V.int (x.1 : Int)) (.int (p : Int)) = (x.1 == p) := by
      show ((x.1 : Int) == (p : Int)) = (x.1 == p)
      rw [Bool.eq_iff_iff, beq_iff_eq, beq_iff_eq]
      omega
    rw [e]
theorem flat_ints : ∀ ns : List Int, (ns.map V.int).all flatV = true
  | [] => rfl
  | c :: r => by
    rw [List.map_cons, List.all_cons, flat_ints r]
    rfl
section
variable {w : World} {K : PySem.W.Frag} {mg : Str → Option Value} {base : Heap}
def spComb (K : PySem.W.Frag) : Sp := fun vs H Q _ => ∃ (q : Int) (n : Nat) (u v : V) (as : List Int) (Ls : List (List Int)), vs = [.int q, .int (n : Int), u, v] ∧ LetQ q ∧ n ≤ 8 ∧ TI K H u as ∧ IsRow q as ∧ TupRows K H v Ls ∧ AllR q n Ls ∧
  ∀ z H', Same H H' → TI K H' z (comb q n as Ls) → Q z H'
theorem ok_sum_of_rows (T : Txt K mg) : FnOk P w K mg base CX0 3 T.a_sum_of_rows T.d_sum_of_rows P_sum_of_rows (spComb K) := by
  refine T.F_sum_of_rows.ok sc_sum_of_rows (fun vs H Q E h => ?_) (fun cdv A outer s H vs Q E hr h => ?_)
  · obtain ⟨q, n, u, v, as, Ls, rfl, _⟩ := h
    rfl
  · obtain ⟨q, n, _, _, as, Ls, rfl, hq, hn, ⟨a, rfl, ha⟩, hra, ⟨b, vs, rfl, hb, hpr⟩, hall, k⟩ := h
    refine ⟨_, 
      (pss_cons (ps_set (i := 4) sc_sum_of_rows.nd rfl (Or.inl rfl) (pe_op op_repA (pe_tup (pa_cons pe_int pa_nil)) (pv 1)))
      (pss_cons (ps_for PassesOwn.never rfl (RZ.pi_zipA (by rfl) T.m_zip (pa_cons (pv 2) (pa_cons (pv 3) pa_nil))) (pg_tup rfl (pgs_cons (pg_name (i := 5) sc_sum_of_rows.nd rfl (Or.inl rfl)) (pgs_cons (pg_name (i := 6) sc_sum_of_rows.nd rfl (Or.inl rfl)) pgs_nil))) (pss_one (ps_set (i := 4) sc_sum_of_rows.nd rfl (Or.inl rfl) (pe_call (ok_row_sum T) (hr.mono (by decide)) rfl T.m_row_sum T.F_row_sum.kp T.b_row_sum .nil pass0 (pa_cons (pv 0) (pa_cons (pv 4) (pa_cons (pe_call (ok_row_times T) (hr.mono (by decide)) rfl T.m_row_times T.F_row_times.kp T.b_row_times .nil pass0 (pa_cons (pv 0) (pa_cons (pv 5) (pa_cons (pv 6) pa_nil)))) pa_nil)))))))
      (pss_one (ps_ret (pv 4))))), ?_⟩
    refine ⟨line_s (Nat.le_of_ble_eq_true rfl), fun p1 hp1 => ⟨_, rfl, rep_rd (c := 0) ⟨p1, rfl, SqT.of upd_same⟩ (by omega) (by omega) fun z1 H1 s1 hz1 => ?_⟩⟩
    have s01 := (same_upd (o := .tup [.int 0]) hp1).trans s1
    rw [Int.toNat_natCast] at hz1
    refine ⟨_, rfl, _, rfl, a, b, _, _, rfl, .inr ⟨s01.tup ha, s01.tup hb, ?_⟩⟩
    refine for_it (walk_zipT (K := K) (a := a) (b := b) (xs := as.map V.int) (ys := vs) rfl)
      (fun i σ H' => ∃ u5 u6 z, σ = [some (.int q), some (.int (n : Int)), some (.ref a), some (.ref b), some z, u5, u6] ∧ Same H H' ∧ TI K H' z (((as.zip Ls).take i).foldl (fun t p => vsum q t (vtim q p.1 p.2)) (zrow n)) ∧
        IsRow q (((as.zip Ls).take i).foldl (fun t p => vsum q t (vtim q p.1 p.2)) (zrow n)) ∧ (((as.zip Ls).take i).foldl (fun t p => vsum q t (vtim q p.1 p.2)) (zrow n)).length = n)
      ⟨none, none, z1, rfl, s01, hz1, zrow_row hq, zrow_len⟩ (fun i σ H' _ ⟨_, _, _, _, e, _⟩ => ⟨e.tup ha, e.tup hb⟩) ?_ ?_
    · rintro i x _ H' H'' hi ⟨u5, u6, z, rfl, e, hz, rz, lz⟩ ⟨T0, x1, y1, rfl, hT0, rfl, hx, hy⟩
      obtain ⟨c, hc, rfl⟩ := int_at hx
      obtain ⟨r, hr, ti⟩ := paired_at hpr hy
      obtain ⟨rr, rl⟩ := hall r (List.mem_of_getElem? hr)
      have lc := hra c (List.mem_of_getElem? hc)
      have e1 := e.trans (same_upd (o := .tup [.int c, y1]) hT0)
      refine ⟨T0, _, rfl, SqT.of upd_same, rfl, _, _, rfl, _, _, rfl, rfl, ?_⟩
      refine ⟨_, rfl, _, rfl, _, rfl, _, rfl, _, rfl, q, c, y1, r, rfl, hq, lc, ti.same e1, rr, by omega, fun z2 H2 s2 hz2 => ?_⟩
      refine ⟨q, z, z2, _, _, rfl, hq, hz.same ((same_upd hT0).trans s2), hz2, by omega, fun z3 H3 s3 hz3 => ?_⟩
      have ez : ((as.zip Ls).take (i + 1)).foldl (fun t p => vsum q t (vtim q p.1 p.2)) (zrow n) = vsum q (((as.zip Ls).take i).foldl (fun t p => vsum q t (vtim q p.1 p.2)) (zrow n)) (vtim q c r) := by
        rw [zip_next hc hr, List.foldl_append]
        rfl
      refine ⟨some (.int c), some y1, z3, rfl, (e1.trans s2).trans s3, ?_, ?_, ?_⟩
      · rw [ez]
        exact hz3
      · rw [ez]
        exact vsum_row hq rz (vtim_row hq lc rr)
      · rw [ez]
        exact vsum_len lz (by rw [vtim_len, rl])
    · rintro _ H' ⟨u5, u6, z, rfl, e, hz, _⟩
      refine ⟨_, rfl, ?_⟩
      have lm : min (as.map V.int).length vs.length = (as.zip Ls).length := by rw [List.length_map, hpr.length, List.length_zip]
      rw [lm, List.take_length, fold_comb0 hq hra hall] at hz
      exact k z H' e hz
end
end K11
end
section
set_option maxRecDepth 100000
namespace MB
open PySem PySem.Spec PyProof.Rows L2
variable {K : PySem.W.Frag} {H : Hp}
mutual
theorem Dq.dp : ∀ {v : V} (d : PyData), Dq K H v d → d.canLay0 = true → Dp K H v d
  | _, .none, .non, _ => .non
  | _, .bool b, .bl _, _ => .bl b
  | _, .int i, .int _, _ => .int i
  | _, .str x, .str _, _ => .str x
  | _, .list ds, .lst h1 h2, h => .lst h1 (DqAll.dp ds h2 (by simpa only [PyData.canLay0] using h))
  | _, .tuple ds, .tup h1 h2, h => .tup h1 (DqAll.dp ds h2 (by simpa only [PyData.canLay0] using h))
theorem DqAll.dp : ∀ {vs : List V} (ds : List PyData), DqAll K H vs ds → PyData.canLayAll0 ds = true → DpAll K H vs ds
  | _, [], .nil, _ => .nil
  | _, d :: ds, .cons h1 h2, h => by
    simp only [PyData.canLayAll0, Bool.and_eq_true] at h
    exact .cons (Dq.dp d h1 h.1) (DqAll.dp ds h2 h.2)
end
theorem eqv_str (d : PyData) (x : Str) : PyData.eqv d (.str x) = true ↔ d = .str x := by
  cases d with
  | str y =>
    simp only [PyData.eqv, beq_iff_eq, PyData.str.injEq]
  | _ => simp [PyData.eqv]
theorem eqvAll_ints : ∀ ns ms : List Int, PyData.eqvAll (ns.map PyData.int) (ms.map PyData.int) = decide (ns = ms)
  | [], [] => by simp [PyData.eqvAll]
  | [], _ :: _ => by simp [PyData.eqvAll]
  | _ :: _, [] => by simp [PyData.eqvAll]
  | a :: ns, b :: ms => by
    simp only [List.map_cons, PyData.eqvAll, PyData.eqv, eqvAll_ints ns ms]
    rw [Bool.eq_iff_iff]
    simp
theorem eqv_ints (ns ms : List Int) : PyData.eqv (.tuple (ns.map PyData.int)) (.tuple (ms.map PyData.int)) = decide (ns = ms) := by
  simp only [PyData.eqv, eqvAll_ints]
end MB
end
section
set_option maxRecDepth 100000
set_option maxHeartbeats 4000000
set_option exponentiation.threshold 9000
namespace K11
open PySem PySem.Spec PyProof.Rows L2 MB LM
open LamX hiding takes0
theorem fromL {q : Int} {o : Option Int} (h : inFrom 0 (q - 1) o = true) : ∃ a, o = some a ∧ IsLet q a := by
  cases o with
  | none => cases h
  | some a =>
    have h' : (decide ((0 : Int) ≤ a) && decide (a ≤ q - 1)) = true := h
    rw [Bool.and_eq_true, decide_eq_true_eq, decide_eq_true_eq] at h'
    exact ⟨a, rfl, h'.1, by omega⟩
theorem lev_ti {K : PySem.W.Frag} {H : Hp} {v : V} {ns : List Int} (h : Lev K H v (some (ns.map some))) : TI K H v ns ∧ ns.length ≤ 1000 := by
  obtain ⟨xs, ⟨a, rfl, ha⟩, hp, hl⟩ := h
  have e : xs = ns.map V.int := by
    clear ha hl
    induction ns generalizing xs with
    | nil => cases hp; rfl
    | cons c r ih =>
      cases hp with
      | cons h1 h2 =>
        have h1' : _ = V.int c := h1
        rw [h1', ih _ h2]
        rfl
  subst e
  rw [List.length_map] at hl
  exact ⟨⟨a, rfl, ha⟩, hl⟩
theorem Lev.same {K : PySem.W.Frag} {H H' : Hp} {v : V} {o : Option (List (Option Int))} (h : Lev K H v o) (e : Same H H') : Lev K H' v o := by
  cases o with
  | none => exact TupQ.same (o := none) h e
  | some os =>
    obtain ⟨xs, h1, h2, h3⟩ := h
    refine ⟨xs, TupQ.same h1 e, ?_, h3⟩
    clear h1 h3
    induction h2 with
    | nil => exact .nil
    | cons r _ ih => exact .cons (r.same e) ih
def Flies (E : XK) (C : Addr) (v : V) (H : Hp) : Prop := ∀ d, H d = none → E (.ref C) (some d) (upd H d (.xd [("thing", v)]))
theorem row_of {q n : Int} {o : Option (List (Option Int))} (h : rowQ q n o = true) : ∃ ns : List Int, o = some (ns.map some) ∧ IsRow q ns ∧ (ns.length : Int) = n := by
  cases o with
  | none => cases h
  | some os =>
    have h' : (os.all (inFrom 0 (q - 1)) && decide ((os.length : Int) = n)) = true := h
    rw [Bool.and_eq_true, decide_eq_true_eq] at h'
    obtain ⟨h1, h2⟩ := h'
    obtain ⟨ns, e, hr⟩ : ∃ ns : List Int, os = ns.map some ∧ IsRow q ns := by
      clear h h2
      induction os with
      | nil => exact ⟨[], rfl, fun c hc => by cases hc⟩
      | cons x r ih =>
        rw [List.all_cons, Bool.and_eq_true] at h1
        obtain ⟨ns, e, hr⟩ := ih h1.2
        obtain ⟨a, rfl, ha⟩ := fromL h1.1
        refine ⟨a :: ns, by rw [e]; rfl, fun c hc => ?_⟩
        rcases List.mem_cons.mp hc with rfl | hc
        · exact ha
        · exact hr c hc
    refine ⟨ns, by rw [e], hr, ?_⟩
    rw [e, List.length_map] at h2
    exact h2
theorem some_inj : ∀ {as bs : List Int}, as.map some = bs.map some → as = bs
  | [], [], _ => rfl
  | [], _ :: _, h => by cases h
  | _ :: _, [], h => by cases h
  | a :: as, b :: bs, h => by
    rw [List.map_cons, List.map_cons, List.cons.injEq] at h
    rw [Option.some.inj h.1, some_inj h.2]
section
variable {w : World} {K : PySem.W.Frag} {mg : Str → Option Value} {base : Heap}
theorem BookAt.same {C : Addr} {H H' : Hp} {b : Addr} {q n : Int} {Rs : List (List Int)} (h : BookAt K C H b q n Rs) (e : Same H H') : BookAt K C H' b q n Rs := by
  obtain ⟨dx, fs, z, h1, h2, h3, h4, h5, h6⟩ := h
  exact ⟨dx, fs, z, e _ _ h1, h2, h3, h4, h5, TupRows.same h6 e⟩
structure BookR (T : Txt K mg) (H : Hp) (b : Addr) (q : Int) (n : Nat) (Ps : List (Nat × List Int)) : Prop where
  at_ : BookAt K T.C_Book H b q n (Ps.map (·.2))
  rr : RR q n Ps
  lq : LetQ q
  n8 : n ≤ 8
theorem BookR.same {T : Txt K mg} {H H' : Hp} {b : Addr} {q : Int} {n : Nat} {Ps : List (Nat × List Int)} (h : BookR T H b q n Ps) (e : Same H H') : BookR T H' b q n Ps := ⟨h.at_.same e, h.rr, h.lq, h.n8⟩
theorem kit_self {K : PySem.W.Frag} {C : Addr} : PySem.W.kitOne K (.ref C) (.ref C) = some true := by
  show (if (Value.ref C == Value.ref C) = true then some true else _) = some true
  rw [beq_self_eq_true]
  rfl
theorem ty_book (T : Txt K mg) {H : Hp} {b dx : Addr} {fs : List (Str × V)} (h : H b = some (.ins T.C_Book dx fs)) : TyX K H (.ref b) (.ref T.C_Book) :=
  .base (.ins h T.cl_Book T.is_Book.ha T.is_Book.hn T.is_Book.ht T.is_Book.hm)
def spLeads (T : Txt K mg) : Sp := fun vs H Q _ => ∃ (b : Addr) (q : Int) (n : Nat) (Ps : List (Nat × List Int)), vs = [.ref b] ∧ BookR T H b q n Ps ∧ ∀ z H', Same H H' → TI K H' z (Ps.map fun x => (x.1 : Int)) → Q z H'
theorem ok_leads (T : Txt K mg) : FnOk P w K mg base CX0 3 T.a_leads T.d_leads P_leads (spLeads T) := by
  refine T.F_leads.ok sc_leads (fun vs H Q E h => ?_) (fun cdv A outer s H vs Q E hr h => ?_)
  · obtain ⟨b, q, n, Ps, rfl, _⟩ := h
    rfl
  · obtain ⟨b, q, n, Ps, rfl, hB, k⟩ := h
    refine ⟨_, 
      (pss_one (ps_ret (pe_callTy call_tuple_of (by rfl) T.m_tuple (by decide +kernel) (pa_cons (pe_lc (own := [("row", 1)]) (g := gName 1) (tt := tYes) rfl sc_leads.nd (pi_tup (pe_fld (pv 0) rfl)) (blkOk_by (own := [("row", 1)]) (N := N_leads) (sc := (defScope s_leads)) (by decide +kernel)) (fun _ _ _ _ _ => (pg_name (i := 1) sc_leads.nd rfl (Or.inl rfl))) (fun _ _ _ _ _ => pts_nil) (fun _ _ _ _ _ => (pe_call (ok_lead_of T) (hr.mono (by decide)) rfl T.m_lead_of T.F_lead_of.kp T.b_lead_of .nil pass0 (pa_cons (pv 1) pa_nil)))) pa_nil)))), ?_⟩
    obtain ⟨dx, fs, z, hb, bq, bn, br, bd, a, vs, rfl, ha, hpr⟩ := hB.at_
    have hR := hB.rr
    have n8 := hB.n8
    have lR := rr_len hR
    have lv : vs.length = Ps.length := by rw [hpr.length, List.length_map]
    refine ⟨_, rfl, b, _, dx, fs, _, rfl, hb, T.cl_Book, T.no_Book_rows, br, a, rfl, ⟨vs, ha⟩, fun L hL => ?_⟩
    refine lc_it (walk_tup (K := K) (a := a) (xs := vs))
      (fun i H' => Same H H' ∧ H' L = some (.lst (((Ps.take i).map fun x => (x.1 : Int)).map V.int))) ⟨same_upd hL, upd_same⟩ (fun i H' _ ⟨e, _⟩ => e.tup ha) ?_ ?_
    · rintro i v _ H' hi ⟨e, hN⟩ ⟨rfl, hv⟩
      obtain ⟨r, hr, ti⟩ := paired_at hpr hv
      obtain ⟨x, hx, hxm, rfl⟩ := red_at hR hr
      obtain ⟨xr, xl, xn, x0, x1⟩ := hR.one x hxm
      refine ⟨rfl, ?_⟩
      refine ⟨_, rfl, v, x.2, x.1, rfl, ti.same e, by omega, by omega, x0, by rw [x1]; decide, fun H2 s2 => ?_⟩
      refine ⟨_, s2 _ _ hN, ?_, same_set hL (e.trans s2), ?_⟩
      · rw [List.length_map, List.length_map, List.length_take]
        exact line_le (by omega)
      · rw [upd_same, List.take_add_one, hx, List.map_append, List.map_append]
        rfl
    rintro H1 ⟨s1, hL1⟩
    rw [lv, List.take_length] at hL1
    refine ⟨L, _, rfl, .inl ⟨SqL.of hL1, fun p hp => ?_⟩⟩
    exact k _ _ (s1.trans (same_upd hp)) ⟨p, rfl, SqT.of upd_same⟩
def spMade (T : Txt K mg) : Sp := fun vs H Q E => ∃ (b : Addr) (q : Int) (n : Nat) (Ps : List (Nat × List Int)) (v : V) (o : Option (List (Option Int))), vs = [.ref b, v] ∧ BookR T H b q n Ps ∧ Lev K H v o ∧
  (rowQ q (Ps.length : Nat) o = false → ∀ H', Same H H' → Flies E T.C_BadWord v H') ∧ ∀ as : List Int, o = some (as.map some) → IsRow q as → as.length = Ps.length → ∀ z H', Same H H' → TI K H' z (comb q n as (Ps.map (·.2))) → Q z H'
theorem ok_made (T : Txt K mg) : FnOk P w K mg base (L2.CX P w) 6 T.a_made T.d_made P_made (spMade T) := by
  refine T.F_made.okX sc_made (fun vs H Q E h => ?_) (fun cdv A outer s H vs Q E hr h => ?_)
  · obtain ⟨b, q, n, Ps, v, o, rfl, _⟩ := h
    rfl
  · obtain ⟨b, q, n, Ps, v, o, rfl, hB, hv, bad, good⟩ := h
    refine ⟨_, 
      (pss_cons (ps_if (pt_not (pt_val (pe_call (ok_is_row T) (hr.mono (by decide)) rfl T.m_is_row T.F_is_row.kp T.b_is_row .nil pass0 (pa_cons (pe_fld (pv 0) rfl) (pa_cons (pe_fld (pv 0) rfl) (pa_cons (pv 1) pa_nil)))))) (pss_one (ps_raiseErr rfl T.e_BadWord hr (takes_of rfl rfl rfl rfl) (by exact (pa_cons (pv 1) pa_nil)) rfl)) pss_nil)
      (pss_one (ps_ret (pe_call (ok_sum_of_rows T) (hr.mono (by decide)) rfl T.m_sum_of_rows T.F_sum_of_rows.kp T.b_sum_of_rows .nil pass0 (pa_cons (pe_fld (pv 0) rfl) (pa_cons (pe_fld (pv 0) rfl) (pa_cons (pv 1) (pa_cons (pe_fld (pv 0) rfl) pa_nil)))))))), ?_⟩
    obtain ⟨dx, fs, z, hb, bq, bn, br, bd, hz⟩ := hB.at_
    rw [List.length_map] at bd
    refine ⟨_, rfl, b, _, dx, fs, _, rfl, hb, T.cl_Book, T.no_Book_q, bq, _, rfl, b, _, dx, fs, _, rfl, hb, T.cl_Book, T.no_Book_dimension, bd, _, rfl, q, _, v, o, rfl, hv, fun H1 s1 => ⟨_, rfl, ?_⟩⟩
    cases e : rowQ q (Ps.length : Nat) o with
    | false => exact iteT ⟨_, rfl, v, rfl, fun d hd => bad e H1 s1 d hd⟩
    | true =>
      obtain ⟨as, rfl, ra, la⟩ := row_of e
      refine iteF ?_
      have hb1 := s1 _ _ hb
      refine ⟨_, rfl, b, _, dx, fs, _, rfl, hb1, T.cl_Book, T.no_Book_q, bq, _, rfl, b, _, dx, fs, _, rfl, hb1, T.cl_Book, T.no_Book_n, bn, _, rfl, _, rfl, b, _, dx, fs, _, rfl, hb1, T.cl_Book, T.no_Book_rows, br, ?_⟩
      exact ⟨q, n, v, z, as, _, rfl, hB.lq, hB.n8, (lev_ti (hv.same s1)).1, ra, TupRows.same hz s1, hB.rr.rows, fun y H2 s2 hy => good as rfl ra (by omega) y H2 (s1.trans s2) hy⟩
theorem row_made {q : Int} {as : List Int} {m : Nat} (ra : IsRow q as) (la : as.length = m) : rowQ q (m : Nat) (some (as.map some)) = true := rowQ_row ra (by rw [la])
def spMade0 (T : Txt K mg) : Sp := fun vs H Q _ => ∃ (b : Addr) (q : Int) (n : Nat) (Ps : List (Nat × List Int)) (v : V) (as : List Int), vs = [.ref b, v] ∧ BookR T H b q n Ps ∧ TI K H v as ∧ IsRow q as ∧ as.length = Ps.length ∧
  ∀ z H', Same H H' → TI K H' z (comb q n as (Ps.map (·.2))) → Q z H'
theorem ok0_made (T : Txt K mg) : FnOk P w K mg base L2.CX0 6 T.a_made T.d_made P_made (spMade0 T) :=
  (MB.FnOk.quiet (ok_made T)).imp fun vs H Q E ⟨b, q, n, Ps, v, as, e, hB, hv, ra, la, k⟩ => ⟨b, q, n, Ps, v, some (as.map some), e, hB, ti_lev hv (by have := rr_len hB.rr; have := hB.n8; omega),
    (fun z => by rw [row_made ra la] at z; cases z), fun as' e' _ _ => by
      obtain rfl := some_inj (Option.some.inj e')
      exact k⟩
def spAtL (T : Txt K mg) : Sp := fun vs H Q _ => ∃ (b : Addr) (q : Int) (n : Nat) (Ps : List (Nat × List Int)) (v : V) (ws : List Int), vs = [.ref b, v] ∧ BookR T H b q n Ps ∧ TI K H v ws ∧ ws.length = n ∧
  ∀ z H', Same H H' → TI K H' z (atLeads Ps ws) → Q z H'
theorem ok_amounts_at_leads (T : Txt K mg) : FnOk P w K mg base CX0 4 T.a_amounts_at_leads T.d_amounts_at_leads P_amounts_at_leads (spAtL T) := by
  refine T.F_amounts_at_leads.ok sc_amounts_at_leads (fun vs H Q E h => ?_) (fun cdv A outer s H vs Q E hr h => ?_)
  · obtain ⟨b, q, n, Ps, v, ws, rfl, _⟩ := h
    rfl
  · obtain ⟨b, q, n, Ps, _, ws, rfl, hB, ⟨a, rfl, ha⟩, lw, k⟩ := h
    refine ⟨_, 
      (pss_one (ps_ret (pe_callTy call_tuple_of (by rfl) T.m_tuple (by decide +kernel) (pa_cons (pe_lc (own := [("lead", 2)]) (g := gName 2) (tt := tYes) rfl sc_amounts_at_leads.nd (pi_tup (pe_call (ok_leads T) (hr.mono (by decide)) rfl T.m_leads T.F_leads.kp T.b_leads .nil pass0 (pa_cons (pv 0) pa_nil))) (blkOk_by (own := [("lead", 2)]) (N := N_amounts_at_leads) (sc := (defScope s_amounts_at_leads)) (by decide +kernel)) (fun _ _ _ _ _ => (pg_name (i := 2) sc_amounts_at_leads.nd rfl (Or.inl rfl))) (fun _ _ _ _ _ => pts_nil) (fun _ _ _ _ _ => (pe_ix (r := rIxT K) ix_tup (pv 1) (pv 2) (fun _ _ => rfl)))) pa_nil)))), ?_⟩
    have n8 := hB.n8
    have lR := rr_len hB.rr
    refine ⟨_, rfl, b, q, n, Ps, rfl, hB, fun z H1 s1 hz => ?_⟩
    obtain ⟨c, rfl, hc⟩ := hz
    refine ⟨c, rfl, ⟨_, hc⟩, fun L hL => ?_⟩
    refine lc_it (walk_tup (K := K) (a := c) (xs := (Ps.map fun x => (x.1 : Int)).map V.int))
      (fun i H' => Same H1 H' ∧ H' L = some (.lst (((Ps.take i).map fun x => ws.getD x.1 0).map V.int))) ⟨same_upd hL, upd_same⟩ (fun i H' _ ⟨e, _⟩ => e.tup hc) ?_ ?_
    · rintro i v _ H' hi ⟨e, hN⟩ ⟨rfl, hv⟩
      obtain ⟨m, hm, rfl⟩ := int_at hv
      obtain ⟨x, hx, rfl⟩ : ∃ x, Ps[i]? = some x ∧ m = (x.1 : Int) := by
        rw [List.getElem?_map] at hm
        cases e : Ps[i]? with
        | none =>
          rw [e] at hm
          cases hm
        | some x =>
          rw [e] at hm
          exact ⟨x, rfl, (Option.some.inj hm).symm⟩
      obtain ⟨xr, xl, xn, x0, x1⟩ := hB.rr.one x (List.mem_of_getElem? hx)
      refine ⟨rfl, ?_⟩
      refine ⟨_, rfl, _, rfl, a, _, _, .int (ws.getD x.1 0), rfl, rfl, (s1.trans e).tup ha, atI_nat (getD_at (by omega)), ?_⟩
      refine ⟨_, hN, ?_, same_set hL e, ?_⟩
      · rw [List.length_map, List.length_map, List.length_take]
        exact line_le (by omega)
      · rw [upd_same, List.take_add_one, hx, List.map_append, List.map_append]
        rfl
    rintro H2 ⟨s2, hL2⟩
    rw [List.length_map, List.length_map, List.take_length] at hL2
    refine ⟨L, _, rfl, .inl ⟨SqL.of hL2, fun p hp => ?_⟩⟩
    exact k _ _ (s1.trans (s2.trans (same_upd hp))) ⟨p, rfl, SqT.of upd_same⟩
def inBQ (q : Int) (n : Nat) (Ps : List (Nat × List Int)) (ws : List Int) : Bool := decide (InB q n Ps ws)
def wordQ (q : Int) (n : Nat) (Ps : List (Nat × List Int)) (o : Option (List (Option Int))) : Bool := rowQ q n o && inBQ q n Ps ((o.getD []).map (·.getD 0))
theorem got (ns : List Int) : ((some (ns.map some)).getD []).map (fun o : Option Int => o.getD 0) = ns := by
  show (ns.map some).map (fun o : Option Int => o.getD 0) = ns
  rw [List.map_map]
  exact List.map_id ns
def spIsWord (T : Txt K mg) : Sp := fun vs H Q _ => ∃ (b : Addr) (q : Int) (n : Nat) (Ps : List (Nat × List Int)) (v : V) (o : Option (List (Option Int))), vs = [.ref b, v] ∧ BookR T H b q n Ps ∧ Lev K H v o ∧ ∀ H', Same H H' → Q (.bl (wordQ q n Ps o)) H'
theorem ok_is_word (T : Txt K mg) : FnOk P w K mg base CX0 7 T.a_is_word T.d_is_word P_is_word (spIsWord T) := by
  refine T.F_is_word.ok sc_is_word (fun vs H Q E h => ?_) (fun cdv A outer s H vs Q E hr h => ?_)
  · obtain ⟨b, q, n, Ps, v, o, rfl, _⟩ := h
    rfl
  · obtain ⟨b, q, n, Ps, v, o, rfl, hB, hv, k⟩ := h
    refine ⟨_, 
      (pss_one (ps_ret (pe_and (pe_call (ok_is_row T) (hr.mono (by decide)) rfl T.m_is_row T.F_is_row.kp T.b_is_row .nil pass0 (pa_cons (pe_fld (pv 0) rfl) (pa_cons (pe_fld (pv 0) rfl) (pa_cons (pv 1) pa_nil)))) (pe_one (pe_cmpR (op_eqD hr.units) (pe_call (ok0_made T) (hr.mono (by decide)) rfl T.m_made T.F_made.kp T.b_made .nil pass0 (pa_cons (pv 0) (pa_cons (pe_call (ok_amounts_at_leads T) (hr.mono (by decide)) rfl T.m_amounts_at_leads T.F_amounts_at_leads.kp T.b_amounts_at_leads .nil pass0 (pa_cons (pv 0) (pa_cons (pv 1) pa_nil))) pa_nil))) (pv 1) (nomark _)))))), ?_⟩
    obtain ⟨dx, fs, z, hb, bq, bn, br, bd, hz⟩ := hB.at_
    refine ⟨_, rfl, b, _, dx, fs, _, rfl, hb, T.cl_Book, T.no_Book_q, bq, _, rfl, b, _, dx, fs, _, rfl, hb, T.cl_Book, T.no_Book_n, bn, _, rfl, q, _, v, o, rfl, hv, fun H1 s1 => ⟨_, rfl, ?_⟩⟩
    unfold wordQ at k
    cases e : rowQ q n o with
    | false =>
      rw [e] at k
      exact iteF (k H1 s1)
    | true =>
      rw [e, Bool.true_and] at k
      obtain ⟨ws, rfl, rw_, lw⟩ := row_of e
      rw [got] at k
      have lw' : ws.length = n := by omega
      obtain ⟨ti, _⟩ := lev_ti (hv.same s1)
      refine iteT ⟨_, rfl, _, rfl, _, rfl, b, q, n, Ps, v, ws, rfl, hB.same s1, ti, lw', fun y H2 s2 hy => ?_⟩
      refine ⟨b, q, n, Ps, y, _, rfl, hB.same (s1.trans s2), hy, atLeads_row hB.lq rw_, List.length_map _, fun u H3 s3 hu => ?_⟩
      obtain ⟨c, rfl, hc⟩ := hu
      obtain ⟨a, rfl, ha⟩ := ti.same (s2.trans s3)
      refine ⟨_, rfl, _, _, .tup hc (dp_ints _), .tup ha (dp_ints ws), tup_shaped _, tup_shaped ws, ?_⟩
      rw [eqv_ints]
      exact k _ (s1.trans (s2.trans s3))
end
end K11
end
section
set_option maxRecDepth 100000
set_option maxHeartbeats 4000000
set_option exponentiation.threshold 9000
namespace K11
open PySem PySem.Spec PyProof.Rows L2 MB LM
open LamX hiding takes0
section
variable {w : World} {K : PySem.W.Frag} {mg : Str → Option Value} {base : Heap}
def spPick (K : PySem.W.Frag) : Sp := fun vs H Q _ => ∃ (d l a : Addr) (xs : List V), vs = [.ref d, .ref a] ∧ SqAny K (hide d l H) a xs ∧ xs ≠ [] ∧ xs.length ≤ 1000 ∧ Deck kL H d l ∧
  ∀ (x : V) H', x ∈ xs → But d l H H' → Deck kL H' d l → Q x H'
theorem small_bits {k : Int} (h0 : 0 ≤ k) (h : k ≤ 1000000) : k.natAbs < 2 ^ 8000 :=
  Nat.lt_of_le_of_lt (show k.natAbs ≤ 2 ^ 20 by have : (2 : Nat) ^ 20 = 1048576 := rfl; omega) (Nat.pow_lt_pow_right (by decide) (by decide))
theorem ok__law_pick (T : Txt K mg) : FnOk P w K mg base CX0 2 T.a__law_pick T.d__law_pick P__law_pick (spPick K) := by
  refine T.F__law_pick.ok sc__law_pick (fun vs H Q E h => ?_) (fun cdv A outer s H vs Q E hr h => ?_)
  · obtain ⟨d, l, a, xs, rfl, _⟩ := h
    rfl
  · obtain ⟨d, l, a, xs, rfl, ha, hne, hl, D, q⟩ := h
    refine ⟨_, 
      (pss_one (ps_ret (pe_ix (r := rIx K) ix_seq (pv 1) (pe_call (ok__law_draw T) (hr.mono (by decide)) rfl T.m__law_draw T.F__law_draw.kp T.b__law_draw .nil pass0 (pa_cons (pv 0) (pa_cons (pe_callB call_len_seq (by rfl) T.m_len (by decide +kernel) (pa_cons (pv 1) pa_nil)) pa_nil))) (fun _ _ => rfl)))), ?_⟩
    have hp : 0 < xs.length := List.length_pos_iff.mpr hne
    have h0 : SqL K H a xs ∨ SqT K H a xs := (ha.same hide_sub).symm
    refine ⟨_, rfl, _, rfl, _, rfl, a, _, rfl, h0, d, l, _, rfl, ?_, ?_, D, fun r H1 r0 r1 e D1 => ?_⟩
    · omega
    · exact small_bits (by omega) (by omega)
    obtain ⟨k, rfl⟩ : ∃ k : Nat, r = (k : Int) := ⟨r.toNat, by omega⟩
    have hk : k < xs.length := by omega
    have ha1 : SqAny K H1 a xs := (ha.same e.hide).same hide_sub
    have fin := q _ _ (List.getElem_mem hk) e D1
    have ix : atI xs (k : Int) = some xs[k] := atI_nat (List.getElem?_eq_getElem hk)
    rcases ha1 with h | h
    · exact .inr (.inl ⟨a, _, _, xs[k], rfl, rfl, h, ix, fin⟩)
    · exact .inl ⟨a, _, _, xs[k], rfl, rfl, h, ix, fin⟩
theorem cp39 : CPow 10 39 := ⟨by decide, by decide, by decide⟩
theorem cp20 : CPow 10 20 := ⟨by decide, by decide, by decide⟩
def anyB : Nat → Nat
  | 0 => 40
  | 1 => 200
  | _ => 800
def spAny (K : PySem.W.Frag) (n : Nat) : Sp := fun vs H Q _ => ∃ (d l : Addr), vs = [.ref d, .int (n : Int)] ∧ Deck kL H d l ∧
  ∀ (x : V) (dd : PyData) H', But d l H H' → Deck kL H' d l → Dq K (newer H H') x dd → Sz (anyB n) (2 * n + 2) dd → Q x H'
theorem ok_anyF (T : Txt K mg) : FnOk P w K mg base CX0 1 T.a__law_any T.d__law_any P__law_any (fun _ _ _ _ => False) where
  len := fun _ _ _ _ h => h.elim
  run := by
    intros
    rename_i h
    exact h.elim
theorem merge2 {L : Addr} {n : Int} : mergeK [] [((.inr "key" : Key), V.ref L), (.inl 1, .int n)] = [(.inr "key", .ref L), (.inl 1, .int n)] := by
  unfold mergeK
  simp [putK]
theorem ok_any0 (T : Txt K mg) : FnOk P w K mg base CX0 (2 + 1) T.a__law_any T.d__law_any P__law_any (spAny K 0) := by
  refine T.F__law_any.ok sc__law_any (fun vs H Q E h => ?_) (fun cdv A outer s H vs Q E hr h => ?_)
  · obtain ⟨d, l, rfl, _⟩ := h
    rfl
  · obtain ⟨d, l, rfl, D, q⟩ := h
    refine ⟨_, 
      (pss_cons (ps_set (i := 2) sc__law_any.nd rfl (Or.inl rfl) (pe_call (ok__law_draw T) (hr.mono (by decide)) rfl T.m__law_draw T.F__law_draw.kp T.b__law_draw .nil pass0 (pa_cons (pv 0) (pa_cons pe_int pa_nil))))
      (pss_cons (ps_if (pt_cmpR op_lt (pv 2) pe_int (nomark _)) (pss_one (ps_ret (pe_call (ok__law_pick T) (hr.mono (by decide)) rfl T.m__law_pick T.F__law_pick.kp T.b__law_pick .nil pass0 (pa_cons (pv 0) (pa_cons (pe_lst (pa_cons pe_int (pa_cons pe_int (pa_cons (pe_un un_neg pe_int) (pa_cons pe_int (pa_cons pe_int (pa_cons pe_int (pa_cons pe_int (pa_cons pe_int (pa_cons (pe_op op_pow pe_int pe_int) (pa_cons (pe_un un_neg (pe_op op_pow pe_int pe_int)) pa_nil))))))))))) pa_nil))))) pss_nil)
      (pss_cons (ps_if (pt_cmpR op_eq (pv 2) pe_int (nomark _)) (pss_one (ps_ret (pe_call (ok__law_pick T) (hr.mono (by decide)) rfl T.m__law_pick T.F__law_pick.kp T.b__law_pick .nil pass0 (pa_cons (pv 0) (pa_cons (pe_lst (pa_cons pe_str (pa_cons pe_str (pa_cons pe_str (pa_cons pe_str (pa_cons pe_str (pa_cons pe_str pa_nil))))))) pa_nil))))) pss_nil)
      (pss_cons (ps_if (pt_cmpR op_eq (pv 2) pe_int (nomark _)) (pss_one (ps_ret (pe_call (ok__law_pick T) (hr.mono (by decide)) rfl T.m__law_pick T.F__law_pick.kp T.b__law_pick .nil pass0 (pa_cons (pv 0) (pa_cons (pe_lst (pa_cons pe_bl (pa_cons pe_bl (pa_cons pe_non pa_nil)))) pa_nil))))) pss_nil)
      (pss_cons (ps_set (i := 3) sc__law_any.nd rfl (Or.inl rfl) (pe_ifExp (pt_cmpR op_gt (pv 1) pe_int (nomark _)) (pe_lc (own := [("_law_turn", 4)]) (g := gName 4) (tt := tYes) rfl sc__law_any.nd (pi_range1 rfl T.m_range (pa_cons (pe_call (ok__law_draw T) (hr.mono (by decide)) rfl T.m__law_draw T.F__law_draw.kp T.b__law_draw .nil pass0 (pa_cons (pv 0) (pa_cons pe_int pa_nil))) pa_nil)) (blkOk_by (own := [("_law_turn", 4)]) (N := N__law_any) (sc := (defScope s__law_any)) (by decide +kernel)) (fun _ _ _ _ _ => (pg_name (i := 4) sc__law_any.nd rfl (Or.inl rfl))) (fun _ _ _ _ _ => pts_nil) (fun _ _ _ _ _ => (pe_call (ok_anyF T) (hr.mono (by decide)) rfl T.m__law_any T.F__law_any.kp T.b__law_any .nil pass0 (pa_cons (pv 0) (pa_cons (pe_op op_sub (pv 1) pe_int) pa_nil))))) (pe_lst pa_nil)))
      (pss_cons (ps_if (pt_cmpR op_eq (pv 2) pe_int (nomark _)) (pss_one (ps_ret (pv 3))) pss_nil)
      (pss_one (ps_ret (pe_ifExp (pt_cmpR op_eq (pv 2) pe_int (nomark _)) (pe_disp (pps_cons pe_str (pv 3) (pps_cons pe_int (pe_callB call_len_seq (by rfl) T.m_len (by decide +kernel) (pa_cons (pv 3) pa_nil)) pps_nil)) (by rfl) (by rfl) (fun z => by cases z) (by decide)) (pe_callTy call_tuple_of (by rfl) T.m_tuple (by decide +kernel) (pa_cons (pv 3) pa_nil))))))))))), ?_⟩
    refine ⟨_, rfl, d, l, 8, rfl, by decide, by decide, D, fun way H1 w0 w1 e1 D1 => ?_⟩
    refine ⟨_, rfl, _, _, rfl, rfl, _, rfl, ?_⟩
    refine ite2 (fun _ => ?_) (fun _ => ?_)
    · refine ⟨_, rfl, 1, rfl, _, _, rfl, rfl, cp39, _, _, rfl, rfl, cp20, _, rfl, line_s (by decide), fun p hp => ?_⟩
      have s2 := same_upd (o := .lst [.int 0, .int 1, .int (-1), .int 2, .int 3, .int 4, .int 5, .int 7, .int ((10 : Int) ^ (39 : Int).toNat), .int (-((10 : Int) ^ (20 : Int).toNat))]) hp
      have D2 := D1.same s2
      refine ⟨d, l, p, [.int 0, .int 1, .int (-1), .int 2, .int 3, .int 4, .int 5, .int 7, .int ((10 : Int) ^ (39 : Int).toNat), .int (-((10 : Int) ^ (20 : Int).toNat))], rfl, .inr (SqL.of (D1.at_new hp)), by simp, by decide, D2, fun x H3 hx e3 D3 => ?_⟩
      obtain ⟨c, rfl, hc⟩ : ∃ c : Int, x = .int c ∧ c.natAbs < 10 ^ 42 := by
        simp only [List.mem_cons, List.not_mem_nil, or_false] at hx
        rcases hx with rfl | rfl | rfl | rfl | rfl | rfl | rfl | rfl | rfl | rfl <;> exact ⟨_, rfl, by decide⟩
      exact q _ (.int c) _ ((e1.same s2).trans e3) D3 (.int c) (sz_int hc)
    refine ⟨_, rfl, rfl, _, rfl, ?_⟩
    rw [dec_int]
    refine ite2 (fun _ => ?_) (fun _ => ?_)
    · refine ⟨_, rfl, line_s (by decide), fun p hp => ?_⟩
      have s2 := same_upd (o := .lst [.str "", .str "2", .str "a", .str "(0, 1)", .str "1 0 1", .str "~"]) hp
      have D2 := D1.same s2
      refine ⟨d, l, p, [.str "", .str "2", .str "a", .str "(0, 1)", .str "1 0 1", .str "~"], rfl, .inr (SqL.of (D1.at_new hp)), by simp, by decide, D2, fun x H3 hx e3 D3 => ?_⟩
      obtain ⟨c, rfl, hc⟩ : ∃ c : String, x = .str (Str.ofString c) ∧ c.length ≤ 20 := by
        simp only [List.mem_cons, List.not_mem_nil, or_false] at hx
        rcases hx with rfl | rfl | rfl | rfl | rfl | rfl <;> exact ⟨_, rfl, by decide⟩
      exact q _ (.str _) _ ((e1.same s2).trans e3) D3 (.str _) ((sz_text (k := 0) hc).mono (by decide) (by decide))
    refine ⟨_, rfl, rfl, _, rfl, ?_⟩
    rw [dec_int]
    refine ite2 (fun _ => ?_) (fun _ => ?_)
    · refine ⟨_, rfl, line_s (by decide), fun p hp => ?_⟩
      have s2 := same_upd (o := .lst [.bl true, .bl false, .non]) hp
      have D2 := D1.same s2
      refine ⟨d, l, p, [.bl true, .bl false, .non], rfl, .inr (SqL.of (D1.at_new hp)), by simp, by decide, D2, fun x H3 hx e3 D3 => ?_⟩
      simp only [List.mem_cons, List.not_mem_nil, or_false] at hx
      rcases hx with rfl | rfl | rfl
      · exact q _ (.bool true) _ ((e1.same s2).trans e3) D3 (.bl _) sz_bool
      · exact q _ (.bool false) _ ((e1.same s2).trans e3) D3 (.bl _) sz_bool
      · exact q _ .none _ ((e1.same s2).trans e3) D3 .non sz_none
    refine ⟨_, rfl, _, _, rfl, rfl, _, rfl, iteF ⟨line_s (by decide), fun L hL => ?_⟩⟩
    have LH : H L = none := e1.free D1 hL
    have s5 := same_upd (o := .lst []) hL
    have e5 := e1.same s5
    have D5 := D1.same s5
    have hN : (upd H1 L (.lst [])) L = some (.lst []) := upd_same
    generalize upd H1 L (.lst []) = H5 at s5 e5 D5 hN ⊢
    obtain ⟨xs, ds, hxs, hd, hs, lx⟩ : ∃ (xs : List V) (ds : List PyData), xs = [] ∧ DqAll K (newer H H5) xs ds ∧ SzAll 3 0 ds ∧ xs.length ≤ 3 := ⟨[], [], rfl, .nil, szAll_nil, Nat.zero_le _⟩
    rw [← hxs] at hN
    clear hxs
    obtain ⟨L1, L2⟩ := (⟨fun z => D.there.1 (z ▸ LH), fun z => D.there.2 (z ▸ LH)⟩ : L ≠ d ∧ L ≠ l)
    have hNL : newer H H5 L = some (.lst xs) := by rw [newer_at LH]; exact hN
    refine ⟨_, rfl, rfl, _, rfl, ?_⟩
    rw [dec_int]
    refine ite2 (fun _ => ?_) (fun _ => ?_)
    · exact ⟨_, rfl, q _ (.list ds) _ e5 D5 (.lst (SqL.of hNL) hd) ((sz_lst hs).mono (by decide) (by decide))⟩
    refine ⟨_, rfl, rfl, _, rfl, ?_⟩
    rw [dec_int]
    refine ite2 (fun _ => ?_) (fun _ => ?_)
    · intro p hp
      have pL : L ≠ p := ne_of_none hN hp
      have hN6 : (upd H5 p (.dK [])) L = some (.lst xs) := (upd_ne pL).trans hN
      refine ⟨_, rfl, _, rfl, L, xs, rfl, .inl (SqL.of hN6), upd_same, [(.inr "key", .ref L), (.inl 1, .int (xs.length : Int))], rfl, Nat.le_of_ble_eq_true rfl, ?_⟩
      rw [merge2, upd_upd]
      have s6 := same_upd (o := .dK [((.inr "key" : Key), V.ref L), (.inl 1, .int (xs.length : Int))]) hp
      have g6 : Same (newer H H5) (newer H (upd H5 p (.dK [((.inr "key" : Key), V.ref L), (.inl 1, .int (xs.length : Int))]))) := newer_step fun b o _ h2 => s6 _ _ h2
      have pH : H p = none := e5.free D5 hp
      refine q _ (.dict [(.str "key", .list ds), (.int 1, .int (xs.length : Int))]) _ (e5.same s6) (D5.same s6) (.dic (by rw [newer_at pH]; exact upd_same) (.cons (k := .inr "key") (.lst (SqL.of (g6 _ _ hNL)) (DqAll.same g6 _ _ hd)) (.cons (k := .inl 1) (.int _) .nil))) ?_
      exact (sz_dict2 (sz_lst hs) (by decide) (by decide) (by have h42 : (10 : Nat) ^ 42 > 10 := by decide
                                                              omega)).mono (by decide) (by decide)
    · refine ⟨_, rfl, L, xs, rfl, .inl ⟨SqL.of hN, fun p hp => ?_⟩⟩
      have s6 := same_upd (o := .tup xs) hp
      have g6 : Same (newer H H5) (newer H (upd H5 p (.tup xs))) := newer_step fun b o _ h2 => s6 _ _ h2
      have pH : H p = none := e5.free D5 hp
      refine q _ (.tuple ds) _ (e5.same s6) (D5.same s6) (.tup (SqT.of (by rw [newer_at pH]; exact upd_same)) (DqAll.same g6 _ _ hd)) ((sz_tup hs).mono (by decide) (by decide))
theorem ok_any1 (T : Txt K mg) : FnOk P w K mg base CX0 (2 + 2) T.a__law_any T.d__law_any P__law_any (spAny K 1) := by
  refine T.F__law_any.ok sc__law_any (fun vs H Q E h => ?_) (fun cdv A outer s H vs Q E hr h => ?_)
  · obtain ⟨d, l, rfl, _⟩ := h
    rfl
  · obtain ⟨d, l, rfl, D, q⟩ := h
    refine ⟨_, 
      (pss_cons (ps_set (i := 2) sc__law_any.nd rfl (Or.inl rfl) (pe_call (ok__law_draw T) (hr.mono (by decide)) rfl T.m__law_draw T.F__law_draw.kp T.b__law_draw .nil pass0 (pa_cons (pv 0) (pa_cons pe_int pa_nil))))
      (pss_cons (ps_if (pt_cmpR op_lt (pv 2) pe_int (nomark _)) (pss_one (ps_ret (pe_call (ok__law_pick T) (hr.mono (by decide)) rfl T.m__law_pick T.F__law_pick.kp T.b__law_pick .nil pass0 (pa_cons (pv 0) (pa_cons (pe_lst (pa_cons pe_int (pa_cons pe_int (pa_cons (pe_un un_neg pe_int) (pa_cons pe_int (pa_cons pe_int (pa_cons pe_int (pa_cons pe_int (pa_cons pe_int (pa_cons (pe_op op_pow pe_int pe_int) (pa_cons (pe_un un_neg (pe_op op_pow pe_int pe_int)) pa_nil))))))))))) pa_nil))))) pss_nil)
      (pss_cons (ps_if (pt_cmpR op_eq (pv 2) pe_int (nomark _)) (pss_one (ps_ret (pe_call (ok__law_pick T) (hr.mono (by decide)) rfl T.m__law_pick T.F__law_pick.kp T.b__law_pick .nil pass0 (pa_cons (pv 0) (pa_cons (pe_lst (pa_cons pe_str (pa_cons pe_str (pa_cons pe_str (pa_cons pe_str (pa_cons pe_str (pa_cons pe_str pa_nil))))))) pa_nil))))) pss_nil)
      (pss_cons (ps_if (pt_cmpR op_eq (pv 2) pe_int (nomark _)) (pss_one (ps_ret (pe_call (ok__law_pick T) (hr.mono (by decide)) rfl T.m__law_pick T.F__law_pick.kp T.b__law_pick .nil pass0 (pa_cons (pv 0) (pa_cons (pe_lst (pa_cons pe_bl (pa_cons pe_bl (pa_cons pe_non pa_nil)))) pa_nil))))) pss_nil)
      (pss_cons (ps_set (i := 3) sc__law_any.nd rfl (Or.inl rfl) (pe_ifExp (pt_cmpR op_gt (pv 1) pe_int (nomark _)) (pe_lc (own := [("_law_turn", 4)]) (g := gName 4) (tt := tYes) rfl sc__law_any.nd (pi_range1 rfl T.m_range (pa_cons (pe_call (ok__law_draw T) (hr.mono (by decide)) rfl T.m__law_draw T.F__law_draw.kp T.b__law_draw .nil pass0 (pa_cons (pv 0) (pa_cons pe_int pa_nil))) pa_nil)) (blkOk_by (own := [("_law_turn", 4)]) (N := N__law_any) (sc := (defScope s__law_any)) (by decide +kernel)) (fun _ _ _ _ _ => (pg_name (i := 4) sc__law_any.nd rfl (Or.inl rfl))) (fun _ _ _ _ _ => pts_nil) (fun _ _ _ _ _ => (pe_call (ok_any0 T) (hr.mono (by decide)) rfl T.m__law_any T.F__law_any.kp T.b__law_any .nil pass0 (pa_cons (pv 0) (pa_cons (pe_op op_sub (pv 1) pe_int) pa_nil))))) (pe_lst pa_nil)))
      (pss_cons (ps_if (pt_cmpR op_eq (pv 2) pe_int (nomark _)) (pss_one (ps_ret (pv 3))) pss_nil)
      (pss_one (ps_ret (pe_ifExp (pt_cmpR op_eq (pv 2) pe_int (nomark _)) (pe_disp (pps_cons pe_str (pv 3) (pps_cons pe_int (pe_callB call_len_seq (by rfl) T.m_len (by decide +kernel) (pa_cons (pv 3) pa_nil)) pps_nil)) (by rfl) (by rfl) (fun z => by cases z) (by decide)) (pe_callTy call_tuple_of (by rfl) T.m_tuple (by decide +kernel) (pa_cons (pv 3) pa_nil))))))))))), ?_⟩
    refine ⟨_, rfl, d, l, 8, rfl, by decide, by decide, D, fun way H1 w0 w1 e1 D1 => ?_⟩
    refine ⟨_, rfl, _, _, rfl, rfl, _, rfl, ?_⟩
    refine ite2 (fun _ => ?_) (fun _ => ?_)
    · refine ⟨_, rfl, 1, rfl, _, _, rfl, rfl, cp39, _, _, rfl, rfl, cp20, _, rfl, line_s (by decide), fun p hp => ?_⟩
      have s2 := same_upd (o := .lst [.int 0, .int 1, .int (-1), .int 2, .int 3, .int 4, .int 5, .int 7, .int ((10 : Int) ^ (39 : Int).toNat), .int (-((10 : Int) ^ (20 : Int).toNat))]) hp
      have D2 := D1.same s2
      refine ⟨d, l, p, [.int 0, .int 1, .int (-1), .int 2, .int 3, .int 4, .int 5, .int 7, .int ((10 : Int) ^ (39 : Int).toNat), .int (-((10 : Int) ^ (20 : Int).toNat))], rfl, .inr (SqL.of (D1.at_new hp)), by simp, by decide, D2, fun x H3 hx e3 D3 => ?_⟩
      obtain ⟨c, rfl, hc⟩ : ∃ c : Int, x = .int c ∧ c.natAbs < 10 ^ 42 := by
        simp only [List.mem_cons, List.not_mem_nil, or_false] at hx
        rcases hx with rfl | rfl | rfl | rfl | rfl | rfl | rfl | rfl | rfl | rfl <;> exact ⟨_, rfl, by decide⟩
      exact q _ (.int c) _ ((e1.same s2).trans e3) D3 (.int c) (sz_int hc)
    refine ⟨_, rfl, rfl, _, rfl, ?_⟩
    rw [dec_int]
    refine ite2 (fun _ => ?_) (fun _ => ?_)
    · refine ⟨_, rfl, line_s (by decide), fun p hp => ?_⟩
      have s2 := same_upd (o := .lst [.str "", .str "2", .str "a", .str "(0, 1)", .str "1 0 1", .str "~"]) hp
      have D2 := D1.same s2
      refine ⟨d, l, p, [.str "", .str "2", .str "a", .str "(0, 1)", .str "1 0 1", .str "~"], rfl, .inr (SqL.of (D1.at_new hp)), by simp, by decide, D2, fun x H3 hx e3 D3 => ?_⟩
      obtain ⟨c, rfl, hc⟩ : ∃ c : String, x = .str (Str.ofString c) ∧ c.length ≤ 20 := by
        simp only [List.mem_cons, List.not_mem_nil, or_false] at hx
        rcases hx with rfl | rfl | rfl | rfl | rfl | rfl <;> exact ⟨_, rfl, by decide⟩
      exact q _ (.str _) _ ((e1.same s2).trans e3) D3 (.str _) ((sz_text (k := 0) hc).mono (by decide) (by decide))
    refine ⟨_, rfl, rfl, _, rfl, ?_⟩
    rw [dec_int]
    refine ite2 (fun _ => ?_) (fun _ => ?_)
    · refine ⟨_, rfl, line_s (by decide), fun p hp => ?_⟩
      have s2 := same_upd (o := .lst [.bl true, .bl false, .non]) hp
      have D2 := D1.same s2
      refine ⟨d, l, p, [.bl true, .bl false, .non], rfl, .inr (SqL.of (D1.at_new hp)), by simp, by decide, D2, fun x H3 hx e3 D3 => ?_⟩
      simp only [List.mem_cons, List.not_mem_nil, or_false] at hx
      rcases hx with rfl | rfl | rfl
      · exact q _ (.bool true) _ ((e1.same s2).trans e3) D3 (.bl _) sz_bool
      · exact q _ (.bool false) _ ((e1.same s2).trans e3) D3 (.bl _) sz_bool
      · exact q _ .none _ ((e1.same s2).trans e3) D3 .non sz_none
    refine ⟨_, rfl, _, _, rfl, rfl, _, rfl, iteT ?_⟩
    refine ⟨_, rfl, d, l, 4, rfl, by decide, by decide, D1, fun r H2 r0 r1 e2 D2 => ?_⟩
    refine ⟨_, rfl, by omega, by omega, fun L hL => ?_⟩
    have e12 := e1.trans e2
    have LH : H L = none := e12.free D2 hL
    obtain ⟨L1', L2'⟩ := D2.off hL
    refine lc_it (walk_range (lo := 0) (n := r.toNat))
      (fun i H' => But d l H2 H' ∧ Deck kL H' d l ∧ ∃ xs ds, xs.length = i ∧ H' L = some (.lst xs) ∧ DqAll K (newer (upd H2 L (.lst [])) H') xs ds ∧ SzAll (i * (anyB 0 + 1)) (2 * 0 + 2) ds)
      ⟨But.refl.upd hL, D2.upd L1' L2', [], [], rfl, upd_same, .nil, szAll_nil⟩ (fun _ _ _ _ => trivial) ?_ ?_
    · rintro i x _ H' hi ⟨e, D', xs, ds, hn, hN, hd, hs⟩ ⟨rfl, rfl⟩
      have hi4 : i < 4 := by omega
      refine ⟨rfl, ?_⟩
      refine ⟨_, rfl, _, rfl, _, _, rfl, rfl, d, l, rfl, D', fun y dy H4 e4 D4 hy sy => ?_⟩
      have hN4 := e4 _ _ hN L1' L2'
      have fr : ∀ p, H' p = none → (upd H2 L (.lst [])) p = none := fun p z => by
        have pL : p ≠ L := fun w => by
          rw [w, hN] at z
          cases z
        rw [upd_ne pL]
        exact e.free D' z
      have lL : (upd H2 L (.lst [])) L ≠ none := by
        rw [upd_same]
        intro z
        cases z
      refine ⟨xs, hN4, line_le (by omega), (e.trans e4).upd hL, D4.upd L1' L2', xs ++ [y], ds ++ [dy], by rw [List.length_append, hn]; rfl, upd_same, DqAll.app (DqAll.same ?_ _ _ hd) (.cons (Dq.same ?_ _ _ hy) .nil), ?_⟩
      · refine newer_step fun b o h1 h2 => ?_
        have bL : b ≠ L := fun w => lL (w ▸ h1)
        rw [upd_ne bL]
        have hb2 : H2 b = none := by
          rw [upd_ne bL] at h1
          exact h1
        exact e4 b o h2 (fun z => D2.there.1 (z ▸ hb2)) (fun z => D2.there.2 (z ▸ hb2))
      · intro b u z
        obtain ⟨z1, z2⟩ := newer_some z
        have bL : b ≠ L := fun w => by
          rw [w, hN] at z1
          cases z1
        rw [newer_at (fr b z1), upd_ne bL]
        exact z2
      · have := szAll_app hs (szAll_cons sy (szAll_nil (b := 0)))
        refine this.mono ?_ (Nat.le_refl _)
        rw [Nat.succ_mul]
        omega
    rintro H5 ⟨e, D5, xs, ds, hn, hN, hd', hs'⟩
    have e5 := e12.trans e
    have hd : DqAll K (newer H H5) xs ds := by
      refine DqAll.same (newer_mono fun p z => ?_) _ _ hd'
      by_cases pL : p = L
      · rw [pL, upd_same] at z
        cases z
      · rw [upd_ne pL] at z
        exact e12.free D2 z
    have lx : xs.length ≤ 3 := by omega
    have hs : SzAll (3 * (anyB 0 + 1)) (2 * 0 + 2) ds := hs'.mono (Nat.mul_le_mul_right _ (by omega)) (Nat.le_refl _)
    obtain ⟨L1, L2⟩ := (⟨fun z => D.there.1 (z ▸ LH), fun z => D.there.2 (z ▸ LH)⟩ : L ≠ d ∧ L ≠ l)
    have hNL : newer H H5 L = some (.lst xs) := by rw [newer_at LH]; exact hN
    refine ⟨_, rfl, rfl, _, rfl, ?_⟩
    rw [dec_int]
    refine ite2 (fun _ => ?_) (fun _ => ?_)
    · exact ⟨_, rfl, q _ (.list ds) _ e5 D5 (.lst (SqL.of hNL) hd) ((sz_lst hs).mono (by decide) (by decide))⟩
    refine ⟨_, rfl, rfl, _, rfl, ?_⟩
    rw [dec_int]
    refine ite2 (fun _ => ?_) (fun _ => ?_)
    · intro p hp
      have pL : L ≠ p := ne_of_none hN hp
      have hN6 : (upd H5 p (.dK [])) L = some (.lst xs) := (upd_ne pL).trans hN
      refine ⟨_, rfl, _, rfl, L, xs, rfl, .inl (SqL.of hN6), upd_same, [(.inr "key", .ref L), (.inl 1, .int (xs.length : Int))], rfl, Nat.le_of_ble_eq_true rfl, ?_⟩
      rw [merge2, upd_upd]
      have s6 := same_upd (o := .dK [((.inr "key" : Key), V.ref L), (.inl 1, .int (xs.length : Int))]) hp
      have g6 : Same (newer H H5) (newer H (upd H5 p (.dK [((.inr "key" : Key), V.ref L), (.inl 1, .int (xs.length : Int))]))) := newer_step fun b o _ h2 => s6 _ _ h2
      have pH : H p = none := e5.free D5 hp
      refine q _ (.dict [(.str "key", .list ds), (.int 1, .int (xs.length : Int))]) _ (e5.same s6) (D5.same s6) (.dic (by rw [newer_at pH]; exact upd_same) (.cons (k := .inr "key") (.lst (SqL.of (g6 _ _ hNL)) (DqAll.same g6 _ _ hd)) (.cons (k := .inl 1) (.int _) .nil))) ?_
      exact (sz_dict2 (sz_lst hs) (by decide) (by decide) (by have h42 : (10 : Nat) ^ 42 > 10 := by decide
                                                              omega)).mono (by decide) (by decide)
    · refine ⟨_, rfl, L, xs, rfl, .inl ⟨SqL.of hN, fun p hp => ?_⟩⟩
      have s6 := same_upd (o := .tup xs) hp
      have g6 : Same (newer H H5) (newer H (upd H5 p (.tup xs))) := newer_step fun b o _ h2 => s6 _ _ h2
      have pH : H p = none := e5.free D5 hp
      refine q _ (.tuple ds) _ (e5.same s6) (D5.same s6) (.tup (SqT.of (by rw [newer_at pH]; exact upd_same)) (DqAll.same g6 _ _ hd)) ((sz_tup hs).mono (by decide) (by decide))
theorem ok_any2 (T : Txt K mg) : FnOk P w K mg base CX0 (2 + 3) T.a__law_any T.d__law_any P__law_any (spAny K 2) := by
  refine T.F__law_any.ok sc__law_any (fun vs H Q E h => ?_) (fun cdv A outer s H vs Q E hr h => ?_)
  · obtain ⟨d, l, rfl, _⟩ := h
    rfl
  · obtain ⟨d, l, rfl, D, q⟩ := h
    refine ⟨_, 
      (pss_cons (ps_set (i := 2) sc__law_any.nd rfl (Or.inl rfl) (pe_call (ok__law_draw T) (hr.mono (by decide)) rfl T.m__law_draw T.F__law_draw.kp T.b__law_draw .nil pass0 (pa_cons (pv 0) (pa_cons pe_int pa_nil))))
      (pss_cons (ps_if (pt_cmpR op_lt (pv 2) pe_int (nomark _)) (pss_one (ps_ret (pe_call (ok__law_pick T) (hr.mono (by decide)) rfl T.m__law_pick T.F__law_pick.kp T.b__law_pick .nil pass0 (pa_cons (pv 0) (pa_cons (pe_lst (pa_cons pe_int (pa_cons pe_int (pa_cons (pe_un un_neg pe_int) (pa_cons pe_int (pa_cons pe_int (pa_cons pe_int (pa_cons pe_int (pa_cons pe_int (pa_cons (pe_op op_pow pe_int pe_int) (pa_cons (pe_un un_neg (pe_op op_pow pe_int pe_int)) pa_nil))))))))))) pa_nil))))) pss_nil)
      (pss_cons (ps_if (pt_cmpR op_eq (pv 2) pe_int (nomark _)) (pss_one (ps_ret (pe_call (ok__law_pick T) (hr.mono (by decide)) rfl T.m__law_pick T.F__law_pick.kp T.b__law_pick .nil pass0 (pa_cons (pv 0) (pa_cons (pe_lst (pa_cons pe_str (pa_cons pe_str (pa_cons pe_str (pa_cons pe_str (pa_cons pe_str (pa_cons pe_str pa_nil))))))) pa_nil))))) pss_nil)
      (pss_cons (ps_if (pt_cmpR op_eq (pv 2) pe_int (nomark _)) (pss_one (ps_ret (pe_call (ok__law_pick T) (hr.mono (by decide)) rfl T.m__law_pick T.F__law_pick.kp T.b__law_pick .nil pass0 (pa_cons (pv 0) (pa_cons (pe_lst (pa_cons pe_bl (pa_cons pe_bl (pa_cons pe_non pa_nil)))) pa_nil))))) pss_nil)
      (pss_cons (ps_set (i := 3) sc__law_any.nd rfl (Or.inl rfl) (pe_ifExp (pt_cmpR op_gt (pv 1) pe_int (nomark _)) (pe_lc (own := [("_law_turn", 4)]) (g := gName 4) (tt := tYes) rfl sc__law_any.nd (pi_range1 rfl T.m_range (pa_cons (pe_call (ok__law_draw T) (hr.mono (by decide)) rfl T.m__law_draw T.F__law_draw.kp T.b__law_draw .nil pass0 (pa_cons (pv 0) (pa_cons pe_int pa_nil))) pa_nil)) (blkOk_by (own := [("_law_turn", 4)]) (N := N__law_any) (sc := (defScope s__law_any)) (by decide +kernel)) (fun _ _ _ _ _ => (pg_name (i := 4) sc__law_any.nd rfl (Or.inl rfl))) (fun _ _ _ _ _ => pts_nil) (fun _ _ _ _ _ => (pe_call (ok_any1 T) (hr.mono (by decide)) rfl T.m__law_any T.F__law_any.kp T.b__law_any .nil pass0 (pa_cons (pv 0) (pa_cons (pe_op op_sub (pv 1) pe_int) pa_nil))))) (pe_lst pa_nil)))
      (pss_cons (ps_if (pt_cmpR op_eq (pv 2) pe_int (nomark _)) (pss_one (ps_ret (pv 3))) pss_nil)
      (pss_one (ps_ret (pe_ifExp (pt_cmpR op_eq (pv 2) pe_int (nomark _)) (pe_disp (pps_cons pe_str (pv 3) (pps_cons pe_int (pe_callB call_len_seq (by rfl) T.m_len (by decide +kernel) (pa_cons (pv 3) pa_nil)) pps_nil)) (by rfl) (by rfl) (fun z => by cases z) (by decide)) (pe_callTy call_tuple_of (by rfl) T.m_tuple (by decide +kernel) (pa_cons (pv 3) pa_nil))))))))))), ?_⟩
    refine ⟨_, rfl, d, l, 8, rfl, by decide, by decide, D, fun way H1 w0 w1 e1 D1 => ?_⟩
    refine ⟨_, rfl, _, _, rfl, rfl, _, rfl, ?_⟩
    refine ite2 (fun _ => ?_) (fun _ => ?_)
    · refine ⟨_, rfl, 1, rfl, _, _, rfl, rfl, cp39, _, _, rfl, rfl, cp20, _, rfl, line_s (by decide), fun p hp => ?_⟩
      have s2 := same_upd (o := .lst [.int 0, .int 1, .int (-1), .int 2, .int 3, .int 4, .int 5, .int 7, .int ((10 : Int) ^ (39 : Int).toNat), .int (-((10 : Int) ^ (20 : Int).toNat))]) hp
      have D2 := D1.same s2
      refine ⟨d, l, p, [.int 0, .int 1, .int (-1), .int 2, .int 3, .int 4, .int 5, .int 7, .int ((10 : Int) ^ (39 : Int).toNat), .int (-((10 : Int) ^ (20 : Int).toNat))], rfl, .inr (SqL.of (D1.at_new hp)), by simp, by decide, D2, fun x H3 hx e3 D3 => ?_⟩
      obtain ⟨c, rfl, hc⟩ : ∃ c : Int, x = .int c ∧ c.natAbs < 10 ^ 42 := by
        simp only [List.mem_cons, List.not_mem_nil, or_false] at hx
        rcases hx with rfl | rfl | rfl | rfl | rfl | rfl | rfl | rfl | rfl | rfl <;> exact ⟨_, rfl, by decide⟩
      exact q _ (.int c) _ ((e1.same s2).trans e3) D3 (.int c) (sz_int hc)
    refine ⟨_, rfl, rfl, _, rfl, ?_⟩
    rw [dec_int]
    refine ite2 (fun _ => ?_) (fun _ => ?_)
    · refine ⟨_, rfl, line_s (by decide), fun p hp => ?_⟩
      have s2 := same_upd (o := .lst [.str "", .str "2", .str "a", .str "(0, 1)", .str "1 0 1", .str "~"]) hp
      have D2 := D1.same s2
      refine ⟨d, l, p, [.str "", .str "2", .str "a", .str "(0, 1)", .str "1 0 1", .str "~"], rfl, .inr (SqL.of (D1.at_new hp)), by simp, by decide, D2, fun x H3 hx e3 D3 => ?_⟩
      obtain ⟨c, rfl, hc⟩ : ∃ c : String, x = .str (Str.ofString c) ∧ c.length ≤ 20 := by
        simp only [List.mem_cons, List.not_mem_nil, or_false] at hx
        rcases hx with rfl | rfl | rfl | rfl | rfl | rfl <;> exact ⟨_, rfl, by decide⟩
      exact q _ (.str _) _ ((e1.same s2).trans e3) D3 (.str _) ((sz_text (k := 0) hc).mono (by decide) (by decide))
    refine ⟨_, rfl, rfl, _, rfl, ?_⟩
    rw [dec_int]
    refine ite2 (fun _ => ?_) (fun _ => ?_)
    · refine ⟨_, rfl, line_s (by decide), fun p hp => ?_⟩
      have s2 := same_upd (o := .lst [.bl true, .bl false, .non]) hp
      have D2 := D1.same s2
      refine ⟨d, l, p, [.bl true, .bl false, .non], rfl, .inr (SqL.of (D1.at_new hp)), by simp, by decide, D2, fun x H3 hx e3 D3 => ?_⟩
      simp only [List.mem_cons, List.not_mem_nil, or_false] at hx
      rcases hx with rfl | rfl | rfl
      · exact q _ (.bool true) _ ((e1.same s2).trans e3) D3 (.bl _) sz_bool
      · exact q _ (.bool false) _ ((e1.same s2).trans e3) D3 (.bl _) sz_bool
      · exact q _ .none _ ((e1.same s2).trans e3) D3 .non sz_none
    refine ⟨_, rfl, _, _, rfl, rfl, _, rfl, iteT ?_⟩
    refine ⟨_, rfl, d, l, 4, rfl, by decide, by decide, D1, fun r H2 r0 r1 e2 D2 => ?_⟩
    refine ⟨_, rfl, by omega, by omega, fun L hL => ?_⟩
    have e12 := e1.trans e2
    have LH : H L = none := e12.free D2 hL
    obtain ⟨L1', L2'⟩ := D2.off hL
    refine lc_it (walk_range (lo := 0) (n := r.toNat))
      (fun i H' => But d l H2 H' ∧ Deck kL H' d l ∧ ∃ xs ds, xs.length = i ∧ H' L = some (.lst xs) ∧ DqAll K (newer (upd H2 L (.lst [])) H') xs ds ∧ SzAll (i * (anyB 1 + 1)) (2 * 1 + 2) ds)
      ⟨But.refl.upd hL, D2.upd L1' L2', [], [], rfl, upd_same, .nil, szAll_nil⟩ (fun _ _ _ _ => trivial) ?_ ?_
    · rintro i x _ H' hi ⟨e, D', xs, ds, hn, hN, hd, hs⟩ ⟨rfl, rfl⟩
      have hi4 : i < 4 := by omega
      refine ⟨rfl, ?_⟩
      refine ⟨_, rfl, _, rfl, _, _, rfl, rfl, d, l, rfl, D', fun y dy H4 e4 D4 hy sy => ?_⟩
      have hN4 := e4 _ _ hN L1' L2'
      have fr : ∀ p, H' p = none → (upd H2 L (.lst [])) p = none := fun p z => by
        have pL : p ≠ L := fun w => by
          rw [w, hN] at z
          cases z
        rw [upd_ne pL]
        exact e.free D' z
      have lL : (upd H2 L (.lst [])) L ≠ none := by
        rw [upd_same]
        intro z
        cases z
      refine ⟨xs, hN4, line_le (by omega), (e.trans e4).upd hL, D4.upd L1' L2', xs ++ [y], ds ++ [dy], by rw [List.length_append, hn]; rfl, upd_same, DqAll.app (DqAll.same ?_ _ _ hd) (.cons (Dq.same ?_ _ _ hy) .nil), ?_⟩
      · refine newer_step fun b o h1 h2 => ?_
        have bL : b ≠ L := fun w => lL (w ▸ h1)
        rw [upd_ne bL]
        have hb2 : H2 b = none := by
          rw [upd_ne bL] at h1
          exact h1
        exact e4 b o h2 (fun z => D2.there.1 (z ▸ hb2)) (fun z => D2.there.2 (z ▸ hb2))
      · intro b u z
        obtain ⟨z1, z2⟩ := newer_some z
        have bL : b ≠ L := fun w => by
          rw [w, hN] at z1
          cases z1
        rw [newer_at (fr b z1), upd_ne bL]
        exact z2
      · have := szAll_app hs (szAll_cons sy (szAll_nil (b := 0)))
        refine this.mono ?_ (Nat.le_refl _)
        rw [Nat.succ_mul]
        omega
    rintro H5 ⟨e, D5, xs, ds, hn, hN, hd', hs'⟩
    have e5 := e12.trans e
    have hd : DqAll K (newer H H5) xs ds := by
      refine DqAll.same (newer_mono fun p z => ?_) _ _ hd'
      by_cases pL : p = L
      · rw [pL, upd_same] at z
        cases z
      · rw [upd_ne pL] at z
        exact e12.free D2 z
    have lx : xs.length ≤ 3 := by omega
    have hs : SzAll (3 * (anyB 1 + 1)) (2 * 1 + 2) ds := hs'.mono (Nat.mul_le_mul_right _ (by omega)) (Nat.le_refl _)
    obtain ⟨L1, L2⟩ := (⟨fun z => D.there.1 (z ▸ LH), fun z => D.there.2 (z ▸ LH)⟩ : L ≠ d ∧ L ≠ l)
    have hNL : newer H H5 L = some (.lst xs) := by rw [newer_at LH]; exact hN
    refine ⟨_, rfl, rfl, _, rfl, ?_⟩
    rw [dec_int]
    refine ite2 (fun _ => ?_) (fun _ => ?_)
    · exact ⟨_, rfl, q _ (.list ds) _ e5 D5 (.lst (SqL.of hNL) hd) ((sz_lst hs).mono (by decide) (by decide))⟩
    refine ⟨_, rfl, rfl, _, rfl, ?_⟩
    rw [dec_int]
    refine ite2 (fun _ => ?_) (fun _ => ?_)
    · intro p hp
      have pL : L ≠ p := ne_of_none hN hp
      have hN6 : (upd H5 p (.dK [])) L = some (.lst xs) := (upd_ne pL).trans hN
      refine ⟨_, rfl, _, rfl, L, xs, rfl, .inl (SqL.of hN6), upd_same, [(.inr "key", .ref L), (.inl 1, .int (xs.length : Int))], rfl, Nat.le_of_ble_eq_true rfl, ?_⟩
      rw [merge2, upd_upd]
      have s6 := same_upd (o := .dK [((.inr "key" : Key), V.ref L), (.inl 1, .int (xs.length : Int))]) hp
      have g6 : Same (newer H H5) (newer H (upd H5 p (.dK [((.inr "key" : Key), V.ref L), (.inl 1, .int (xs.length : Int))]))) := newer_step fun b o _ h2 => s6 _ _ h2
      have pH : H p = none := e5.free D5 hp
      refine q _ (.dict [(.str "key", .list ds), (.int 1, .int (xs.length : Int))]) _ (e5.same s6) (D5.same s6) (.dic (by rw [newer_at pH]; exact upd_same) (.cons (k := .inr "key") (.lst (SqL.of (g6 _ _ hNL)) (DqAll.same g6 _ _ hd)) (.cons (k := .inl 1) (.int _) .nil))) ?_
      exact (sz_dict2 (sz_lst hs) (by decide) (by decide) (by have h42 : (10 : Nat) ^ 42 > 10 := by decide
                                                              omega)).mono (by decide) (by decide)
    · refine ⟨_, rfl, L, xs, rfl, .inl ⟨SqL.of hN, fun p hp => ?_⟩⟩
      have s6 := same_upd (o := .tup xs) hp
      have g6 : Same (newer H H5) (newer H (upd H5 p (.tup xs))) := newer_step fun b o _ h2 => s6 _ _ h2
      have pH : H p = none := e5.free D5 hp
      refine q _ (.tuple ds) _ (e5.same s6) (D5.same s6) (.tup (SqT.of (by rw [newer_at pH]; exact upd_same)) (DqAll.same g6 _ _ hd)) ((sz_tup hs).mono (by decide) (by decide))
end
end K11
end
section
set_option maxRecDepth 100000
set_option maxHeartbeats 4000000
namespace K11
open PySem PySem.Spec PyProof.Rows L2 MB LM
open LamX hiding takes0
def wby (q a b : Int) : Int := if q = 4 then (if inV (.int 0) [.int a, .int b] = true then 0 else 1 + (a + b - 2) % 3) else (a * b).fmod q
theorem letsN {q : Int} (h : LetQ q) : ∃ n : Nat, q = (n : Int) ∧ 2 ≤ n ∧ n < 6 := ⟨q.toNat, by have := h.lo; omega, by have := h.lo; omega, by have := h.hi; omega⟩
theorem letN {n : Nat} {a : Int} (h : IsLet (n : Int) a) : ∃ m : Nat, a = (m : Int) ∧ m < n := ⟨a.toNat, by have := h.1; omega, by have := h.1; have := h.2; omega⟩
theorem by_eq {q a b : Int} (hq : LetQ q) (ha : IsLet q a) (hb : IsLet q b) : wby q a b = ltim q a b := by
  obtain ⟨n, rfl, n2, n6⟩ := letsN hq
  obtain ⟨x, rfl, hx⟩ := letN ha
  obtain ⟨y, rfl, hy⟩ := letN hb
  have all : ∀ n : Nat, n < 6 → ∀ x : Nat, x < n → ∀ y : Nat, y < n → 2 ≤ n → wby (n : Int) (x : Int) (y : Int) = ltim (n : Int) (x : Int) (y : Int) := by decide +kernel
  exact all n n6 x hx y hy n2
section
variable {w : World} {K : PySem.W.Frag} {mg : Str → Option Value} {base : Heap}
def spWby (K : PySem.W.Frag) : Sp := fun vs H Q _ => ∃ q a b : Int, vs = [.int q, .int a, .int b] ∧ LetQ q ∧ IsLet q a ∧ IsLet q b ∧ ∀ H', Same H H' → Q (.int (wby q a b)) H'
theorem ok__law_by (T : Txt K mg) : FnOk P w K mg base CX0 1 T.a__law_by T.d__law_by P__law_by (spWby K) := by
  refine T.F__law_by.ok sc__law_by (fun vs H Q E h => ?_) (fun cdv A outer s H vs Q E hr h => ?_)
  · obtain ⟨q, a, b, rfl, _⟩ := h
    rfl
  · obtain ⟨q, a, b, rfl, ⟨q2, q5⟩, ⟨a0, a1⟩, ⟨b0, b1⟩, k⟩ := h
    refine ⟨_, 
      (pss_cons (ps_if (pt_cmpR op_ne (pv 0) pe_int (nomark _)) (pss_one (ps_ret (pe_op op_modN (pe_callTy call_int1 (by rfl) T.m_int (by decide +kernel) (pa_cons (pe_op op_mulW (pv 1) (pv 2)) pa_nil)) (pv 0)))) pss_nil)
      (pss_one (ps_ret (pe_ifExp (pt_cmpR (show OpR _ _ (rIn K false) from op_in_seq) pe_int (pe_tup (pa_cons (pv 1) (pa_cons (pv 2) pa_nil))) rfl) pe_int (pe_op op_add pe_int (pe_op op_mod (pe_callTy call_int1 (by rfl) T.m_int (by decide +kernel) (pa_cons (pe_op op_sub (pe_op op_add (pv 1) (pv 2)) pe_int) pa_nil)) pe_int)))))), ?_⟩
    refine ⟨_, rfl, rfl, _, rfl, ?_⟩
    rw [dec_int]
    unfold wby at k
    by_cases e : q = 4
    · rw [decide_eq_true e]
      rw [if_pos e] at k
      refine iteF ?_
      refine ⟨_, rfl, _, rfl, line_s (Nat.le_of_ble_eq_true rfl), fun p hp => ?_⟩
      refine ⟨p, [.int a, .int b], rfl, .inr (SqT.of upd_same), rfl, rfl, ?_⟩
      have z := k _ (same_upd (o := .tup [.int a, .int b]) hp)
      refine ⟨_, rfl, ?_⟩
      refine ite2 (fun c => ?_) (fun c => ?_)
      · rw [if_pos (show inV (.int 0) [.int a, .int b] = true from c)] at z
        exact z
      · rw [if_neg (show ¬ inV (.int 0) [.int a, .int b] = true from c)] at z
        refine ⟨_, rfl, _, rfl, _, _, rfl, rfl, _, _, rfl, rfl, .inl ⟨_, rfl, ?_⟩⟩
        exact ⟨_, _, rfl, rfl, (by decide : (0 : Int) < 3), _, _, rfl, rfl, z⟩
    · rw [decide_eq_false e]
      rw [if_neg e] at k
      refine iteT ?_
      refine ⟨_, rfl, _, rfl, _, _, rfl, rfl, wide_mul (a := 3) (b := 3) (by omega) (by omega) (by decide) (by decide) (by decide), .inl ⟨_, rfl, ?_⟩⟩
      exact ⟨_, rfl, _, _, rfl, rfl, (by omega : q ≠ 0), k H (Same.refl _)⟩
def spPlus (K : PySem.W.Frag) : Sp := fun vs H Q _ => ∃ (q : Int) (u v : V) (ns ms : List Int), vs = [.int q, u, v] ∧ LetQ q ∧ TI K H u ns ∧ TI K H v ms ∧ ns.length ≤ 1000 ∧
  ∀ z H', Same H H' → TI K H' z (List.zipWith (lsum q) ns ms) → Q z H'
theorem ok__law_plus (T : Txt K mg) : FnOk P w K mg base CX0 1 T.a__law_plus T.d__law_plus P__law_plus (spPlus K) := by
  refine T.F__law_plus.ok sc__law_plus (fun vs H Q E h => ?_) (fun cdv A outer s H vs Q E hr h => ?_)
  · obtain ⟨q, u, v, ns, ms, rfl, _⟩ := h
    rfl
  · obtain ⟨q, _, _, ns, ms, rfl, hq, ⟨a, rfl, ha⟩, ⟨b, rfl, hb⟩, hl, k⟩ := h
    refine ⟨_, 
      (pss_cons (ps_if (pt_cmpR op_eq (pv 0) pe_int (nomark _)) (pss_one (ps_ret (pe_callTy call_tuple_of (by rfl) T.m_tuple (by decide +kernel) (pa_cons (pe_lc (own := [("_law_x", 3), ("_law_y", 4)]) (g := gTup K 2 (gCons (gName 3) (gCons (gName 4) gNil))) (tt := tYes) rfl sc__law_plus.nd (RZ.pi_zipA (by rfl) T.m_zip (pa_cons (pv 1) (pa_cons (pv 2) pa_nil))) (blkOk_by (own := [("_law_x", 3), ("_law_y", 4)]) (N := N__law_plus) (sc := (defScope s__law_plus)) (by decide +kernel)) (fun _ _ _ _ _ => (pg_tup rfl (pgs_cons (pg_name (i := 3) sc__law_plus.nd rfl (Or.inl rfl)) (pgs_cons (pg_name (i := 4) sc__law_plus.nd rfl (Or.inl rfl)) pgs_nil)))) (fun _ _ _ _ _ => pts_nil) (fun _ _ _ _ _ => (pe_op op_xor (pv 3) (pv 4)))) pa_nil)))) pss_nil)
      (pss_one (ps_ret (pe_callTy call_tuple_of (by rfl) T.m_tuple (by decide +kernel) (pa_cons (pe_lc (own := [("_law_x", 3), ("_law_y", 4)]) (g := gTup K 2 (gCons (gName 3) (gCons (gName 4) gNil))) (tt := tYes) rfl sc__law_plus.nd (RZ.pi_zipA (by rfl) T.m_zip (pa_cons (pv 1) (pa_cons (pv 2) pa_nil))) (blkOk_by (own := [("_law_x", 3), ("_law_y", 4)]) (N := N__law_plus) (sc := (defScope s__law_plus)) (by decide +kernel)) (fun _ _ _ _ _ => (pg_tup rfl (pgs_cons (pg_name (i := 3) sc__law_plus.nd rfl (Or.inl rfl)) (pgs_cons (pg_name (i := 4) sc__law_plus.nd rfl (Or.inl rfl)) pgs_nil)))) (fun _ _ _ _ _ => pts_nil) (fun _ _ _ _ _ => (pe_op op_modN (pe_callTy call_int1 (by rfl) T.m_int (by decide +kernel) (pa_cons (pe_op op_add (pv 3) (pv 4)) pa_nil)) (pv 0)))) pa_nil))))), ?_⟩
    have q2 := hq.lo
    refine ⟨_, rfl, rfl, _, rfl, ?_⟩
    rw [dec_int]
    by_cases e4 : q = 4
    · rw [decide_eq_true e4]
      refine iteT ?_
      refine ⟨_, rfl, _, rfl, a, b, _, _, rfl, .inr ⟨ha, hb, ?_⟩⟩
      refine fun D hD => lc_it (walk_zipT (K := K) (a := a) (b := b) (xs := ns.map V.int) (ys := ms.map V.int) rfl)
        (fun i H' => Same H H' ∧ H' D = some (.lst (((List.zipWith (lsum q) ns ms).take i).map V.int)))
        ⟨same_upd hD, by rw [upd_same]; simp⟩ (fun i H' _ ⟨e, _⟩ => ⟨e.tup ha, e.tup hb⟩) ?_ ?_
      · rintro i v H' H'' hi ⟨e, hacc⟩ ⟨T0, x, y, rfl, hT0, rfl, hx, hy⟩
        obtain ⟨c, hc, rfl⟩ := int_at hx
        obtain ⟨d, hd, rfl⟩ := int_at hy
        have hiL : i < ns.length := (List.getElem?_eq_some_iff.mp hc).1
        refine ⟨T0, _, rfl, SqT.of upd_same, rfl, _, _, rfl, _, _, rfl, rfl, rfl, ?_⟩
        refine ⟨_, rfl, _, rfl, _, _, rfl, rfl, _, (upd_ne (ne_of_none hacc hT0)).trans hacc, ?_, ?_, ?_⟩
        · rw [List.length_map, List.length_take]
          exact line_le (by omega)
        · exact same_set hD (e.trans (same_upd hT0))
        · rw [upd_same, List.take_add_one, List.getElem?_zipWith, hc, hd]
          have : lsum q c d = Builtin.bitXor c d := if_pos e4
          simp [this]
      · rintro H' ⟨e, hacc⟩
        rw [List.length_map, List.length_map, List.take_of_length_le (by rw [List.length_zipWith]; exact Nat.le_refl _)] at hacc
        refine ⟨D, _, rfl, .inl ⟨SqL.of hacc, fun p8 hp8 => ?_⟩⟩
        exact k _ _ (e.trans (same_upd hp8)) ⟨p8, rfl, SqT.of upd_same⟩
    · rw [decide_eq_false e4]
      refine iteF ?_
      refine ⟨_, rfl, _, rfl, a, b, _, _, rfl, .inr ⟨ha, hb, ?_⟩⟩
      refine fun D hD => lc_it (walk_zipT (K := K) (a := a) (b := b) (xs := ns.map V.int) (ys := ms.map V.int) rfl)
        (fun i H' => Same H H' ∧ H' D = some (.lst (((List.zipWith (lsum q) ns ms).take i).map V.int)))
        ⟨same_upd hD, by rw [upd_same]; simp⟩ (fun i H' _ ⟨e, _⟩ => ⟨e.tup ha, e.tup hb⟩) ?_ ?_
      · rintro i v H' H'' hi ⟨e, hacc⟩ ⟨T0, x, y, rfl, hT0, rfl, hx, hy⟩
        obtain ⟨c, hc, rfl⟩ := int_at hx
        obtain ⟨d, hd, rfl⟩ := int_at hy
        have hiL : i < ns.length := (List.getElem?_eq_some_iff.mp hc).1
        refine ⟨T0, _, rfl, SqT.of upd_same, rfl, _, _, rfl, _, _, rfl, rfl, rfl, ?_⟩
        refine ⟨_, rfl, _, rfl, _, _, rfl, rfl, .inl ⟨_, rfl, ?_⟩⟩
        refine ⟨_, rfl, _, _, rfl, rfl, (by omega : q ≠ 0), _, (upd_ne (ne_of_none hacc hT0)).trans hacc, ?_, ?_, ?_⟩
        · rw [List.length_map, List.length_take]
          exact line_le (by omega)
        · exact same_set hD (e.trans (same_upd hT0))
        · rw [upd_same, List.take_add_one, List.getElem?_zipWith, hc, hd]
          have : lsum q c d = (c + d).fmod q := if_neg e4
          simp [this]
      · rintro H' ⟨e, hacc⟩
        rw [List.length_map, List.length_map, List.take_of_length_le (by rw [List.length_zipWith]; exact Nat.le_refl _)] at hacc
        refine ⟨D, _, rfl, .inl ⟨SqL.of hacc, fun p8 hp8 => ?_⟩⟩
        exact k _ _ (e.trans (same_upd hp8)) ⟨p8, rfl, SqT.of upd_same⟩
end
end K11
end
section
set_option maxRecDepth 100000
set_option maxHeartbeats 4000000
namespace MB
open PySem PySem.Spec PyProof.Rows L2
def ItM (K : PySem.W.Frag) (a b : Addr) : It where
  go := fun i H => ∃ (xs ys : List V) (x y : V), SqT K H a xs ∧ SqL K H b ys ∧ xs[i]? = some x ∧ ys[i]? = some y
  yld := fun i H v H' => ∃ T x y, v = .ref T ∧ H T = none ∧ H' = upd H T (.tup [x, y]) ∧ (∀ xs, SqT K H a xs → xs[i]? = some x) ∧ ∀ ys, SqL K H b ys → ys[i]? = some y
  stop := fun i H => ∃ xs ys : List V, SqT K H a xs ∧ SqL K H b ys ∧ i = xs.length ∧ i ≤ ys.length
def five (N : Nat) : List Addr := [N + 4, N + 2, N + 3, N, N + 1]
structure AtM (N a b : Addr) (i : Nat) (h : Heap) : Prop where
  z : IsZip h (N + 4) (N + 2) (N + 3) .none
  ti : IsTupOf2 h (N + 2) (.ref N) (.ref (N + 1))
  to : ∃ x y, IsTupOf2 h (N + 3) x y
  s1 : h.IsTupleIter N a i
  s2 : h.IsListIter (N + 1) b i
theorem mem_five {N : Nat} {c : Addr} (h : c ∈ five N) : c = N + 4 ∨ c = N + 2 ∨ c = N + 3 ∨ c = N ∨ c = N + 1 := by
  unfold five at h
  simpa using h
theorem off_five {N : Nat} {c : Addr} (h : c ∉ five N) : c ≠ N + 4 ∧ c ≠ N + 3 ∧ c ≠ N ∧ c ≠ N + 1 := by
  unfold five at h
  simp only [List.mem_cons, List.not_mem_nil, or_false, not_or] at h
  exact ⟨h.1, h.2.2.1, h.2.2.2.1, h.2.2.2.2⟩
theorem ne_add {N k : Nat} (hk : k ≠ 0) : (N + k : Nat) ≠ N := by omega
theorem ne_adds {N j k : Nat} (h : j ≠ k) : (N + j : Nat) ≠ N + k := by omega
theorem turn_M {P : Program} {w : World} {K : PySem.W.Frag} {elts : List Expr} {kk : Nat} {tpos : Pos} {a b : Addr} {N : Nat} (ha : a < N) (hb : b < N) :
    Turn P w K (.Tuple elts kk tpos) (ItM K a b) (five N) (N + 4) (fun i h => AtM N a b i h) := by
  have sep : ZipSep2 (N + 4) (N + 2) (N + 3) N (N + 1) [N, a] [N + 1, b] := zip_sep2 (fp1 := [a]) (fp2 := [b]) (fun c hc => by rw [List.mem_singleton.mp hc]; exact ha) fun c hc => by rw [List.mem_singleton.mp hc]; exact hb
  have na : a ≠ N := Nat.ne_of_lt ha
  have nb : b ≠ N + 1 := Nat.ne_of_lt (Nat.lt_succ_of_lt hb)
  refine
    { mem := by simp [five]
      obj := fun i h st c hc => ?_
      keep := fun i h h' st k => ?_
      item := ?_
      done := ?_
      self := fun A i s Q E st h => wpAny_pyIter_zip st.z h }
  · obtain ⟨x, y, hto⟩ := st.to
    obtain ⟨o1, e1, _, d1⟩ := st.s1
    obtain ⟨o2, e2, _, d2⟩ := st.s2
    rcases mem_five hc with q | q | q | q | q <;> rw [q]
    · exact ⟨_, st.z, fun v r => nomatch r⟩
    · exact ⟨_, st.ti, fun v r => nomatch r⟩
    · exact ⟨_, hto, fun v r => nomatch r⟩
    · exact ⟨o1, e1, fun v r => by rw [d1] at r; cases r⟩
    · exact ⟨o2, e2, fun v r => by rw [d2] at r; cases r⟩
  · obtain ⟨x, y, hto⟩ := st.to
    have km : ∀ c ∈ five N, ∀ o, h.get? c = some o → h'.get? c = some o := fun c hc o e => k c hc o e
    exact ⟨km _ (by simp [five]) _ st.z, km _ (by simp [five]) _ st.ti, ⟨x, y, km _ (by simp [five]) _ hto⟩, st.s1.at fun o e => km _ (by simp [five]) o e, st.s2.at fun o e => km _ (by simp [five]) o e⟩
  · intro X hP hw hK hc i pins s σ H E I hf st hg
    subst hP hw hK
    obtain ⟨x0, y0, hto⟩ := st.to
    obtain ⟨xs, ys, x, y, hqx, hqy, hx, hy⟩ := hg
    obtain ⟨its, rv, p, _⟩ := I.tuple hqx
    obtain ⟨its2, rv2, p2, _⟩ := I.list hqy
    obtain ⟨u, hu, ru⟩ := rv.get hx
    obtain ⟨u2, hu2, ru2⟩ := rv2.get hy
    have hh : X.A.in1.handled = none := I.ok.hd hc
    have lt1 : i < its.toArray.size := by
      rw [List.size_toArray, ← rv.length]
      exact (List.getElem?_eq_some_iff.mp hx).1
    have lt2 : i < its2.toArray.size := by
      rw [List.size_toArray, ← rv2.length]
      exact (List.getElem?_eq_some_iff.mp hy).1
    have zl : N + 4 < s.heap.objs.size := Heap.lt_size st.z
    refine wpAny_pyNext_zipD2_item sep (Draws.tuple hh N a na its.toArray) (Draws.list hh (N + 1) b nb its2.toArray) st.z st.ti hto ⟨st.s1, p⟩ ⟨st.s2, p2.isList⟩ lt1 lt2
      fun w1 w2 h' tk e1 e2 z' to' st1 st2 hT hsz hk => ?_
    obtain rfl : w1 = u := by
      have q : its.toArray[i]? = some u := by simpa using hu
      exact Option.some.inj (e1.symm.trans q)
    obtain rfl : w2 = u2 := by
      have q : its2.toArray[i]? = some u2 := by simpa using hu2
      exact Option.some.inj (e2.symm.trans q)
    refine ⟨_, rfl, wpAny_letOwnedTupleGo_zip (s := { s with heap := h', toks := tk }) z' fun h'' z'' sb => ?_⟩
    have other : ∀ c o, c ≠ N + 4 → h'.get? c = some o → h''.get? c = some o := fun c o n e => (sb.2 c n).trans e
    have hT2 : h''.get? s.heap.objs.size = some { cls := .type "tuple", data := .seq #[w1, w2] } := other _ _ (Nat.ne_of_gt zl) hT
    have new : ObjOk X.prog X.w (upd H s.heap.objs.size (.tup [x, y])) h'' s.heap.objs.size (.tup [x, y]) :=
      ⟨(by decide : 2 ≤ sizeLine), [w1, w2], .cons ru (.cons ru2 .nil), ⟨_, hT2, rfl, _, rfl⟩⟩
    have I1 : Inv X pins σ (upd H s.heap.objs.size (.tup [x, y])) { s with heap := h'', toks := tk } :=
      I.turnedNew (ch := five N) (fun c o n e => by
        obtain ⟨n1, n2, n3, n4⟩ := off_five n
        exact other c o n1 (hk c o n1 n2 n3 n4 e)) hf (Nat.le_refl _) new
    refine ⟨.ref s.heap.objs.size, _, I1, rfl, ⟨_, x, y, rfl, I.hok.fresh (Nat.le_refl _), rfl, fun l hl => by rw [I.tuple_inj hl hqx]; exact hx, fun l hl => by rw [I.list_inj hl hqy]; exact hy⟩, ⟨z'', ?_, ⟨w1, w2, ?_⟩, ?_, ?_⟩, fun c hcm => ?_⟩
    · exact other _ _ sep.TIz (hk _ _ sep.TIz sep.TITO sep.TIi1 sep.TIi2 st.ti)
    · exact other _ _ sep.TOz to'
    · exact st1.1.at fun o e => other _ o (ne_add (by decide)).symm e
    · exact st2.1.at fun o e => other _ o (ne_adds (by decide)) e
    · have lt : c < s.heap.objs.size := by
        rcases mem_five hcm with q | q | q | q | q <;> rw [q] <;> first | exact zl | exact Nat.lt_of_le_of_lt (by omega) zl
      rw [upd_ne (Nat.ne_of_lt lt)]
      exact (hf c hcm).1
  · intro X hP hw hK hc i pins s σ H E I hf st hg
    subst hP hw hK
    obtain ⟨x0, y0, hto⟩ := st.to
    obtain ⟨xs, ys, hqx, hqy, en, le2⟩ := hg
    obtain ⟨its, rv, p, _⟩ := I.tuple hqx
    obtain ⟨its2, rv2, p2, _⟩ := I.list hqy
    have hh : X.A.in1.handled = none := I.ok.hd hc
    have z1 : its.toArray.size = xs.length := by rw [List.size_toArray, ← rv.length]
    have z2 : its2.toArray.size = ys.length := by rw [List.size_toArray, ← rv2.length]
    refine wpAny_pyNext_zipD2_end sep (Draws.tuple hh N a na its.toArray) (Draws.list hh (N + 1) b nb its2.toArray) st.z st.ti hto ⟨st.s1, p⟩ ⟨st.s2, p2.isList⟩ (by omega) (by omega) (.inl (by omega)) fun h' tk hk => ?_
    exact ⟨rfl, I.turnedL (t' := tk) (ch := five N) (fun c o n e => by
      obtain ⟨n1, n2, n3, n4⟩ := off_five n
      exact hk c o n1 n2 n3 n4 e) hf⟩
def iZipM (K : PySem.W.Frag) (ta : TA) : TI := fun σ H R => ta σ H fun vs H1 => ∃ a b xs ys, vs = [.ref a, .ref b] ∧ SqT K H1 a xs ∧ SqL K H1 b ys ∧ R (ItM K a b) H1
theorem pi_zipM {X : Cx} {e e2 : Expr} {ta : TA} {p pos tpos : Pos} {elts : List Expr} {kk : Nat} (hg : Gl X "zip") (hm : X.mg "zip" = none) (ha : PA X [e, e2] ta)
    (hs : starEach [e, e2] X.env = (false, eval e X.env) :: starEach [e2] X.env := by rfl) (hpl : (backTo pos (starEach [e2] X.env)).any (·.1) = false := by rfl) :
    PI X (.Tuple elts kk tpos) (.Call (.Name "zip" p) [e, e2] [] pos) (iZipM X.K ta) := by
  refine ⟨fun pins s σ H R I h => Call_ (ld_blt I hg hm PyProof.Rows.boot_zip (PyProof.Rows.callWith_type1 (thn (ha.run pos pins s σ H _ I h) fun us s1 ⟨vs, H1, I1, r1, a, b, xs, ys, ex, hx, hy, q⟩ => ?_) hs hpl))⟩
  subst ex
  obtain ⟨u1, u2, rfl, r, r'⟩ := vals2 r1
  cases r
  cases r'
  obtain ⟨its, rv, p1, _⟩ := I1.tuple hx
  obtain ⟨its2, rv2, p2, _⟩ := I1.list hy
  refine zip_begins2 (begins_tuple a its.toArray) (begins_list b its2.toArray) p1 p2.isList fun h' z ti to g1 g2 _ hk => wpAny_pyIter_zip z ?_
  have I2 : Inv X pins σ H1 { s1 with heap := h' } := I1.kept (t' := s1.toks) hk
  refine ⟨s1.heap.objs.size + 4, five s1.heap.objs.size, _, _, H1, rfl, I2, turn_M p1.lt p2.lt, ⟨z, ti, ⟨_, _, to⟩, ⟨_, g1, rfl, rfl⟩, ⟨_, g2, rfl, rfl⟩⟩, fun c hc => ?_, q⟩
  have le : s1.heap.objs.size ≤ c := by
    rcases mem_five hc with q | q | q | q | q <;> rw [q] <;> first | exact Nat.le_refl _ | exact Nat.le_add_right _ _
  exact I1.fpOk le (I1.hok.fresh le)
theorem walk_M {K : PySem.W.Frag} {a b : Addr} {xs ys : List V} (hl : xs.length ≤ ys.length) :
    Walk (ItM K a b) xs.length (fun H => SqT K H a xs ∧ SqL K H b ys) (YPair (fun i => xs[i]?) (fun i => ys[i]?)) := by
  refine ⟨fun i _ hi q => ⟨xs, ys, xs[i], ys[i]'(by omega), q.1, q.2, by simp [hi], by simp [show i < ys.length by omega]⟩, fun _ q => ⟨xs, ys, q.1, q.2, rfl, hl⟩, fun i H v H' _ q y => ?_⟩
  obtain ⟨T, x, z, h1, h2, h3, h4, h5⟩ := y
  exact ⟨T, x, z, h1, h2, h3, h4 xs q.1, h5 ys q.2⟩
end MB
end
section
set_option maxRecDepth 100000
set_option maxHeartbeats 4000000
namespace MB
open PySem PySem.Spec PyProof.Rows L2
def iZipB (K : PySem.W.Frag) (ta : TA) : TI := fun σ H R => ta σ H fun vs H1 => ∃ a b xs ys, vs = [.ref a, .ref b] ∧ ((SqL K H1 a xs ∧ SqL K H1 b ys ∧ R (Itz K a b) H1) ∨ (SqT K H1 a xs ∧ SqL K H1 b ys ∧ R (ItM K a b) H1))
theorem pi_zipB {X : Cx} {e e2 : Expr} {ta : TA} {p pos tpos : Pos} {elts : List Expr} {kk : Nat} (hg : Gl X "zip") (hm : X.mg "zip" = none) (ha : PA X [e, e2] ta)
    (hs : starEach [e, e2] X.env = (false, eval e X.env) :: starEach [e2] X.env := by rfl) (hpl : (backTo pos (starEach [e2] X.env)).any (·.1) = false := by rfl) :
    PI X (.Tuple elts kk tpos) (.Call (.Name "zip" p) [e, e2] [] pos) (iZipB X.K ta) := by
  refine ⟨fun pins s σ H R I h => Call_ (ld_blt I hg hm PyProof.Rows.boot_zip (PyProof.Rows.callWith_type1 (thn (ha.run pos pins s σ H _ I h) fun us s1 ⟨vs, H1, I1, r1, a, b, xs, ys, ex, q1⟩ => ?_) hs hpl))⟩
  subst ex
  obtain ⟨u1, u2, rfl, r, r'⟩ := vals2 r1
  cases r
  cases r'
  rcases q1 with ⟨hqx, hqy, q⟩ | ⟨hx, hy, q⟩
  · obtain ⟨its, rv, p1, _⟩ := I1.list hqx
    obtain ⟨its2, rv2, p2, _⟩ := I1.list hqy
    refine call_zip_2 p1.isList p2.isList fun h' hz hTI hTO h1 h2 hsz hk => wpAny_pyIter_zip hz ?_
    have I2 : Inv X pins σ H1 { s1 with heap := h' } := I1.kept (t' := s1.toks) hk
    refine ⟨s1.heap.objs.size + 4, five s1.heap.objs.size, _, _, H1, rfl, I2, turn_zip (PySem.W.ktu_apart s1.heap.objs.size a b p1.lt p2.lt), ⟨hz, hTI, ⟨_, _, hTO⟩, h1, h2⟩, fun c hc => ?_, q⟩
    have le : s1.heap.objs.size ≤ c := by
      rcases mem_five hc with q | q | q | q | q <;> rw [q] <;> first | exact Nat.le_refl _ | exact Nat.le_add_right _ _
    exact I1.fpOk le (I1.hok.fresh le)
  · obtain ⟨its, rv, p1, _⟩ := I1.tuple hx
    obtain ⟨its2, rv2, p2, _⟩ := I1.list hy
    refine zip_begins2 (begins_tuple a its.toArray) (begins_list b its2.toArray) p1 p2.isList fun h' z ti to g1 g2 _ hk => wpAny_pyIter_zip z ?_
    have I2 : Inv X pins σ H1 { s1 with heap := h' } := I1.kept (t' := s1.toks) hk
    refine ⟨s1.heap.objs.size + 4, five s1.heap.objs.size, _, _, H1, rfl, I2, turn_M p1.lt p2.lt, ⟨z, ti, ⟨_, _, to⟩, ⟨_, g1, rfl, rfl⟩, ⟨_, g2, rfl, rfl⟩⟩, fun c hc => ?_, q⟩
    have le : s1.heap.objs.size ≤ c := by
      rcases mem_five hc with q | q | q | q | q <;> rw [q] <;> first | exact Nat.le_refl _ | exact Nat.le_add_right _ _
    exact I1.fpOk le (I1.hok.fresh le)
end MB
end
section
set_option maxRecDepth 100000
set_option maxHeartbeats 4000000
set_option exponentiation.threshold 9000
namespace K11
open PySem PySem.Spec PyProof.Rows L2 MB LM
open LamX hiding takes0
section
variable {w : World} {K : PySem.W.Frag} {mg : Str → Option Value} {base : Heap}
def RowsAs (K : PySem.W.Frag) (H : Hp) (u v : V) (Ls : List (List Int)) (as : List Int) : Prop := (TupRows K H u Ls ∧ ∃ b, v = .ref b ∧ SqL K H b (as.map V.int) ∧ Ls.length ≤ as.length) ∨ ∃ a b vs, u = .ref a ∧ v = .ref b ∧ SqL K H a vs ∧ Paired (TI K H) vs Ls ∧ SqL K H b (as.map V.int)
def spLSum (K : PySem.W.Frag) : Sp := fun vs H Q _ => ∃ (q : Int) (n : Nat) (u v : V) (as : List Int) (Ls : List (List Int)), vs = [.int q, .int (n : Int), u, v] ∧ LetQ q ∧ n ≤ 8 ∧ RowsAs K H u v Ls as ∧ IsRow q as ∧ AllR q n Ls ∧
  ∀ z H', Same H H' → TI K H' z (comb q n as Ls) → Q z H'
theorem ok__law_sum (T : Txt K mg) : FnOk P w K mg base CX0 2 T.a__law_sum T.d__law_sum P__law_sum (spLSum K) := by
  refine T.F__law_sum.ok sc__law_sum (fun vs H Q E h => ?_) (fun cdv A outer s H vs Q E hr h => ?_)
  · obtain ⟨q, n, u, v, as, Ls, rfl, _⟩ := h
    rfl
  · obtain ⟨q, n, u, v, as, Ls, rfl, hq, hn, hRA, hra, hall, k⟩ := h
    refine ⟨_, 
      (pss_cons (ps_set (i := 4) sc__law_sum.nd rfl (Or.inl rfl) (pe_op op_repA (pe_tup (pa_cons pe_int pa_nil)) (pv 1)))
      (pss_cons (ps_for PassesOwn.never rfl (pi_zipB (by rfl) T.m_zip (pa_cons (pv 2) (pa_cons (pv 3) pa_nil))) (pg_tup rfl (pgs_cons (pg_name (i := 5) sc__law_sum.nd rfl (Or.inl rfl)) (pgs_cons (pg_name (i := 6) sc__law_sum.nd rfl (Or.inr rfl)) pgs_nil))) (pss_one (ps_set (i := 4) sc__law_sum.nd rfl (Or.inl rfl) (pe_call (ok__law_plus T) (hr.mono (by decide)) rfl T.m__law_plus T.F__law_plus.kp T.b__law_plus .nil pass0 (pa_cons (pv 0) (pa_cons (pv 4) (pa_cons (pe_callTy call_tuple_of (by rfl) T.m_tuple (by decide +kernel) (pa_cons (pe_lc (own := [("_law_x", 7)]) (g := gName 7) (tt := tYes) rfl sc__law_sum.nd (pi_tup (pv 5)) (blkOk_by (own := [("_law_x", 7)]) (N := N__law_sum) (sc := (defScope s__law_sum)) (by decide +kernel)) (fun _ _ _ _ _ => (pg_name (i := 7) sc__law_sum.nd rfl (Or.inl rfl))) (fun _ _ _ _ _ => pts_nil) (fun _ _ _ _ _ => (pe_call (ok__law_by T) (hr.mono (by decide)) rfl T.m__law_by T.F__law_by.kp T.b__law_by .nil pass0 (pa_cons (pv 0) (pa_cons (pv 6) (pa_cons (pv 7) pa_nil)))))) pa_nil)) pa_nil)))))))
      (pss_one (ps_ret (pv 4))))), ?_⟩
    refine ⟨line_s (Nat.le_of_ble_eq_true rfl), fun p1 hp1 => ⟨_, rfl, rep_rd (c := 0) ⟨p1, rfl, SqT.of upd_same⟩ (by omega) (by omega) fun z1 H1 s1 hz1 => ?_⟩⟩
    have s01 := (same_upd (o := .tup [.int 0]) hp1).trans s1
    rw [Int.toNat_natCast] at hz1
    rcases hRA with ⟨⟨a, vs, rfl, ha, hpr⟩, b, rfl, hb, hle⟩ | ⟨a, b, vs, rfl, rfl, ha, hpr, hb⟩
    · refine ⟨_, rfl, _, rfl, a, b, _, _, rfl, .inr ⟨s01.tup ha, sqL_same s01 hb, ?_⟩⟩
      refine for_it (walk_M (K := K) (a := a) (b := b) (xs := vs) (ys := as.map V.int) (by rw [List.length_map, hpr.length]; exact hle))
        (fun i σ H' => ∃ u5 u6 z, σ = [some (.int q), some (.int (n : Int)), some (.ref a), some (.ref b), some z, u5, u6, none] ∧ Same H H' ∧ TI K H' z (((as.zip Ls).take i).foldl (fun t p => vsum q t (vtim q p.1 p.2)) (zrow n)) ∧
          IsRow q (((as.zip Ls).take i).foldl (fun t p => vsum q t (vtim q p.1 p.2)) (zrow n)) ∧ (((as.zip Ls).take i).foldl (fun t p => vsum q t (vtim q p.1 p.2)) (zrow n)).length = n)
        ⟨none, none, z1, rfl, s01, hz1, zrow_row hq, zrow_len⟩ (fun i σ H' _ ⟨_, _, _, _, e, _⟩ => ⟨e.tup ha, sqL_same e hb⟩) ?_ ?_
      · rintro i x _ H' H'' hi ⟨u5, u6, z, rfl, e, hz, rz, lz⟩ ⟨T0, x1, y1, rfl, hT0, rfl, hx, hy⟩
        obtain ⟨r, hr, ti⟩ := paired_at hpr hx
        obtain ⟨c, hc, rfl⟩ := int_at hy
        obtain ⟨rr, rl⟩ := hall r (List.mem_of_getElem? hr)
        have lc := hra c (List.mem_of_getElem? hc)
        have e1 := e.trans (same_upd (o := .tup [x1, .int c]) hT0)
        obtain ⟨ar, rfl, har⟩ := ti.same e1
        refine ⟨T0, _, rfl, SqT.of upd_same, rfl, _, _, rfl, _, _, rfl, rfl, ?_⟩
        refine ⟨_, rfl, _, rfl, _, rfl, ar, rfl, ⟨_, har⟩, fun D hD => ?_⟩
        refine lc_it (walk_tup (K := K) (a := ar) (xs := r.map V.int))
          (fun j G => Same (upd H' T0 (.tup [.ref ar, .int c])) G ∧ G D = some (.lst (((r.take j).map (ltim q c)).map V.int))) ⟨same_upd hD, upd_same⟩ (fun j G _ ⟨e, _⟩ => e.tup har) ?_ ?_
        · rintro j v _ G hj ⟨e, hN⟩ ⟨rfl, hv⟩
          obtain ⟨d, hd, rfl⟩ := int_at hv
          have ld := rr d (List.mem_of_getElem? hd)
          have hjl : j < r.length := (List.getElem?_eq_some_iff.mp hd).1
          refine ⟨rfl, ?_⟩
          refine ⟨_, rfl, _, rfl, _, rfl, q, c, d, rfl, hq, lc, ld, fun G2 s2 => ?_⟩
          refine ⟨_, s2 _ _ hN, ?_, same_set hD (e.trans s2), ?_⟩
          · rw [List.length_map, List.length_map, List.length_take]
            exact line_le (by omega)
          · rw [upd_same, List.take_add_one, hd, List.map_append, List.map_append, by_eq hq lc ld]
            rfl
        rintro G ⟨sG, hN⟩
        rw [List.length_map, List.take_length] at hN
        refine ⟨D, _, rfl, .inl ⟨SqL.of hN, fun p2 hp2 => ?_⟩⟩
        have s2 := sG.trans (same_upd (o := .tup ((r.map (ltim q c)).map V.int)) hp2)
        refine ⟨q, z, .ref p2, _, r.map (ltim q c), rfl, hq, hz.same ((same_upd hT0).trans s2), ⟨p2, rfl, SqT.of upd_same⟩, by omega, fun z3 H3 s3 hz3 => ?_⟩
        have ez : ((as.zip Ls).take (i + 1)).foldl (fun t p => vsum q t (vtim q p.1 p.2)) (zrow n) = vsum q (((as.zip Ls).take i).foldl (fun t p => vsum q t (vtim q p.1 p.2)) (zrow n)) (vtim q c r) := by
          rw [zip_next hc hr, List.foldl_append]
          rfl
        refine ⟨some (.ref ar), some (.int c), z3, rfl, (e1.trans s2).trans s3, ?_, ?_, ?_⟩
        · rw [ez]
          exact hz3
        · rw [ez]
          exact vsum_row hq rz (vtim_row hq lc rr)
        · rw [ez]
          exact vsum_len lz (by rw [vtim_len, rl])
      · rintro _ H' ⟨u5, u6, z, rfl, e, hz, _⟩
        refine ⟨_, rfl, ?_⟩
        have lm : vs.length = (as.zip Ls).length := by rw [hpr.length, List.length_zip, Nat.min_eq_right hle]
        rw [lm, List.take_length, fold_comb0 hq hra hall] at hz
        exact k z H' e hz
    · refine ⟨_, rfl, _, rfl, a, b, _, _, rfl, .inl ⟨sqL_same s01 ha, sqL_same s01 hb, ?_⟩⟩
      refine for_it (walk_zip (K := K) (a := a) (b := b) (xs := vs) (ys := as.map V.int) rfl)
        (fun i σ H' => ∃ u5 u6 z, σ = [some (.int q), some (.int (n : Int)), some (.ref a), some (.ref b), some z, u5, u6, none] ∧ Same H H' ∧ TI K H' z (((as.zip Ls).take i).foldl (fun t p => vsum q t (vtim q p.1 p.2)) (zrow n)) ∧
          IsRow q (((as.zip Ls).take i).foldl (fun t p => vsum q t (vtim q p.1 p.2)) (zrow n)) ∧ (((as.zip Ls).take i).foldl (fun t p => vsum q t (vtim q p.1 p.2)) (zrow n)).length = n)
        ⟨none, none, z1, rfl, s01, hz1, zrow_row hq, zrow_len⟩ (fun i σ H' _ ⟨_, _, _, _, e, _⟩ => ⟨sqL_same e ha, sqL_same e hb⟩) ?_ ?_
      · rintro i x _ H' H'' hi ⟨u5, u6, z, rfl, e, hz, rz, lz⟩ ⟨T0, x1, y1, rfl, hT0, rfl, hx, hy⟩
        obtain ⟨r, hr, ti⟩ := paired_at hpr hx
        obtain ⟨c, hc, rfl⟩ := int_at hy
        obtain ⟨rr, rl⟩ := hall r (List.mem_of_getElem? hr)
        have lc := hra c (List.mem_of_getElem? hc)
        have e1 := e.trans (same_upd (o := .tup [x1, .int c]) hT0)
        obtain ⟨ar, rfl, har⟩ := ti.same e1
        refine ⟨T0, _, rfl, SqT.of upd_same, rfl, _, _, rfl, _, _, rfl, rfl, ?_⟩
        refine ⟨_, rfl, _, rfl, _, rfl, ar, rfl, ⟨_, har⟩, fun D hD => ?_⟩
        refine lc_it (walk_tup (K := K) (a := ar) (xs := r.map V.int))
          (fun j G => Same (upd H' T0 (.tup [.ref ar, .int c])) G ∧ G D = some (.lst (((r.take j).map (ltim q c)).map V.int))) ⟨same_upd hD, upd_same⟩ (fun j G _ ⟨e, _⟩ => e.tup har) ?_ ?_
        · rintro j v _ G hj ⟨e, hN⟩ ⟨rfl, hv⟩
          obtain ⟨d, hd, rfl⟩ := int_at hv
          have ld := rr d (List.mem_of_getElem? hd)
          have hjl : j < r.length := (List.getElem?_eq_some_iff.mp hd).1
          refine ⟨rfl, ?_⟩
          refine ⟨_, rfl, _, rfl, _, rfl, q, c, d, rfl, hq, lc, ld, fun G2 s2 => ?_⟩
          refine ⟨_, s2 _ _ hN, ?_, same_set hD (e.trans s2), ?_⟩
          · rw [List.length_map, List.length_map, List.length_take]
            exact line_le (by omega)
          · rw [upd_same, List.take_add_one, hd, List.map_append, List.map_append, by_eq hq lc ld]
            rfl
        rintro G ⟨sG, hN⟩
        rw [List.length_map, List.take_length] at hN
        refine ⟨D, _, rfl, .inl ⟨SqL.of hN, fun p2 hp2 => ?_⟩⟩
        have s2 := sG.trans (same_upd (o := .tup ((r.map (ltim q c)).map V.int)) hp2)
        refine ⟨q, z, .ref p2, _, r.map (ltim q c), rfl, hq, hz.same ((same_upd hT0).trans s2), ⟨p2, rfl, SqT.of upd_same⟩, by omega, fun z3 H3 s3 hz3 => ?_⟩
        have ez : ((as.zip Ls).take (i + 1)).foldl (fun t p => vsum q t (vtim q p.1 p.2)) (zrow n) = vsum q (((as.zip Ls).take i).foldl (fun t p => vsum q t (vtim q p.1 p.2)) (zrow n)) (vtim q c r) := by
          rw [zip_next hc hr, List.foldl_append]
          rfl
        refine ⟨some (.ref ar), some (.int c), z3, rfl, (e1.trans s2).trans s3, ?_, ?_, ?_⟩
        · rw [ez]
          exact hz3
        · rw [ez]
          exact vsum_row hq rz (vtim_row hq lc rr)
        · rw [ez]
          exact vsum_len lz (by rw [vtim_len, rl])
      · rintro _ H' ⟨u5, u6, z, rfl, e, hz, _⟩
        refine ⟨_, rfl, ?_⟩
        have lm : min vs.length (as.map V.int).length = (as.zip Ls).length := by rw [List.length_map, hpr.length, List.length_zip, Nat.min_comm]
        rw [lm, List.take_length, fold_comb0 hq hra hall] at hz
        exact k z H' e hz
end
end K11
end
section
set_option maxRecDepth 100000
namespace MB
open PySem PySem.Spec PyProof.Rows L2
def rTupIdx (K : PySem.W.Frag) : V → List V → Hp → VK → Prop := fun x xs H Q => ∃ (p : Addr) (ys : List Int) (z : Int) (j : Nat), x = .ref p ∧ xs = [.int z] ∧ SqT K H p (ys.map V.int) ∧ ys[j]? = some z ∧ (∀ m, m < j → ys[m]? ≠ some z) ∧ Q (.int (j : Nat)) H
theorem flat_ints' (ys : List Int) : (ys.map V.int).all flatV = true := by
  rw [List.all_map]
  exact List.all_eq_true.mpr fun _ _ => rfl
theorem mt_tupIdx {X : Cx} : MtR X "tuple.index" (rTupIdx X.K) := by
  intro pins s σ H x xs v us Q I rx rs h
  obtain ⟨p, ys, z, j, rfl, rfl, hq, hy, hno, q⟩ := h
  cases rx
  obtain ⟨u, rfl, t, rfl⟩ := vals1 rs
  obtain ⟨its, r, pl, hz⟩ := I.tuple hq
  obtain ⟨⟨cls, dd, dt, sl⟩, ho, hc, n, hd⟩ := pl
  simp only at hc hd
  subst hc
  subst hd
  have hl : its.toArray.size = ys.length := by rw [List.size_toArray, ← r.length, List.length_map]
  have hj : j < its.toArray.size := by rw [hl]; exact (List.getElem?_eq_some_iff.mp hy).1
  have at' : ∀ (m : Nat) (hm : m < its.toArray.size), ∃ y t', ys[m]? = some y ∧ its.toArray[m] = Value.int y t' := fun m hm => by
    have hm' : m < ys.length := by rw [← hl]; exact hm
    obtain ⟨w, hw, t', hw'⟩ := r.get (i := m) (x := .int ys[m]) (by simp [hm'])
    refine ⟨ys[m], t', List.getElem?_eq_getElem hm', ?_⟩
    have e := (List.getElem?_eq_some_iff.mp hw).2
    rw [← hw', ← e]
    simp
  refine call_meets PySem.F.slot_tuple_index ⟨_, ho, rfl⟩ PySem.F.entry_tuple_index (PySem.F.args_tuple_index_2 _ _) (TI.tuple_indexAt p its.toArray n dd sl (.int z t) (eqU (.int z)) j hj ?_ ?_)
    ⟨ho, fun w hw => mem_eqAt (x := .int z) ⟨t, rfl⟩ rfl r (flat_ints' ys) w (by simpa using hw), ⟨.int (j : Nat), H, I.tok _, ⟨_, rfl⟩, q⟩⟩
  · obtain ⟨y, t', h1, h2⟩ := at' j hj
    rw [hy] at h1
    cases h1
    rw [h2]
    show (z == z) = true
    exact beq_self_eq_true z
  · intro m hm hmj
    obtain ⟨y, t', h1, h2⟩ := at' m hm
    rw [h2]
    show (y == z) = false
    exact beq_eq_false_iff_ne.mpr fun e => hno m hmj (e ▸ h1)
end MB
end
section
set_option maxRecDepth 100000
set_option maxHeartbeats 4000000
set_option exponentiation.threshold 9000
namespace K11
open PySem PySem.Spec PyProof.Rows L2 MB LM
open LamX hiding takes0
theorem first_one {h : Nat} {ns : List Int} (hl : h < ns.length) (h0 : ∀ p, p < h → ns.getD p 0 = 0) (h1 : ns.getD h 0 = 1) : ns[h]? = some 1 ∧ ∀ m, m < h → ns[m]? ≠ some 1 := by
  have g : ∀ p, p < ns.length → ns[p]? = some (ns.getD p 0) := fun p hp => by rw [List.getD_eq_getElem?_getD, List.getElem?_eq_getElem hp]; rfl
  refine ⟨by rw [g h hl, h1], fun m hm => ?_⟩
  rw [g m (by omega), h0 m hm]
  intro z
  cases z
section
variable {w : World} {K : PySem.W.Frag} {mg : Str → Option Value} {base : Heap}
end
end K11
end
section
set_option maxRecDepth 100000
namespace MB
open PySem PySem.Spec PyProof.Rows L2
def rTupF (K : PySem.W.Frag) : List V → Hp → VK → Prop := fun xs H Q => ∃ p ys, xs = [.ref p] ∧ SqL K H p ys ∧ ∀ (l : Addr) (o : Obj), H l = none → o.cls = .type "tuple" → o.dict = none → Q (.ref l) (upd H l (.frz o (.tup ys)))
theorem call_tupleF {X : Cx} : CallR X (.type "tuple") (rTupF X.K) := by
  intro pins s σ H xs us Q I r h
  obtain ⟨p, ys, rfl, hq, q⟩ := h
  obtain ⟨u, rfl, rx⟩ := vals1 r
  cases rx
  obtain ⟨its, r', pl, hz⟩ := I.list hq
  have hlen := r'.length
  refine call_tuple_list pl.isList (fun h' kp => ?_) (by simp only [List.size_toArray] <;> omega)
  have I1 : Inv X pins σ H { s with heap := h' } := I.kept (t' := s.toks) kp
  have I2 : Inv X pins σ (upd H h'.objs.size (.frz { cls := .type "tuple", data := .seq its.toArray } (.tup ys))) { s with heap := h'.push { cls := .type "tuple", data := .seq its.toArray } } :=
    I1.laid (t' := s.toks) (fun b o e => Heap.get?_push_of_some _ e) (Nat.le_refl _) (show ObjOk X.prog X.w _ _ _ (.frz _ (.tup ys)) from ⟨Heap.get?_push_size _ rfl, hz, its, r', IsTup.new _ _⟩)
  exact ⟨.ref h'.objs.size, _, I2, rfl, q _ _ (I1.hok.fresh (Nat.le_refl _)) rfl rfl⟩
def FzT (H : Hp) (x : V) : Prop := ∃ (p : Addr) (o : Obj) (u : HO), x = .ref p ∧ H p = some (.frz o u) ∧ o.cls = .type "tuple" ∧ o.dict = none
def tBT (r : V → List V → Hp → VK → Prop) (to : TE) (t : TA) : TE := fun σ H Q => to σ H fun x H1 => FzT H1 x ∧ t σ H1 fun xs H2 => r x xs H2 Q
theorem pe_bmT {X : Cx} {o e : Expr} {es : List Expr} {to : TE} {t : TA} {name : Str} {id : String} {r : V → List V → Hp → VK → Prop} {apos cpos : Pos} (pa : PlainAttrs "tuple") (slot : Slot "tuple" name id) (hty : typeOf (.builtin id) = pure (.type "method_descriptor")) (hm : MtR X id r) (ho : PE X o to) (ha : PA X (e :: es) t)
    (hbase : attributeBase o name X.env (eval o X.env) = eval o X.env := by rfl)
    (hfew : ((backTo cpos (starEach (e :: es) X.env)).all (fun x => !x.1) && (backToKw cpos (keywordEach [] X.env)).all (fun x => x.1.isSome)
      && decide ((e :: es).length + ([] : List Keyword).length + (if ([] : List Keyword).isEmpty then 0 else 1) < 30)) = true := by rfl)
    (hline : (apos.endLine == cpos.line) = true := by rfl) (hs : starEach (e :: es) X.env = (false, eval e X.env) :: starEach es X.env := by rfl) (hplain : (backTo cpos (starEach es X.env)).any (·.1) = false := by rfl) :
    PE X (.Call (.Attribute o name apos) (e :: es) [] cpos) (tBT r to t) := by
  refine ⟨fun pins s σ H Q I h => ?_⟩
  refine wpAny_Call_method_late hbase hfew hline rfl (thn (ho.run pins s σ H _ I h) fun v s1 ⟨x, H1, I1, r1, ty, q1⟩ => ?_)
  obtain ⟨p, ob, u, rfl, hp, hc, hd⟩ := ty
  cases (show v = Value.ref p from r1)
  have hk := (I1.hok p _ hp).1
  refine ⟨"tuple", id, pa, slot, hty, ⟨ob, hk, hc⟩, fun a e => ?_, ?_⟩
  · cases e
    exact ⟨ob, hk, hd⟩
  have hA := ha.run cpos pins s1 σ H1 _ I1 q1
  rw [hs] at hA ⊢
  refine Calls.callWith_builtin (by show (false || (backTo cpos (starEach es X.env)).any (·.1)) = false; rw [hplain] <;> rfl) (Calls.evalArgs_plain ?_)
  exact thn hA fun us s2 ⟨vs, H2, I2, r2, q2⟩ => hm pins s2 σ H2 (.ref p) vs _ us Q I2 rfl r2 q2
end MB
end
section
set_option maxRecDepth 100000
set_option maxHeartbeats 4000000
namespace MB
open PySem PySem.Spec PyProof.Rows L2
def ItN (K : PySem.W.Frag) (a b : Addr) : It where
  go := fun i H => ∃ (xs ys : List V) (x y : V), SqL K H a xs ∧ SqT K H b ys ∧ xs[i]? = some x ∧ ys[i]? = some y
  yld := fun i H v H' => ∃ T x y, v = .ref T ∧ H T = none ∧ H' = upd H T (.tup [x, y]) ∧ (∀ xs, SqL K H a xs → xs[i]? = some x) ∧ ∀ ys, SqT K H b ys → ys[i]? = some y
  stop := fun i H => ∃ xs ys : List V, SqL K H a xs ∧ SqT K H b ys ∧ i = xs.length ∧ i ≤ ys.length
structure AtN (N a b : Addr) (i : Nat) (h : Heap) : Prop where
  z : IsZip h (N + 4) (N + 2) (N + 3) .none
  ti : IsTupOf2 h (N + 2) (.ref N) (.ref (N + 1))
  to : ∃ x y, IsTupOf2 h (N + 3) x y
  s1 : h.IsListIter N a i
  s2 : h.IsTupleIter (N + 1) b i
theorem turn_N {P : Program} {w : World} {K : PySem.W.Frag} {elts : List Expr} {kk : Nat} {tpos : Pos} {a b : Addr} {N : Nat} (ha : a < N) (hb : b < N) :
    Turn P w K (.Tuple elts kk tpos) (ItN K a b) (five N) (N + 4) (fun i h => AtN N a b i h) := by
  have sep : ZipSep2 (N + 4) (N + 2) (N + 3) N (N + 1) [N, a] [N + 1, b] := zip_sep2 (fp1 := [a]) (fp2 := [b]) (fun c hc => by rw [List.mem_singleton.mp hc]; exact ha) fun c hc => by rw [List.mem_singleton.mp hc]; exact hb
  have na : a ≠ N := Nat.ne_of_lt ha
  have nb : b ≠ N + 1 := Nat.ne_of_lt (Nat.lt_succ_of_lt hb)
  refine
    { mem := by simp [five]
      obj := fun i h st c hc => ?_
      keep := fun i h h' st k => ?_
      item := ?_
      done := ?_
      self := fun A i s Q E st h => wpAny_pyIter_zip st.z h }
  · obtain ⟨x, y, hto⟩ := st.to
    obtain ⟨o1, e1, _, d1⟩ := st.s1
    obtain ⟨o2, e2, _, d2⟩ := st.s2
    rcases mem_five hc with q | q | q | q | q <;> rw [q]
    · exact ⟨_, st.z, fun v r => nomatch r⟩
    · exact ⟨_, st.ti, fun v r => nomatch r⟩
    · exact ⟨_, hto, fun v r => nomatch r⟩
    · exact ⟨o1, e1, fun v r => by rw [d1] at r; cases r⟩
    · exact ⟨o2, e2, fun v r => by rw [d2] at r; cases r⟩
  · obtain ⟨x, y, hto⟩ := st.to
    have km : ∀ c ∈ five N, ∀ o, h.get? c = some o → h'.get? c = some o := fun c hc o e => k c hc o e
    exact ⟨km _ (by simp [five]) _ st.z, km _ (by simp [five]) _ st.ti, ⟨x, y, km _ (by simp [five]) _ hto⟩, st.s1.at fun o e => km _ (by simp [five]) o e, st.s2.at fun o e => km _ (by simp [five]) o e⟩
  · intro X hP hw hK hc i pins s σ H E I hf st hg
    subst hP hw hK
    obtain ⟨x0, y0, hto⟩ := st.to
    obtain ⟨xs, ys, x, y, hqx, hqy, hx, hy⟩ := hg
    obtain ⟨its, rv, p, _⟩ := I.list hqx
    obtain ⟨its2, rv2, p2, _⟩ := I.tuple hqy
    obtain ⟨u, hu, ru⟩ := rv.get hx
    obtain ⟨u2, hu2, ru2⟩ := rv2.get hy
    have hh : X.A.in1.handled = none := I.ok.hd hc
    have lt1 : i < its.toArray.size := by
      rw [List.size_toArray, ← rv.length]
      exact (List.getElem?_eq_some_iff.mp hx).1
    have lt2 : i < its2.toArray.size := by
      rw [List.size_toArray, ← rv2.length]
      exact (List.getElem?_eq_some_iff.mp hy).1
    have zl : N + 4 < s.heap.objs.size := Heap.lt_size st.z
    refine wpAny_pyNext_zipD2_item sep (Draws.list hh N a na its.toArray) (Draws.tuple hh (N + 1) b nb its2.toArray) st.z st.ti hto ⟨st.s1, p.isList⟩ ⟨st.s2, p2⟩ lt1 lt2
      fun w1 w2 h' tk e1 e2 z' to' st1 st2 hT hsz hk => ?_
    obtain rfl : w1 = u := by
      have q : its.toArray[i]? = some u := by simpa using hu
      exact Option.some.inj (e1.symm.trans q)
    obtain rfl : w2 = u2 := by
      have q : its2.toArray[i]? = some u2 := by simpa using hu2
      exact Option.some.inj (e2.symm.trans q)
    refine ⟨_, rfl, wpAny_letOwnedTupleGo_zip (s := { s with heap := h', toks := tk }) z' fun h'' z'' sb => ?_⟩
    have other : ∀ c o, c ≠ N + 4 → h'.get? c = some o → h''.get? c = some o := fun c o n e => (sb.2 c n).trans e
    have hT2 : h''.get? s.heap.objs.size = some { cls := .type "tuple", data := .seq #[w1, w2] } := other _ _ (Nat.ne_of_gt zl) hT
    have new : ObjOk X.prog X.w (upd H s.heap.objs.size (.tup [x, y])) h'' s.heap.objs.size (.tup [x, y]) :=
      ⟨(by decide : 2 ≤ sizeLine), [w1, w2], .cons ru (.cons ru2 .nil), ⟨_, hT2, rfl, _, rfl⟩⟩
    have I1 : Inv X pins σ (upd H s.heap.objs.size (.tup [x, y])) { s with heap := h'', toks := tk } :=
      I.turnedNew (ch := five N) (fun c o n e => by
        obtain ⟨n1, n2, n3, n4⟩ := off_five n
        exact other c o n1 (hk c o n1 n2 n3 n4 e)) hf (Nat.le_refl _) new
    refine ⟨.ref s.heap.objs.size, _, I1, rfl, ⟨_, x, y, rfl, I.hok.fresh (Nat.le_refl _), rfl, fun l hl => by rw [I.list_inj hl hqx]; exact hx, fun l hl => by rw [I.tuple_inj hl hqy]; exact hy⟩, ⟨z'', ?_, ⟨w1, w2, ?_⟩, ?_, ?_⟩, fun c hcm => ?_⟩
    · exact other _ _ sep.TIz (hk _ _ sep.TIz sep.TITO sep.TIi1 sep.TIi2 st.ti)
    · exact other _ _ sep.TOz to'
    · exact st1.1.at fun o e => other _ o (ne_add (by decide)).symm e
    · exact st2.1.at fun o e => other _ o (ne_adds (by decide)) e
    · have lt : c < s.heap.objs.size := by
        rcases mem_five hcm with q | q | q | q | q <;> rw [q] <;> first | exact zl | exact Nat.lt_of_le_of_lt (by omega) zl
      rw [upd_ne (Nat.ne_of_lt lt)]
      exact (hf c hcm).1
  · intro X hP hw hK hc i pins s σ H E I hf st hg
    subst hP hw hK
    obtain ⟨x0, y0, hto⟩ := st.to
    obtain ⟨xs, ys, hqx, hqy, en, le2⟩ := hg
    obtain ⟨its, rv, p, _⟩ := I.list hqx
    obtain ⟨its2, rv2, p2, _⟩ := I.tuple hqy
    have hh : X.A.in1.handled = none := I.ok.hd hc
    have z1 : its.toArray.size = xs.length := by rw [List.size_toArray, ← rv.length]
    have z2 : its2.toArray.size = ys.length := by rw [List.size_toArray, ← rv2.length]
    refine wpAny_pyNext_zipD2_end sep (Draws.list hh N a na its.toArray) (Draws.tuple hh (N + 1) b nb its2.toArray) st.z st.ti hto ⟨st.s1, p.isList⟩ ⟨st.s2, p2⟩ (by omega) (by omega) (.inl (by omega)) fun h' tk hk => ?_
    exact ⟨rfl, I.turnedL (t' := tk) (ch := five N) (fun c o n e => by
      obtain ⟨n1, n2, n3, n4⟩ := off_five n
      exact hk c o n1 n2 n3 n4 e) hf⟩
def iZipN (K : PySem.W.Frag) (ta : TA) : TI := fun σ H R => ta σ H fun vs H1 => ∃ a b xs ys, vs = [.ref a, .ref b] ∧ SqL K H1 a xs ∧ SqT K H1 b ys ∧ R (ItN K a b) H1
theorem pi_zipN {X : Cx} {e e2 : Expr} {ta : TA} {p pos tpos : Pos} {elts : List Expr} {kk : Nat} (hg : Gl X "zip") (hm : X.mg "zip" = none) (ha : PA X [e, e2] ta)
    (hs : starEach [e, e2] X.env = (false, eval e X.env) :: starEach [e2] X.env := by rfl) (hpl : (backTo pos (starEach [e2] X.env)).any (·.1) = false := by rfl) :
    PI X (.Tuple elts kk tpos) (.Call (.Name "zip" p) [e, e2] [] pos) (iZipN X.K ta) := by
  refine ⟨fun pins s σ H R I h => Call_ (ld_blt I hg hm PyProof.Rows.boot_zip (PyProof.Rows.callWith_type1 (thn (ha.run pos pins s σ H _ I h) fun us s1 ⟨vs, H1, I1, r1, a, b, xs, ys, ex, hx, hy, q⟩ => ?_) hs hpl))⟩
  subst ex
  obtain ⟨u1, u2, rfl, r, r'⟩ := vals2 r1
  cases r
  cases r'
  obtain ⟨its, rv, p1, _⟩ := I1.list hx
  obtain ⟨its2, rv2, p2, _⟩ := I1.tuple hy
  refine zip_begins2 (begins_list a its.toArray) (begins_tuple b its2.toArray) p1.isList p2 fun h' z ti to g1 g2 _ hk => wpAny_pyIter_zip z ?_
  have I2 : Inv X pins σ H1 { s1 with heap := h' } := I1.kept (t' := s1.toks) hk
  refine ⟨s1.heap.objs.size + 4, five s1.heap.objs.size, _, _, H1, rfl, I2, turn_N p1.lt p2.lt, ⟨z, ti, ⟨_, _, to⟩, ⟨_, g1, rfl, rfl⟩, ⟨_, g2, rfl, rfl⟩⟩, fun c hc => ?_, q⟩
  have le : s1.heap.objs.size ≤ c := by
    rcases mem_five hc with q | q | q | q | q <;> rw [q] <;> first | exact Nat.le_refl _ | exact Nat.le_add_right _ _
  exact I1.fpOk le (I1.hok.fresh le)
theorem walk_N {K : PySem.W.Frag} {a b : Addr} {xs ys : List V} (hl : xs.length ≤ ys.length) :
    Walk (ItN K a b) xs.length (fun H => SqL K H a xs ∧ SqT K H b ys) (YPair (fun i => xs[i]?) (fun i => ys[i]?)) := by
  refine ⟨fun i _ hi q => ⟨xs, ys, xs[i], ys[i]'(by omega), q.1, q.2, by simp [hi], by simp [show i < ys.length by omega]⟩, fun _ q => ⟨xs, ys, q.1, q.2, rfl, hl⟩, fun i H v H' _ q y => ?_⟩
  obtain ⟨T, x, z, h1, h2, h3, h4, h5⟩ := y
  exact ⟨T, x, z, h1, h2, h3, h4 xs q.1, h5 ys q.2⟩
end MB
end
section
set_option maxRecDepth 100000
set_option maxHeartbeats 4000000
set_option exponentiation.threshold 9000
namespace K11
open PySem PySem.Spec PyProof.Rows L2 MB LM
open LamX hiding takes0
def TIF (K : PySem.W.Frag) (H : Hp) (v : V) (ns : List Int) : Prop := ∃ (a : Addr) (o : Obj), v = .ref a ∧ H a = some (.frz o (.tup (ns.map V.int))) ∧ o.cls = .type "tuple" ∧ o.dict = none
theorem TIF.ti {K : PySem.W.Frag} {H : Hp} {v : V} {ns : List Int} (h : TIF K H v ns) : TI K H v ns := by
  obtain ⟨a, o, rfl, h1, _⟩ := h
  exact ⟨a, rfl, .inl (.inr ⟨o, h1⟩)⟩
theorem TIF.same {K : PySem.W.Frag} {H H' : Hp} {v : V} {ns : List Int} (h : TIF K H v ns) (e : Same H H') : TIF K H' v ns := by
  obtain ⟨a, o, rfl, h1, h2⟩ := h
  exact ⟨a, o, rfl, e _ _ h1, h2⟩
theorem TIF.fz {K : PySem.W.Frag} {H : Hp} {v : V} {ns : List Int} (h : TIF K H v ns) : FzT H v := by
  obtain ⟨a, o, rfl, h1, h2, h3⟩ := h
  exact ⟨a, o, _, rfl, h1, h2, h3⟩
theorem pairedF {K : PySem.W.Frag} {H : Hp} {vs : List V} {Ls : List (List Int)} (h : Paired (TIF K H) vs Ls) : Paired (TI K H) vs Ls := by
  induction h with
  | nil => exact .nil
  | cons r _ ih => exact .cons r.ti ih
theorem pairedF_same {K : PySem.W.Frag} {H H' : Hp} {vs : List V} {Ls : List (List Int)} (e : Same H H') (h : Paired (TIF K H) vs Ls) : Paired (TIF K H') vs Ls := by
  induction h with
  | nil => exact .nil
  | cons r _ ih => exact .cons (r.same e) ih
def RowsF (K : PySem.W.Frag) (H : Hp) (v : V) (Ps : List (Nat × List Int)) : Prop := ∃ a vs, v = .ref a ∧ SqT K H a vs ∧ Paired (TIF K H) vs (Ps.map (·.2))
theorem RowsF.red {K : PySem.W.Frag} {H : Hp} {v : V} {Ps : List (Nat × List Int)} (h : RowsF K H v Ps) : TupRed K H v Ps := by
  obtain ⟨a, vs, rfl, h1, h2⟩ := h
  exact ⟨a, vs, rfl, h1, pairedF h2⟩
theorem RowsF.same {K : PySem.W.Frag} {H H' : Hp} {v : V} {Ps : List (Nat × List Int)} (h : RowsF K H v Ps) (e : Same H H') : RowsF K H' v Ps := by
  obtain ⟨a, vs, rfl, h1, h2⟩ := h
  exact ⟨a, vs, rfl, e.tup h1, pairedF_same e h2⟩
section
variable {w : World} {K : PySem.W.Frag} {mg : Str → Option Value} {base : Heap}
end
end K11
end
section
set_option maxRecDepth 100000
set_option maxHeartbeats 4000000
set_option exponentiation.threshold 9000
namespace K11
open PySem PySem.Spec PyProof.Rows L2 MB LM
open LamX hiding takes0
theorem TIF.but {K : PySem.W.Frag} {d l : Addr} {H H' : Hp} {v : V} {ns : List Int} (h : TIF K H v ns) (D : Deck kL H d l) (e : But d l H H') : TIF K H' v ns := by
  obtain ⟨a, o, rfl, h1, h2⟩ := h
  obtain ⟨m, n, cs, g1, g2, _⟩ := D.ex
  exact ⟨a, o, rfl, e _ _ h1 (ne_of h1 g1 (by intro z; cases z)) (ne_of h1 g2 (by intro z; cases z)), h2⟩
theorem pairedF_but {K : PySem.W.Frag} {d l : Addr} {H H' : Hp} {vs : List V} {Ls : List (List Int)} (D : Deck kL H d l) (e : But d l H H') (h : Paired (TIF K H) vs Ls) : Paired (TIF K H') vs Ls := by
  induction h with
  | nil => exact .nil
  | cons r _ ih => exact .cons (r.but D e) ih
theorem pairedF_upd {K : PySem.W.Frag} {H : Hp} {L : Addr} {xs ys : List V} {vs : List V} {Ls : List (List Int)} (hL : H L = some (.lst xs)) (h : Paired (TIF K H) vs Ls) : Paired (TIF K (upd H L (.lst ys))) vs Ls := by
  induction h with
  | nil => exact .nil
  | cons r _ ih =>
    obtain ⟨a, o, rfl, h1, h2⟩ := r
    exact .cons ⟨a, o, rfl, by rw [upd_ne (ne_of h1 hL (by intro z; cases z))]; exact h1, h2⟩ ih
structure RowP (q : Int) (n : Nat) (hs : List Nat) (x : Nat × List Int) : Prop where
  r : IsRow q x.2
  l : x.2.length = n
  b : x.1 < n
  z : ∀ p, p < x.1 → x.2.getD p 0 = 0
  o : x.2.getD x.1 0 = 1
  t : ∀ h ∈ hs, h ≠ x.1 → x.2.getD h 0 = 0
theorem rr_of {q : Int} {n : Nat} {hs : List Nat} : ∀ {Ps : List (Nat × List Int)}, (∀ x ∈ Ps, RowP q n hs x) → (Ps.map (·.1)).Pairwise (· < ·) → (∀ x ∈ Ps, x.1 ∈ hs) → RR q n Ps
  | [], _, _, _ => RR.nil
  | x :: Ps, h, hp, hm => by
    have hp' : (x.1 :: Ps.map (·.1)).Pairwise (· < ·) := hp
    obtain ⟨h1, h2⟩ := List.pairwise_cons.mp hp'
    have ih := rr_of (fun y hy => h y (List.mem_cons_of_mem _ hy)) h2 fun y hy => hm y (List.mem_cons_of_mem _ hy)
    have hx := h x List.mem_cons_self
    refine ⟨fun y hy => ?_, List.pairwise_cons.mpr ⟨fun y hy => ?_, ih.two⟩⟩
    · have := h y hy
      exact ⟨this.r, this.l, this.b, this.z, this.o⟩
    · have lt := h1 y.1 (List.mem_map.mpr ⟨y, hy, rfl⟩)
      exact ⟨lt, hx.t y.1 (hm y (List.mem_cons_of_mem _ hy)) (by omega)⟩
section
variable {w : World} {K : PySem.W.Frag} {mg : Str → Option Value} {base : Heap}
def spDrawn (K : PySem.W.Frag) : Sp := fun vs H Q _ => ∃ (d l : Addr) (q : Int) (n : Nat), vs = [.ref d, .int q, .int (n : Int)] ∧ Deck kL H d l ∧ LetQ q ∧ n ≤ 8 ∧
  ∀ v Ps H', But d l H H' → Deck kL H' d l → RowsF K H' v Ps → RR q n Ps → Q v H'
theorem ok__law_drawn (T : Txt K mg) : FnOk P w K mg base CX0 2 T.a__law_drawn T.d__law_drawn P__law_drawn (spDrawn K) := by
  refine T.F__law_drawn.ok sc__law_drawn (fun vs H Q E h => ?_) (fun cdv A outer s H vs Q E hr h => ?_)
  · obtain ⟨d, l, q, n, rfl, _⟩ := h
    rfl
  · obtain ⟨d, l, q, n, rfl, D, hq, hn, k⟩ := h
    refine ⟨_, 
      (pss_cons (ps_asg (pe_tup (pa_cons (pe_call (ok__law_draw T) (hr.mono (by decide)) rfl T.m__law_draw T.F__law_draw.kp T.b__law_draw .nil pass0 (pa_cons (pv 0) (pa_cons pe_int pa_nil))) (pa_cons (pe_lst pa_nil) pa_nil))) (pg_tup rfl (pgs_cons (pg_name (i := 3) sc__law_drawn.nd rfl (Or.inr rfl)) (pgs_cons (pg_name (i := 4) sc__law_drawn.nd rfl (Or.inl rfl)) pgs_nil))))
      (pss_cons (ps_set (i := 5) sc__law_drawn.nd rfl (Or.inr rfl) (pe_lc (own := [("_law_at", 8)]) (g := gName 8)  rfl sc__law_drawn.nd (pi_range1 rfl T.m_range (pa_cons (pv 2) pa_nil)) (blkOk_by (own := [("_law_at", 8)]) (N := N__law_drawn) (sc := (defScope s__law_drawn)) (by decide +kernel)) (fun _ _ _ _ _ => (pg_name (i := 8) sc__law_drawn.nd rfl (Or.inl rfl))) (fun _ _ _ _ _ => (pts_one (pt_cmpR op_gt (pe_call (ok__law_draw T) (hr.mono (by decide)) rfl T.m__law_draw T.F__law_draw.kp T.b__law_draw .nil pass0 (pa_cons (pv 0) (pa_cons pe_int pa_nil))) (pv 3) (nomark _)))) (fun _ _ _ _ _ => (pv 8))))
      (pss_cons (ps_for PassesOwn.never rfl (pi_list (pv 5)) (pg_name (i := 6) sc__law_drawn.nd rfl (Or.inr rfl)) (pss_cons (ps_setLc (i := 7) (own := [("_law_at", 8)]) (g := gName 8) (tt := tYes) rfl sc__law_drawn.nd rfl rfl (sw_true rfl rfl rfl (by decide +kernel)) (pi_range1 rfl T.m_range (pa_cons (pv 2) pa_nil)) (blkOk_by (own := [("_law_at", 8)]) (N := N__law_drawn) (sc := (defScope s__law_drawn)) (by decide +kernel)) (fun _ _ _ _ _ => (pg_name (i := 8) sc__law_drawn.nd rfl (Or.inl rfl))) (fun _ _ _ _ _ => pts_nil) (fun _ _ _ _ _ => (pe_ifExp (PW.pt (pw_and (pt_cmpR op_gt (pv 8) (pv 6) (nomark _)) (pw_and1 (pt_cmpR (show OpR _ _ (rIn K true) from op_notIn_seq) (pv 8) (pv 5) rfl)))) (pe_call (ok__law_draw T) (hr.mono (by decide)) rfl T.m__law_draw T.F__law_draw.kp T.b__law_draw .nil pass0 (pa_cons (pv 0) (pa_cons (pv 1) pa_nil))) pe_int)))
      (pss_cons (ps_asg pe_int (pg_sub (pv 7) (pv 6) set_list))
      (pss_one (ps_expr (pe_bm PySem.F.plainAttrs_list PySem.F.slot_list_append PySem.F.type_list_append mt_append (pv 4) (pa_cons (pe_callTy call_tupleF (by rfl) T.m_tuple (by decide +kernel) (pa_cons (pv 7) pa_nil)) pa_nil)))))))
      (pss_one (ps_ret (pe_callTy call_tuple_of (by rfl) T.m_tuple (by decide +kernel) (pa_cons (pv 4) pa_nil))))))), ?_⟩
    have q2 := hq.lo
    have q5 := hq.hi
    refine ⟨_, rfl, d, l, 3, rfl, by decide, by decide, D, fun way H1 w0 w1 e1 D1 => ⟨line_s (Nat.zero_le _), fun L hL => ?_⟩⟩
    obtain ⟨L1, L2⟩ := D1.off hL
    have D2 := D1.upd (o := .lst []) L1 L2
    have hL2 : (upd H1 L (.lst [])) L = some (.lst []) := upd_same
    have b2 : But d l H (upd H1 L (.lst [])) := e1.same (same_upd hL)
    have LH : H L = none := e1.free D1 hL
    generalize upd H1 L (.lst []) = H2 at D2 hL2 b2 ⊢
    refine ⟨line_s (Nat.le_of_ble_eq_true rfl), fun p hp => ?_⟩
    have D3 := D2.same (same_upd (o := .tup [.int way, .ref L]) hp)
    have b3 := b2.same (same_upd (o := .tup [.int way, .ref L]) hp)
    have hL3 := same_upd (o := .tup [.int way, .ref L]) hp _ _ hL2
    refine ⟨p, _, rfl, SqT.of upd_same, rfl, _, _, rfl, _, _, rfl, rfl, ?_⟩
    generalize upd H2 p (.tup [.int way, .ref L]) = H3 at D3 b3 hL3 ⊢
    refine ⟨_, rfl, _, rfl, by omega, by omega, fun C hC => ?_⟩
    obtain ⟨C1, C2⟩ := D3.off hC
    have nLC : L ≠ C := ne_of_none hL3 hC
    have CH : H C = none := b3.free D3 hC
    refine lc_it (walk_range (lo := 0) (n := (n : Int).toNat))
      (fun i H' => But d l H3 H' ∧ Deck kL H' d l ∧ ∃ hs : List Nat, hs.Pairwise (· < ·) ∧ (∀ h ∈ hs, h < i) ∧ hs.length ≤ i ∧ H' C = some (.lst ((nats hs).map V.int)))
      ⟨(But.refl).upd hC, D3.upd C1 C2, [], List.Pairwise.nil, (fun h hh => by cases hh), Nat.le_refl _, upd_same⟩ (fun _ _ _ _ => trivial) ?_ ?_
    · rintro i x H' _ hi ⟨e, D', hs, hp1, hp2, hp3, hN⟩ ⟨rfl, rfl⟩
      refine ⟨rfl, ?_⟩
      refine ⟨_, rfl, d, l, 4, rfl, by decide, by decide, D', fun r H4 r0 r1 e4 D4 => ⟨_, rfl, _, _, rfl, rfl, _, rfl, ?_⟩⟩
      have hN4 := e4 _ _ hN C1 C2
      refine ite2 (fun _ => ?_) (fun _ => ?_)
      · refine ⟨_, rfl, _, hN4, ?_, (e.trans e4).upd hC, D4.upd C1 C2, hs ++ [i], ?_, ?_, ?_, ?_⟩
        · simp only [nats, List.length_map]
          exact line_le (by omega)
        · exact List.pairwise_append.mpr ⟨hp1, List.pairwise_singleton _ _, fun a ha b hb => by rw [List.mem_singleton.mp hb]; exact hp2 a ha⟩
        · intro h hh
          rcases List.mem_append.mp hh with hh | hh
          · have := hp2 h hh
            omega
          · rw [List.mem_singleton.mp hh]
            omega
        · rw [List.length_append]
          simp
          omega
        · rw [upd_same]
          simp [nats]
      · exact ⟨e.trans e4, D4, hs, hp1, fun h hh => by have := hp2 h hh; omega, by omega, hN4⟩
    rintro H5 ⟨e5, D5, hs, hp1, hp2, hp3, hC5⟩
    rw [Int.toNat_natCast] at hp2 hp3
    have hL5 := e5 _ _ hL3 L1 L2
    have b5 := b3.trans e5
    have nCL : C ≠ L := nLC.symm
    refine ⟨_, rfl, C, rfl, ⟨_, SqL.of hC5⟩, for_it (walk_list (K := K) (a := C) (xs := (nats hs).map V.int))
      (fun i σ H' => ∃ (u6 u7 : Option V) (zs : List V) (Ps : List (Nat × List Int)), σ = [some (.ref d), some (.int q), some (.int (n : Int)), some (.int way), some (.ref L), some (.ref C), u6, u7, none] ∧ But d l H H' ∧ Deck kL H' d l ∧
        H' C = some (.lst ((nats hs).map V.int)) ∧ H' L = some (.lst zs) ∧ Paired (TIF K H') zs (Ps.map (·.2)) ∧ Ps.map (·.1) = hs.take i ∧ (∀ x ∈ Ps, RowP q n hs x))
      ⟨none, none, [], [], rfl, b5, D5, hC5, hL5, .nil, rfl, fun x hx => by cases hx⟩ (fun i σ H' _ ⟨_, _, _, _, _, _, _, g, _⟩ => SqL.of g) ?_ ?_⟩
    · clear hL5 hC5 b5 D5 e5 hL3 b3 D3 hC hp hL
      rintro i v _ _ H6 hi ⟨u6, u7, zs, Ps, rfl, b6, D6, hC6, hL6, pz, eP, hP⟩ ⟨rfl, hv⟩
      obtain ⟨m, hm, rfl⟩ := int_at hv
      obtain ⟨h, hh, rfl⟩ : ∃ h, hs[i]? = some h ∧ m = (h : Int) := by
        unfold nats at hm
        rw [List.getElem?_map] at hm
        cases e : hs[i]? with
        | none =>
          rw [e] at hm
          cases hm
        | some x =>
          rw [e] at hm
          exact ⟨x, rfl, (Option.some.inj hm).symm⟩
      have hn' : h < n := hp2 h (List.mem_of_getElem? hh)
      have li : i < hs.length := (List.getElem?_eq_some_iff.mp hh).1
      have lz : zs.length ≤ i := by
        have := congrArg List.length eP
        rw [List.length_map, List.length_take] at this
        rw [pz.length, List.length_map]
        omega
      refine ⟨_, rfl, _, rfl, by omega, by omega, fun G0 hG0 => ?_⟩
      have GH : H G0 = none := b6.free D6 hG0
      obtain ⟨G1, G2⟩ := D6.off hG0
      have nGC : C ≠ G0 := ne_of_none hC6 hG0
      have nGL : L ≠ G0 := ne_of_none hL6 hG0
      refine lc_it (walk_range (lo := 0) (n := (n : Int).toNat))
        (fun j H' => But d l H6 H' ∧ Deck kL H' d l ∧ ∃ rs : List Int, rs.length = j ∧ IsRow q rs ∧ (∀ p, p < j → (p ≤ h ∨ p ∈ hs) → rs.getD p 0 = 0) ∧ H' G0 = some (.lst (rs.map V.int)))
        ⟨(But.refl).upd hG0, D6.upd G1 G2, [], rfl, (fun c hc => by cases hc), (fun p hp => by omega), upd_same⟩ (fun _ _ _ _ => trivial) ?_ ?_
      · rintro j x _ H' hj ⟨e, D', rs, lr, hr1, hr2, hN⟩ ⟨rfl, rfl⟩
        have hC' := e _ _ hC6 C1 C2
        refine ⟨rfl, ?_⟩
        have put : ∀ (c : Int) (G : Hp), IsLet q c → (j ≤ h ∨ j ∈ hs → c = 0) → But d l H' G → Deck kL G d l → ∃ acc, G G0 = some (.lst acc) ∧ acc.length < sizeLine ∧ But d l H6 (upd G G0 (.lst (acc ++ [.int c]))) ∧ Deck kL (upd G G0 (.lst (acc ++ [.int c]))) d l ∧
            ∃ rs : List Int, rs.length = j + 1 ∧ IsRow q rs ∧ (∀ p, p < j + 1 → (p ≤ h ∨ p ∈ hs) → rs.getD p 0 = 0) ∧ (upd G G0 (.lst (acc ++ [.int c]))) G0 = some (.lst (rs.map V.int)) := by
          intro c G lc hc0 eG DG
          refine ⟨_, eG _ _ hN G1 G2, by rw [List.length_map]; exact line_le (by omega), (e.trans eG).upd hG0, DG.upd G1 G2, rs ++ [c], by rw [List.length_append, lr]; rfl, ?_, ?_, by rw [upd_same, List.map_append]; rfl⟩
          · intro z hz
            rcases List.mem_append.mp hz with hz | hz
            · exact hr1 z hz
            · rw [List.mem_singleton.mp hz]
              exact lc
          · intro p hp3 hp4
            by_cases c1 : p < j
            · rw [List.getD_eq_getElem?_getD, List.getElem?_append_left (by omega), ← List.getD_eq_getElem?_getD]
              exact hr2 p c1 hp4
            · obtain rfl : p = j := by omega
              rw [List.getD_eq_getElem?_getD, List.getElem?_append_right (by omega), lr, Nat.sub_self]
              exact hc0 hp4
        refine ⟨_, rfl, _, rfl, _, _, rfl, rfl, _, rfl, ?_⟩
        refine ite2 (fun c1 => ?_) (fun c1 => ?_)
        · refine ⟨_, rfl, _, rfl, C, _, rfl, .inl (SqL.of hC'), rfl, flat_ints _, _, rfl, ?_⟩
          have ein : inV (.int (0 + (j : Int))) ((nats hs).map V.int) = decide (j ∈ hs) := by
            rw [Int.zero_add]
            unfold inV nats
            rw [List.map_map, List.any_map, Bool.eq_iff_iff, List.any_eq_true, decide_eq_true_eq]
            constructor
            · rintro ⟨x, hx, ex⟩
              have : ((x : Int) == (j : Int)) = true := ex
              have : x = j := by
                have := beq_iff_eq.mp this
                omega
              rw [← this]
              exact hx
            · intro hx
              refine ⟨j, hx, ?_⟩
              show ((j : Int) == (j : Int)) = true
              exact beq_self_eq_true _
          show (if (!inV (.int (0 + (j : Int))) ((nats hs).map V.int)) = true then _ else _)
          rw [ein]
          by_cases c2 : j ∈ hs
          · rw [decide_eq_true c2]
            exact iteF (put 0 H' (let_zero hq) (fun _ => rfl) But.refl D')
          · rw [decide_eq_false c2]
            refine iteT ⟨_, rfl, _, rfl, d, l, q, rfl, by omega, Nat.lt_of_le_of_lt (by omega : q.natAbs ≤ 5) (by decide), D', fun r G r0 r1 eG DG => ?_⟩
            exact put r G ⟨r0, r1⟩ (fun z => z.elim (fun z => by have := of_decide_eq_true c1; omega) (fun z => absurd z c2)) eG DG
        · exact put 0 H' (let_zero hq) (fun _ => rfl) But.refl D'
      · rintro H7 ⟨e7, D7, rs, lr, hr1, hr2, hN⟩
        rw [Int.toNat_natCast] at lr hr2
        have hC7 := e7 _ _ hC6 C1 C2
        have hL7 := e7 _ _ hL6 L1 L2
        have b7 := b6.trans e7
        have pz7 := pairedF_but D6 e7 pz
        refine ⟨_, rfl, _, rfl, G0, _, _, h, rfl, rfl, hN, ?_, ?_⟩
        · unfold ixN
          rw [if_pos (by omega), if_pos (by rw [List.length_map]; omega)]
          rfl
        rw [show (rs.map V.int).set h (V.int 1) = (rs.set h 1).map V.int from (List.map_set ..).symm]
        have hN8 : (upd H7 G0 (.lst ((rs.set h 1).map V.int))) G0 = some (.lst ((rs.set h 1).map V.int)) := upd_same
        have hL8 : (upd H7 G0 (.lst ((rs.set h 1).map V.int))) L = some (.lst zs) := (upd_ne nGL).trans hL7
        have hC8 : (upd H7 G0 (.lst ((rs.set h 1).map V.int))) C = some (.lst ((nats hs).map V.int)) := (upd_ne nGC).trans hC7
        have D8 := D7.upd (o := .lst ((rs.set h 1).map V.int)) G1 G2
        have b8 : But d l H (upd H7 G0 (.lst ((rs.set h 1).map V.int))) := b7.upd GH
        have pz8 := pairedF_upd (ys := (rs.set h 1).map V.int) hN pz7
        generalize upd H7 G0 (.lst ((rs.set h 1).map V.int)) = H8 at hN8 hL8 hC8 D8 b8 pz8 ⊢
        refine ⟨_, rfl, .inl ⟨rfl, _, SqL.of hL8⟩, _, rfl, G0, _, rfl, SqL.of hN8, fun p o hp oc od => ?_⟩
        have s9 := same_upd (o := .frz o (.tup ((rs.set h 1).map V.int))) hp
        have hL9 := s9 _ _ hL8
        refine ⟨L, _, _, rfl, rfl, hL9, line_le (by omega), ?_⟩
        refine ⟨_, _, zs ++ [.ref p], Ps ++ [(h, rs.set h 1)], rfl, (b8.same s9).upd LH, (D8.same s9).upd L1 L2, ?_, upd_same, ?_, ?_, ?_⟩
        · rw [upd_ne nCL]
          exact s9 _ _ hC8
        · rw [List.map_append]
          refine paired_snoc (pairedF_upd hL9 (pairedF_same s9 pz8)) ⟨p, o, rfl, ?_, oc, od⟩
          rw [upd_ne (ne_of_none hL8 hp).symm, upd_same]
        · rw [List.map_append, List.take_add_one, hh, eP]
          rfl
        · intro x hx
          rcases List.mem_append.mp hx with hx | hx
          · exact hP x hx
          · rw [List.mem_singleton.mp hx]
            refine ⟨set_row hr1 (let_one hq) h, by rw [List.length_set, lr], hn', fun p hp3 => ?_, ?_, fun g hg ne => ?_⟩
            · show (rs.set h 1).getD p 0 = 0
              have hp4 : p < h := hp3
              rw [List.getD_eq_getElem?_getD, List.getElem?_set_ne (by omega), ← List.getD_eq_getElem?_getD]
              exact hr2 p (by omega) (.inl (by omega))
            · show (rs.set h 1).getD h 0 = 1
              rw [List.getD_eq_getElem?_getD, List.getElem?_set_self (by omega)]
              rfl
            · show (rs.set h 1).getD g 0 = 0
              have ne' : h ≠ g := fun z => ne z.symm
              rw [List.getD_eq_getElem?_getD, List.getElem?_set_ne ne', ← List.getD_eq_getElem?_getD]
              exact hr2 g (hp2 g hg) (.inr hg)
    · rintro _ H6 ⟨u6, u7, zs, Ps, rfl, b6, D6, hC6, hL6, pz, eP, hP⟩
      have ln : ((nats hs).map V.int).length = hs.length := by simp [nats]
      rw [ln, List.take_length] at eP
      refine ⟨_, rfl, L, _, rfl, .inl ⟨SqL.of hL6, fun p hp => ?_⟩⟩
      refine k _ Ps _ (b6.same (same_upd hp)) (D6.same (same_upd hp)) ⟨p, zs, rfl, SqT.of upd_same, pairedF_same (same_upd hp) pz⟩ (rr_of hP (by rw [eP]; exact hp1) fun x hx => ?_)
      rw [← eP]
      exact List.mem_map.mpr ⟨x, hx, rfl⟩
end
end K11
end
section
set_option maxRecDepth 100000
namespace LM
open PySem
section
variable {q : Int} {n : Nat}
def wstep (q : Int) (found : List (List Int)) (r : List Int) : List (List Int) := found.flatMap fun w => (lets q).map fun l => vsum q w (vtim q l r)
def wordsL (q : Int) (n : Nat) (Rs : List (List Int)) : List (List Int) := Rs.foldl (wstep q) [zrow n]
theorem wordsL_snoc (Rs : List (List Int)) (r : List Int) : wordsL q n (Rs ++ [r]) = wstep q (wordsL q n Rs) r := by
  unfold wordsL
  rw [List.foldl_append]
  rfl
theorem lets_len : (lets q).length = q.toNat := by
  unfold lets
  rw [List.length_map, List.length_range]
theorem wstep_len (r : List Int) : ∀ found : List (List Int), (wstep q found r).length = found.length * q.toNat
  | [] => by simp [wstep]
  | w :: f => by
    have ih := wstep_len r f
    unfold wstep at ih ⊢
    rw [List.flatMap_cons, List.length_append, List.length_map, lets_len, ih, List.length_cons, Nat.succ_mul, Nat.add_comm]
theorem wordsL_len (Rs : List (List Int)) : (wordsL q n Rs).length = q.toNat ^ Rs.length := by
  have h : ∀ (Rs : List (List Int)) (f : List (List Int)), (Rs.foldl (wstep q) f).length = f.length * q.toNat ^ Rs.length := by
    intro Rs
    induction Rs with
    | nil => intro f; simp
    | cons r Rs ih =>
      intro f
      rw [List.foldl_cons, ih, wstep_len, List.length_cons, Nat.pow_succ, Nat.mul_assoc, Nat.mul_comm q.toNat]
  unfold wordsL
  rw [h]
  simp
theorem wstep_at (r : List Int) (l : Nat) (hl : l < q.toNat) : ∀ (found : List (List Int)) (j : Nat), (wstep q found r)[j * q.toNat + l]? = (found[j]?).map fun w => vsum q w (vtim q (l : Int) r)
  | [], j => by simp [wstep]
  | w :: f, 0 => by
    unfold wstep
    rw [List.flatMap_cons, Nat.zero_mul, Nat.zero_add, List.getElem?_append_left (by rw [List.length_map, lets_len]; exact hl), List.getElem?_map]
    have : (lets q)[l]? = some (l : Int) := by
      unfold lets
      rw [List.getElem?_map, List.getElem?_range hl]
      rfl
    rw [this]
    rfl
  | w :: f, j + 1 => by
    have ih := wstep_at r l hl f j
    unfold wstep at ih ⊢
    have e : (j + 1) * q.toNat + l - q.toNat = j * q.toNat + l := by
      rw [Nat.succ_mul]
      omega
    rw [List.flatMap_cons, List.getElem?_append_right (by rw [List.length_map, lets_len, Nat.succ_mul]; omega), List.length_map, lets_len, e, ih]
    rfl
def digs (Q : Nat) : Nat → Nat → List Int
  | 0, _ => []
  | k + 1, i => digs Q k (i / Q) ++ [((i % Q : Nat) : Int)]
theorem digs_len {Q : Nat} : ∀ (k i : Nat), (digs Q k i).length = k
  | 0, _ => rfl
  | k + 1, i => by
    show (digs Q k (i / Q) ++ _).length = k + 1
    rw [List.length_append, digs_len]
    rfl
theorem digs_row (hq : LetQ q) : ∀ (k i : Nat), IsRow q (digs q.toNat k i)
  | 0, _ => fun c hc => by cases hc
  | k + 1, i => fun c hc => by
    rcases List.mem_append.mp hc with hc | hc
    · exact digs_row hq k _ c hc
    · rw [List.mem_singleton.mp hc]
      have := hq.lo
      have h := Nat.mod_lt i (show 0 < q.toNat by omega)
      exact ⟨by omega, by omega⟩
theorem words_fold (hq : LetQ q) : ∀ (k : Nat) (Rs : List (List Int)) (i : Nat), Rs.length = k → i < q.toNat ^ k → (wordsL q n Rs)[i]? = some (((digs q.toNat k i).zip Rs).foldl (fun t p => vsum q t (vtim q p.1 p.2)) (zrow n)) := by
  intro k
  induction k with
  | zero =>
    intro Rs i hk hi
    obtain rfl : Rs = [] := List.length_eq_zero_iff.mp hk
    obtain rfl : i = 0 := by simpa using hi
    rfl
  | succ k ih =>
    intro Rs i hk hi
    obtain ⟨Ss, r, rfl⟩ : ∃ Ss r, Rs = Ss ++ [r] := by
      have hne : Rs ≠ [] := fun e => by rw [e] at hk; cases hk
      exact ⟨_, _, (List.dropLast_concat_getLast hne).symm⟩
    have ls : Ss.length = k := by
      rw [List.length_append] at hk
      simpa using hk
    have q2 := hq.lo
    have hQ : 0 < q.toNat := by omega
    have hdiv : i / q.toNat < q.toNat ^ k := by
      rw [Nat.div_lt_iff_lt_mul hQ]
      exact hi
    have hmod := Nat.mod_lt i hQ
    have e : i = i / q.toNat * q.toNat + i % q.toNat := by rw [Nat.mul_comm]; exact (Nat.div_add_mod i q.toNat).symm
    rw [wordsL_snoc]
    have h := wstep_at (q := q) r (i % q.toNat) hmod (wordsL q n Ss) (i / q.toNat)
    rw [← e, ih Ss _ ls hdiv] at h
    rw [h]
    show some _ = some (((digs q.toNat k (i / q.toNat) ++ [((i % q.toNat : Nat) : Int)]).zip (Ss ++ [r])).foldl _ _)
    rw [List.zip_append (by rw [digs_len, ls]), List.foldl_append]
    rfl
theorem words_at (hq : LetQ q) {Rs : List (List Int)} (h : ∀ r ∈ Rs, IsRow q r ∧ r.length = n) {i : Nat} (hi : i < q.toNat ^ Rs.length) : (wordsL q n Rs)[i]? = some (comb q n (digs q.toNat Rs.length i) Rs) := by
  rw [words_fold hq Rs.length Rs i rfl hi, fold_comb0 hq (digs_row hq _ _) h]
def Less (m : Nat) (u v : List Int) : Prop := ∃ p, p < m ∧ (∀ i, i < p → u.getD i 0 = v.getD i 0) ∧ u.getD p 0 < v.getD p 0
theorem Less.mono {m m' : Nat} {u v : List Int} (h : Less m u v) (e : m ≤ m') : Less m' u v :=
  let ⟨p, h1, h2, h3⟩ := h
  ⟨p, by omega, h2, h3⟩
theorem wstep_asc (hq : LetQ q) {x : Nat × List Int} (hx : IsRow q x.2 ∧ x.2.length = n ∧ x.1 < n ∧ (∀ p, p < x.1 → x.2.getD p 0 = 0) ∧ x.2.getD x.1 0 = 1) {found : List (List Int)} (hf : ∀ w ∈ found, IsRow q w ∧ w.length = n ∧ w.getD x.1 0 = 0)
    (ha : found.Pairwise (Less x.1)) : (wstep q found x.2).Pairwise (Less (x.1 + 1)) := by
  obtain ⟨xr, xl, xn, x0, x1⟩ := hx
  have at_ : ∀ w ∈ found, ∀ l, IsLet q l → ∀ i, (vsum q w (vtim q l x.2)).getD i 0 = lsum q (w.getD i 0) (ltim q l (x.2.getD i 0)) := fun w hw l hl i => by
    obtain ⟨wr, wl, _⟩ := hf w hw
    rw [vsum_at hq (by rw [vtim_len, xl, wl]), vtim_at hq hl]
  have below : ∀ w ∈ found, ∀ l, IsLet q l → ∀ i, i < x.1 → (vsum q w (vtim q l x.2)).getD i 0 = w.getD i 0 := fun w hw l hl i hi => by
    rw [at_ w hw l hl, x0 i hi, tim_zero hq hl, sum_zero hq (row_getD hq (hf w hw).1 i)]
  have here : ∀ w ∈ found, ∀ l, IsLet q l → (vsum q w (vtim q l x.2)).getD x.1 0 = l := fun w hw l hl => by
    rw [at_ w hw l hl, x1, (hf w hw).2.2, tim_one hq hl, zero_sum hq hl]
  have letl : ∀ l ∈ lets q, IsLet q l := fun l hl => by
    obtain ⟨m, hm, rfl⟩ := List.mem_map.mp hl
    rw [List.mem_range] at hm
    exact ⟨by omega, by omega⟩
  unfold wstep
  rw [List.pairwise_flatMap]
  refine ⟨fun w hw => ?_, ?_⟩
  · rw [List.pairwise_map]
    have hp : (lets q).Pairwise (· < ·) := by
      unfold lets
      rw [List.pairwise_map]
      exact List.pairwise_lt_range.imp fun h => by omega
    refine List.Pairwise.imp_of_mem (fun {l l'} h1 h2 h => ?_) hp
    refine ⟨x.1, by omega, fun i hi => ?_, ?_⟩
    · rw [below w hw l (letl l h1) i hi, below w hw l' (letl l' h2) i hi]
    · rw [here w hw l (letl l h1), here w hw l' (letl l' h2)]
      exact h
  · refine List.Pairwise.imp_of_mem (fun {w w'} hw hw' h => ?_) ha
    intro u hu v hv
    obtain ⟨l, hl, rfl⟩ := List.mem_map.mp hu
    obtain ⟨l', hl', rfl⟩ := List.mem_map.mp hv
    obtain ⟨p, h1, h2, h3⟩ := h
    refine ⟨p, by omega, fun i hi => ?_, ?_⟩
    · rw [below w hw l (letl l hl) i (by omega), below w' hw' l' (letl l' hl') i (by omega), h2 i hi]
    · rw [below w hw l (letl l hl) p h1, below w' hw' l' (letl l' hl') p h1]
      exact h3
theorem words_asc (hq : LetQ q) {Ps : List (Nat × List Int)} (h : RR q n Ps) : (wordsL q n (Ps.map (·.2))).Pairwise (Less n) ∧ ∀ w ∈ wordsL q n (Ps.map (·.2)), IsRow q w ∧ w.length = n := by
  have st : ∀ k, k ≤ Ps.length → (∀ w ∈ wordsL q n ((Ps.take k).map (·.2)), IsRow q w ∧ w.length = n ∧ ∀ x ∈ Ps.drop k, w.getD x.1 0 = 0) ∧
      (wordsL q n ((Ps.take k).map (·.2))).Pairwise (Less (match Ps[k]? with | some x => x.1 | none => n)) := by
    intro k
    induction k with
    | zero =>
      intro _
      refine ⟨fun w hw => ?_, ?_⟩
      · rw [List.mem_singleton.mp hw]
        exact ⟨zrow_row hq, zrow_len, fun x _ => zrow_at _⟩
      · exact List.pairwise_singleton _ _
    | succ k ih =>
      intro hk
      have hk' : k < Ps.length := hk
      obtain ⟨h1, h2⟩ := ih (by omega)
      have ex : Ps[k]? = some Ps[k] := List.getElem?_eq_getElem hk'
      have hm : Ps[k] ∈ Ps := List.getElem_mem hk'
      have hx := h.one _ hm
      obtain ⟨xr, xl, xn, x0, x1⟩ := id hx
      rw [ex] at h2
      have dk : Ps.drop k = Ps[k] :: Ps.drop (k + 1) := List.drop_eq_getElem_cons hk'
      have hf : ∀ w ∈ wordsL q n ((Ps.take k).map (·.2)), IsRow q w ∧ w.length = n ∧ w.getD Ps[k].1 0 = 0 := fun w hw => by
        obtain ⟨a, b, c⟩ := h1 w hw
        exact ⟨a, b, c _ (by rw [dk]; exact List.mem_cons_self)⟩
      have et : (Ps.take (k + 1)).map (·.2) = (Ps.take k).map (·.2) ++ [Ps[k].2] := by
        rw [List.take_succ_eq_append_getElem hk', List.map_append]
        rfl
      rw [et, wordsL_snoc]
      have dp : ∀ y ∈ Ps.drop (k + 1), Ps[k].1 < y.1 ∧ Ps[k].2.getD y.1 0 = 0 := fun y hy => by
        have t : (Ps.drop k).Pairwise fun a b => a.1 < b.1 ∧ a.2.getD b.1 0 = 0 := h.two.sublist (List.drop_sublist _ _)
        rw [dk] at t
        exact (List.pairwise_cons.mp t).1 y hy
      constructor
      · intro v hv
        obtain ⟨w, hw, hv⟩ := List.mem_flatMap.mp hv
        obtain ⟨l, hl, rfl⟩ := List.mem_map.mp hv
        obtain ⟨wr, wl, w0⟩ := h1 w hw
        have ll : IsLet q l := by
          obtain ⟨m, hm, rfl⟩ := List.mem_map.mp hl
          rw [List.mem_range] at hm
          exact ⟨by omega, by omega⟩
        refine ⟨vsum_row hq wr (vtim_row hq ll xr), vsum_len wl (by rw [vtim_len, xl]), fun y hy => ?_⟩
        rw [vsum_at hq (by rw [vtim_len, xl, wl]), vtim_at hq ll, (dp y hy).2, tim_zero hq ll, w0 y (by rw [dk]; exact List.mem_cons_of_mem _ hy), sum_zero hq (let_zero hq)]
      · refine (wstep_asc hq hx hf h2).imp fun hl => hl.mono ?_
        cases e : Ps[k + 1]? with
        | none => exact xn
        | some y =>
          have hy : y ∈ Ps.drop (k + 1) := by
            have := List.getElem?_drop (xs := Ps) (i := k + 1) (j := 0)
            rw [Nat.add_zero, e] at this
            exact List.mem_of_getElem? this
          exact (dp y hy).1
  obtain ⟨h1, h2⟩ := st Ps.length (Nat.le_refl _)
  rw [List.take_length, List.getElem?_eq_none (Nat.le_refl _)] at h2
  rw [List.take_length] at h1
  exact ⟨h2, fun w hw => ⟨(h1 w hw).1, (h1 w hw).2.1⟩⟩
theorem code_less : ∀ {u v : List Int} {m : Nat}, u.length = v.length → TS.Bd q u → TS.Bd q v → m ≤ u.length → Less m u v → TS.code q u < TS.code q v
  | [], _, m, l, _, _, hm, ⟨p, hp, _⟩ => by
    simp at hm
    omega
  | a :: u, [], m, l, _, _, _, _ => by simp at l
  | a :: u, b :: v, m, l, hu, hv, hm, ⟨p, hp, h2, h3⟩ => by
    have l' : u.length = v.length := by simpa using l
    cases p with
    | zero => exact TS.code_lt l' hu.tail hv.tail h3
    | succ p =>
      have e : a = b := h2 0 (Nat.zero_lt_succ _)
      rw [e]
      exact (TS.code_same l').mpr (code_less (m := m - 1) l' hu.tail hv.tail (by simp at hm; omega) ⟨p, by omega, fun i hi => h2 (i + 1) (by omega), h3⟩)
end
end LM
end
section
set_option maxRecDepth 100000
set_option maxHeartbeats 4000000
set_option exponentiation.threshold 9000
namespace K11
open PySem PySem.Spec PyProof.Rows L2 MB LM
open LamX hiding takes0
theorem pow_small {q : Int} (hq : LetQ q) {i : Nat} (hi : i ≤ 8) : (q ^ i).natAbs < 2 ^ 30 := by
  rw [Int.natAbs_pow]
  have h1 : q.natAbs ≤ 5 := by have := hq.lo; have := hq.hi; omega
  have h2 : q.natAbs ^ i ≤ 5 ^ i := Nat.pow_le_pow_left h1 i
  have h3 : 5 ^ i ≤ 5 ^ 8 := Nat.pow_le_pow_right (by decide) hi
  exact Nat.lt_of_le_of_lt (Nat.le_trans h2 h3) (by decide)
section
variable {w : World} {K : PySem.W.Frag} {mg : Str → Option Value} {base : Heap}
def spCount (T : Txt K mg) : Sp := fun vs H Q _ => ∃ (b : Addr) (q : Int) (n : Nat) (Ps : List (Nat × List Int)), vs = [.ref b] ∧ BookR T H b q n Ps ∧ ∀ H', Same H H' → Q (.int (q ^ Ps.length)) H'
theorem ok_count_words (T : Txt K mg) : FnOk P w K mg base CX0 1 T.a_count_words T.d_count_words P_count_words (spCount T) := by
  refine T.F_count_words.ok sc_count_words (fun vs H Q E h => ?_) (fun cdv A outer s H vs Q E hr h => ?_)
  · obtain ⟨b, q, n, Ps, rfl, _⟩ := h
    rfl
  · obtain ⟨b, q, n, Ps, rfl, hB, k⟩ := h
    refine ⟨_, 
      (pss_cons (ps_set (i := 1) sc_count_words.nd rfl (Or.inl rfl) pe_int)
      (pss_cons (ps_for PassesOwn.never rfl (pi_range1 rfl T.m_range (pa_cons (pe_fld (pv 0) rfl) pa_nil)) (pg_name (i := 2) sc_count_words.nd rfl (Or.inl rfl)) (pss_one (ps_set (i := 1) sc_count_words.nd rfl (Or.inl rfl) (pe_op op_mulW (pv 1) (pe_fld (pv 0) rfl)))))
      (pss_one (ps_ret (pv 1))))), ?_⟩
    obtain ⟨dx, fs, z, hb, bq, bn, br, bd, hz⟩ := hB.at_
    have hq := hB.lq
    have lR := rr_len hB.rr
    have n8 := hB.n8
    rw [List.length_map] at bd
    refine ⟨_, rfl, b, _, dx, fs, _, rfl, hb, T.cl_Book, T.no_Book_dimension, bd, _, rfl, by omega, by omega, for_range (lo := 0) (n := Ps.length)
      (fun i σ G => ∃ o2 : Option V, σ = [some (.ref b), some (.int (q ^ i)), o2] ∧ Same H G) ⟨none, by rw [Int.pow_zero]; rfl, Same.refl _⟩ ?_ ?_⟩
    · rintro i _ G hi ⟨o2, rfl, e⟩
      refine ⟨_, rfl, _, rfl, b, _, dx, fs, _, rfl, e _ _ hb, T.cl_Book, T.no_Book_q, bq, _, _, rfl, rfl, wide_mul (a := 30) (b := 3) (pow_small hq (by omega)) (by have := hq.lo; have := hq.hi; omega) (by decide) (by decide) (by decide), ?_⟩
      exact ⟨_, by rw [Int.pow_succ]; rfl, e⟩
    · rintro _ G ⟨o2, rfl, e⟩
      exact ⟨_, rfl, k G e⟩
theorem line_5 {m : Nat} (h : m ≤ 5 ^ 8) : m < sizeLine := by
  rw [sizeLine_eq]
  exact Nat.lt_of_le_of_lt h (by decide)
theorem len_5 {q : Int} (hq : LetQ q) {k : Nat} (hk : k ≤ 8) : q.toNat ^ k ≤ 5 ^ 8 :=
  Nat.le_trans (Nat.pow_le_pow_left (by have := hq.hi; omega) k) (Nat.pow_le_pow_right (by decide) hk)
theorem wstep_take {q : Int} {ws : List (List Int)} {r : List Int} {j : Nat} {u : List Int} (h : ws[j]? = some u) : wstep q (ws.take (j + 1)) r = wstep q (ws.take j) r ++ (lets q).map fun l => vsum q u (vtim q l r) := by
  unfold wstep
  rw [List.take_add_one, h, List.flatMap_append]
  show _ ++ ((lets q).map _ ++ []) = _
  rw [List.append_nil]
def FlF (f : Str) (E : XK) (C : Addr) (v : V) (H : Hp) : Prop := ∀ d, H d = none → E (.ref C) (some d) (upd H d (.xd [(f, v)]))
def spWords (T : Txt K mg) : Sp := fun vs H Q E => ∃ (b : Addr) (q : Int) (n : Nat) (Ps : List (Nat × List Int)) (m : Int), vs = [.ref b, .int m] ∧ BookR T H b q n Ps ∧
  (m < q ^ Ps.length → ∀ H', Same H H' → FlF "most" E T.C_TooMany (.int m) H') ∧ (q ^ Ps.length ≤ m → ∀ z H', Same H H' → TupRows K H' z (wordsL q n (Ps.map (·.2))) → Q z H')
theorem ok_words (T : Txt K mg) : FnOk P w K mg base (L2.CX P w) 3 T.a_words T.d_words P_words (spWords T) := by
  refine T.F_words.okX sc_words (fun vs H Q E h => ?_) (fun cdv A outer s H vs Q E hr h => ?_)
  · obtain ⟨b, q, n, Ps, m, rfl, _⟩ := h
    rfl
  · obtain ⟨b, q, n, Ps, m, rfl, hB, bad, good⟩ := h
    refine ⟨_, 
      (pss_cons (ps_if (pt_cmpR op_gt (pe_call (ok_count_words T) (hr.mono (by decide)) rfl T.m_count_words T.F_count_words.kp T.b_count_words .nil pass0 (pa_cons (pv 0) pa_nil)) (pv 1) (nomark _)) (pss_one (ps_raiseErr rfl T.e_TooMany hr (takes_of rfl rfl rfl rfl) (by exact (pa_cons (pv 1) pa_nil)) rfl)) pss_nil)
      (pss_cons (ps_set (i := 2) sc_words.nd rfl (Or.inl rfl) (pe_lst (pa_cons (pe_op op_repA (pe_tup (pa_cons pe_int pa_nil)) (pe_fld (pv 0) rfl)) pa_nil)))
      (pss_cons (ps_for (passes_of rfl) rfl (pi_tup (pe_fld (pv 0) rfl)) (pg_name (i := 3) sc_words.nd rfl (Or.inr rfl)) (pss_cons (ps_set (i := 4) sc_words.nd rfl (Or.inr rfl) (pe_lc (own := [("letter", 5)]) (g := gName 5) (tt := tYes) rfl sc_words.nd (pi_range1 rfl T.m_range (pa_cons (show PE _ _ (tFld K (tVar 0) "q") from pe_fld (pv 0) rfl) pa_nil)) (blkOk_by (own := [("letter", 5)]) (N := N_words) (sc := (defScope s_words)) (by decide +kernel)) (fun _ _ _ _ _ => (pg_name (i := 5) sc_words.nd rfl (Or.inl rfl))) (fun _ _ _ _ _ => pts_nil) (fun _ _ _ _ _ => (pe_call (ok_row_times T) (hr.mono (by decide)) rfl T.m_row_times T.F_row_times.kp T.b_row_times .nil pass0 (pa_cons (show PE _ _ (tFld K (tVar 0) "q") from pe_fld (pv 0) rfl) (pa_cons (pv 5) (pa_cons (pv 3) pa_nil)))))))
      (pss_one (ps_setLc2 (i := 2) (own := [("word", 6), ("part", 7)]) (vs1 := [7]) (g := gName 6) (g1 := gName 7) (tt := tYes) (tt1 := tYes) rfl sc_words.nd rfl rfl (sw_true rfl rfl rfl (by decide +kernel)) (pi_list (pv 2)) (blkOk_by (own := [("word", 6), ("part", 7)]) (N := N_words) (sc := defScope s_words) (by decide +kernel)) (by decide) (fun _ _ _ _ _ => (pg_name (i := 6) sc_words.nd rfl (Or.inl rfl))) (fun _ _ _ _ _ => pts_nil) (fun _ _ _ _ _ => (show PI _ _ _ (iList K (tVar 4)) from pi_list (pv 4))) (fun _ _ _ _ _ => (pg_name (i := 7) sc_words.nd rfl (Or.inl rfl))) (fun _ _ _ _ _ => pts_nil) (fun _ _ _ _ _ => (pe_call (ok_row_sum T) (hr.mono (by decide)) rfl T.m_row_sum T.F_row_sum.kp T.b_row_sum .nil pass0 (pa_cons (show PE _ _ (tFld K (tVar 0) "q") from pe_fld (pv 0) rfl) (pa_cons (pv 6) (pa_cons (pv 7) pa_nil)))))))))
      (pss_one (ps_ret (pe_callTy call_tuple_of (by rfl) T.m_tuple (by decide +kernel) (pa_cons (pv 2) pa_nil))))))), ?_⟩
    have hq := hB.lq
    have hR := hB.rr
    have n8 := hB.n8
    have lR := rr_len hR
    have q2 := hq.lo
    have q5 := hq.hi
    refine ⟨_, rfl, b, q, n, Ps, rfl, hB, fun H1 s1 => ⟨_, rfl, _, _, rfl, rfl, _, rfl, ?_⟩⟩
    refine ite2 (fun c => ?_) (fun c => ?_)
    · exact ⟨_, rfl, .int m, rfl, fun d hd => bad (by have := of_decide_eq_true c; omega) H1 s1 d hd⟩
    have good := good (Int.not_lt.mp fun z => c (decide_eq_true z))
    obtain ⟨dx, fs, zr, hb, bq, bn, br, bd, ar, vs, rfl, har, hpr⟩ := (hB.same s1).at_
    have lv : vs.length = Ps.length := by rw [hpr.length, List.length_map]
    refine ⟨line_s (Nat.le_of_ble_eq_true rfl), fun p1 hp1 => ⟨_, rfl, b, _, dx, fs, _, rfl, (same_upd hp1) _ _ hb, T.cl_Book, T.no_Book_n, bn, rep_rd (c := 0) ⟨p1, rfl, SqT.of upd_same⟩ (by omega) (by omega) fun z1 H2 s2 hz1 => ⟨line_s (Nat.le_of_ble_eq_true rfl), fun F hF => ?_⟩⟩⟩
    have s3 := (same_upd (o := .tup [.int 0]) hp1).trans (s2.trans (same_upd (o := .lst [z1]) hF))
    have hz3 : TI K (upd H2 F (.lst [z1])) z1 (zrow n) := by
      have := hz1.same (same_upd (o := .lst [z1]) hF)
      rw [Int.toNat_natCast] at this
      exact this
    have F3 : (upd H2 F (.lst [z1])) F = some (.lst [z1]) := upd_same
    generalize upd H2 F (.lst [z1]) = H3 at s3 hz3 F3 ⊢
    refine ⟨_, rfl, b, _, dx, fs, _, rfl, s3 _ _ hb, T.cl_Book, T.no_Book_rows, br, ar, rfl, ⟨vs, s3.tup har⟩, for_it (walk_tup (K := K) (a := ar) (xs := vs))
      (fun i σ G => ∃ (L : Addr) (o3 o4 : Option V) (fs' : List V), σ = [some (.ref b), some (.int m), some (.ref L), o3, o4, none, none, none] ∧ Same H1 G ∧ G L = some (.lst fs') ∧ Paired (TI K G) fs' (wordsL q n ((Ps.take i).map (·.2))))
      ⟨F, none, none, [z1], rfl, s3, F3, .cons hz3 .nil⟩ (fun i σ G _ ⟨_, _, _, _, _, s, _⟩ => s.tup har) ?_ ?_⟩
    · clear F3 hz3 s3 hz1 s2 hF hp1
      rintro i v _ _ G hi ⟨L, o3, o4, fs', rfl, sG, hL, pL⟩ ⟨rfl, hv⟩
      obtain ⟨r, hr', tr⟩ := paired_at hpr hv
      obtain ⟨x, hx, hxm, rfl⟩ := red_at hR hr'
      obtain ⟨xr, xl, xn, x0, x1⟩ := hR.one x hxm
      have hi' : i < Ps.length := by omega
      have et : (Ps.take (i + 1)).map (·.2) = (Ps.take i).map (·.2) ++ [x.2] := by
        rw [List.take_add_one, hx, List.map_append]
        rfl
      have lW : (wordsL q n ((Ps.take i).map (·.2))).length = q.toNat ^ i := by
        rw [wordsL_len, List.length_map, List.length_take, Nat.min_eq_left (by omega)]
      have lW1 : q.toNat ^ i * q.toNat ≤ 5 ^ 8 := by
        rw [← Nat.pow_succ]
        exact len_5 hq (by omega)
      have wall : ∀ u ∈ wordsL q n ((Ps.take i).map (·.2)), u.length = n := by
        have hRi : RR q n (Ps.take i) := ⟨fun y hy => hR.one y (List.mem_of_mem_take hy), hR.two.sublist (List.take_sublist _ _)⟩
        exact fun u hu => ((words_asc hq hRi).2 u hu).2
      obtain ⟨Ws, eW⟩ : ∃ Ws, wordsL q n ((Ps.take i).map (·.2)) = Ws := ⟨_, rfl⟩
      rw [eW] at pL lW wall
      refine ⟨_, rfl, b, _, dx, fs, _, rfl, sG _ _ hb, T.cl_Book, T.no_Book_q, bq, _, rfl, by omega, by omega, fun D hD => ?_⟩
      refine lc_it (walk_range (lo := 0) (n := q.toNat))
        (fun l G' => Same G G' ∧ ∃ ps, G' D = some (.lst ps) ∧ Paired (TI K G') ps (((lets q).take l).map fun c => vtim q c x.2)) ⟨same_upd hD, [], upd_same, .nil⟩ (fun _ _ _ _ => trivial) ?_ ?_
      · rintro l y G' _ hl ⟨e, ps, hN, pp⟩ ⟨rfl, rfl⟩
        refine ⟨rfl, ?_⟩
        refine ⟨_, rfl, b, _, dx, fs, _, rfl, (sG.trans e) _ _ hb, T.cl_Book, T.no_Book_q, bq, _, rfl, _, rfl, q, 0 + (l : Int), v, x.2, rfl, hq, ⟨by omega, by omega⟩, (tr.same (sG.trans e)), xr, by omega, fun z2 G2 s2 hz2 => ?_⟩
        rw [Int.zero_add] at hz2
        have lp : ps.length ≤ 5 := by
          rw [pp.length, List.length_map, List.length_take, lets_len]
          omega
        refine ⟨ps, s2 _ _ hN, line_le (by omega), same_set hD (e.trans s2), ps ++ [z2], upd_same, ?_⟩
        have el : (lets q).take (l + 1) = (lets q).take l ++ [(l : Int)] := by
          rw [List.take_add_one]
          congr 1
          unfold lets
          rw [List.getElem?_map, List.getElem?_range (by omega)]
          rfl
        rw [el, List.map_append]
        exact paired_snoc (rows_updl (s2 _ _ hN) (rows_same s2 pp)) (ti_updl (s2 _ _ hN) hz2)
      rintro G1 ⟨s11, ps, hD1, pp⟩
      rw [List.take_of_length_le (by rw [lets_len]; exact Nat.le_refl _)] at pp
      have lps : ps.length = q.toNat := by rw [pp.length, List.length_map, lets_len]
      have hL1 := s11 _ _ hL
      have pL1 := rows_same s11 pL
      have sG1 := sG.trans s11
      clear sG s11 hL pL hD
      refine ⟨_, rfl, L, rfl, ⟨_, SqL.of hL1⟩, fun D2 hD2 => ?_⟩
      refine out_it (walk_list (K := K) (a := L) (xs := fs'))
        (fun j G' => Same G1 G' ∧ ∃ acc, G' D2 = some (.lst acc) ∧ Paired (TI K G') acc (wstep q (Ws.take j) x.2)) ⟨same_upd hD2, [], upd_same, .nil⟩ (fun j G' _ ⟨e, _⟩ => SqL.of (e _ _ hL1)) ?_ ?_
      · rintro j y G' _ hj ⟨e, acc, hN, pa⟩ ⟨rfl, hy⟩
        obtain ⟨u, hu, tu⟩ := paired_at pL1 hy
        have lu := wall u (List.mem_of_getElem? hu)
        have hjW : j < q.toNat ^ i := by
          rw [← lW, ← pL1.length]
          exact hj
        refine ⟨rfl, ?_⟩
        refine ⟨_, rfl, D, rfl, ⟨_, SqL.of (e _ _ hD1)⟩, in_it (walk_list (K := K) (a := D) (xs := ps))
          (fun l G2 => Same G1 G2 ∧ ∃ acc, G2 D2 = some (.lst acc) ∧ Paired (TI K G2) acc (wstep q (Ws.take j) x.2 ++ ((lets q).take l).map fun c => vsum q u (vtim q c x.2)))
          ⟨e, acc, hN, by simpa using pa⟩ (fun l G2 _ ⟨e, _⟩ => SqL.of (e _ _ hD1)) ?_ ?_⟩
        · rintro l y2 G2 _ hl ⟨e2, acc2, hN2, pa2⟩ ⟨rfl, hy2⟩
          obtain ⟨r2, hr2, tr2⟩ := paired_at pp hy2
          rw [List.getElem?_map] at hr2
          have hl' : l < q.toNat := by rw [← lps]; exact hl
          have el0 : (lets q)[l]? = some (l : Int) := by
            unfold lets
            rw [List.getElem?_map, List.getElem?_range hl']
            rfl
          rw [el0] at hr2
          obtain rfl : vtim q (l : Int) x.2 = r2 := Option.some.inj hr2
          refine ⟨rfl, ?_⟩
          refine ⟨_, rfl, b, _, dx, fs, _, rfl, (sG1.trans e2) _ _ hb, T.cl_Book, T.no_Book_q, bq, _, rfl, _, rfl, q, y, y2, u, vtim q (l : Int) x.2, rfl, hq, tu.same e2, tr2.same e2, by omega, fun z3 G3 s3 hz3 => ?_⟩
          have la : acc2.length ≤ 5 ^ 8 := by
            rw [pa2.length, List.length_append, wstep_len, List.length_map, List.length_take, List.length_take, lets_len]
            have h1 : (j + 1) * q.toNat ≤ q.toNat ^ i * q.toNat := Nat.mul_le_mul_right _ hjW
            have h2 : min j Ws.length * q.toNat ≤ j * q.toNat := Nat.mul_le_mul_right _ (Nat.min_le_left _ _)
            rw [Nat.succ_mul] at h1
            have h3 : min l q.toNat ≤ q.toNat := Nat.min_le_right _ _
            omega
          refine ⟨acc2, s3 _ _ hN2, line_5 la, same_set hD2 (e2.trans s3), acc2 ++ [z3], upd_same, ?_⟩
          have el : (lets q).take (l + 1) = (lets q).take l ++ [(l : Int)] := by
            rw [List.take_add_one, el0]
            rfl
          rw [el, List.map_append, ← List.append_assoc]
          exact paired_snoc (rows_updl (s3 _ _ hN2) (rows_same s3 pa2)) (ti_updl (s3 _ _ hN2) hz3)
        · rintro G2 ⟨e2, acc2, hN2, pa2⟩
          rw [lps, show (lets q).take q.toNat = lets q from List.take_of_length_le (by rw [lets_len]; exact Nat.le_refl _), ← wstep_take hu] at pa2
          exact ⟨e2, acc2, hN2, pa2⟩
      rintro G4 ⟨e4, acc, hN, pa⟩
      have lfW : fs'.length = Ws.length := pL1.length
      rw [lfW, List.take_length] at pa
      refine ⟨D2, _, _, acc, rfl, sG1.trans e4, hN, ?_⟩
      rw [et, wordsL_snoc, eW]
      exact pa
    · rintro _ G ⟨L, o3, o4, fs', rfl, sG, hL, pL⟩
      rw [lv, List.take_length] at pL
      refine ⟨_, rfl, L, _, rfl, .inl ⟨SqL.of hL, fun p hp => ?_⟩⟩
      exact good _ _ (s1.trans (sG.trans (same_upd hp))) ⟨p, fs', rfl, SqT.of upd_same, rows_same (same_upd hp) pL⟩
end
end K11
end
section
set_option maxRecDepth 100000
set_option maxHeartbeats 4000000
set_option exponentiation.threshold 9000
namespace K11
open PySem PySem.Spec PyProof.Rows L2 MB LM
open LamX hiding takes0
theorem asInts_tup {d : PyData} {ns : List Int} (e : asInts d = some (ns.map some)) : d = .tuple (ns.map PyData.int) := by
  cases d with
  | tuple ds =>
    have hd' : ds.map asInt = ns.map some := Option.some.inj e
    clear e
    congr 1
    induction ds generalizing ns with
    | nil => cases ns with
      | nil => rfl
      | cons c r => cases hd'
    | cons d r ih =>
      cases ns with
      | nil => cases hd'
      | cons c t =>
        rw [List.map_cons, List.map_cons, List.cons.injEq] at hd'
        rw [List.map_cons, ih hd'.2]
        cases d with
        | int i =>
          obtain rfl : i = c := Option.some.inj hd'.1
          rfl
        | _ => cases hd'.1
  | _ => cases e
theorem asInts_ints (ns : List Int) : asInts (.tuple (ns.map PyData.int)) = some (ns.map some) := by
  show some ((ns.map PyData.int).map asInt) = _
  rw [List.map_map]
  rfl
theorem dq_lev {K : PySem.W.Frag} {H : Hp} {v : V} {d : PyData} (h : Dq K H v d) (hl : ∀ es, d = .tuple es → es.length ≤ 1000) : Lev K H v (asInts d) := by
  cases d with
  | tuple ds =>
    cases h with
    | tup h1 h2 => exact ⟨_, ⟨_, rfl, h1⟩, h2.ints, by rw [h2.length]; exact hl _ rfl⟩
  | _ => exact h.noTuple rfl
theorem told_word {s : String} (h : s.length ≤ 20) : Told (.str (Str.ofString s)) := (sz_text (k := 0) h).told (by decide) (by decide)
theorem dq_ints {K : PySem.W.Frag} {H : Hp} : ∀ ns : List Int, DqAll K H (ns.map V.int) (ns.map PyData.int)
  | [] => .nil
  | c :: r => .cons (.int c) (dq_ints r)
theorem ints_eq {K : PySem.W.Frag} {H : Hp} : ∀ {xs : List V} {ns : List Int}, DqAll K H xs (ns.map PyData.int) → xs = ns.map V.int
  | _, [], h => by cases h; rfl
  | _, c :: r, h => by
    cases h with
    | cons h1 h2 =>
      cases h1
      rw [ints_eq h2]
      rfl
theorem told_letters {q : Int} (hq : LetQ q) {ns : List Int} (hl : ns.length ≤ 16) (hr : IsRow q ns) : Told (.tuple (ns.map PyData.int)) :=
  (sz_tup (k := 0) ((szAll_ints ns fun c hc => Nat.lt_of_le_of_lt (by have := hr c hc; have := hq.hi; unfold IsLet at *; omega : c.natAbs ≤ 5) (by decide)).mono (Nat.le_refl _) (Nat.le_refl _))).told (by omega) (by decide)
theorem pos_ne {q a : Int} (h : IsLet q a) : decide (0 < a) = decide (a ≠ 0) := by
  obtain ⟨h1, h2⟩ := h
  by_cases c : a = 0
  · rw [c]
    rfl
  · rw [decide_eq_true c, decide_eq_true (by omega)]
theorem TI.dq {K : PySem.W.Frag} {d l : Addr} {H : Hp} {v : V} {ns : List Int} (D : Deck kL H d l) (h : TI K H v ns) : Dq K (hide d l H) v (.tuple (ns.map PyData.int)) := by
  obtain ⟨a, rfl, ha⟩ := h
  exact .tup (sqT_hide D ha) (dq_ints ns)
theorem newer_hide {H H' : Hp} {d l : Addr} (D : Deck kL H d l) : Same (newer H H') (hide d l H') := fun b u e => by
  obtain ⟨e1, e2⟩ := newer_some e
  have h1 : b ≠ d := fun z => D.there.1 (by rw [← z]; exact e1)
  have h2 : b ≠ l := fun z => D.there.2 (by rw [← z]; exact e1)
  rw [hide_off h1 h2]
  exact e2
theorem small_sz {k : Nat} {ns : List Int} (hl : ns.length ≤ 16) (hs : ∀ c ∈ ns, c.natAbs < 10) : SzAll 16 k (ns.map PyData.int) :=
  (szAll_ints ns fun c hc => by have h42 : (10 : Nat) ^ 42 > 10 := by decide
                                have := hs c hc
                                omega).mono hl (Nat.le_refl _)
theorem put_new {G0 G : Hp} {d l p : Addr} {o : HO} (b : But d l G0 G) (D : Deck kL G d l) (hp : G p = none) : newer G0 (upd G p o) p = some o ∧ Same (newer G0 G) (newer G0 (upd G p o)) := by
  have p0 : G0 p = none := b.free D hp
  exact ⟨by rw [newer_at p0, upd_same], newer_step fun c u h1 h2 => same_upd hp _ _ h2⟩
theorem szB_len {b k : Nat} {es : List PyData} (h : Sz b k (.tuple es)) : es.length ≤ b := by
  have h1 := h.bu
  have h2 : ∀ ds : List PyData, ds.length ≤ PyData.bulkAll ds := by
    intro ds
    induction ds with
    | nil => exact Nat.zero_le _
    | cons d r ih =>
      simp only [PyData.bulkAll, List.length_cons]
      omega
  have := h2 es
  simp only [PyData.bulk] at h1
  omega
theorem TI.but {K : PySem.W.Frag} {d l : Addr} {H H' : Hp} {v : V} {ns : List Int} (h : TI K H v ns) (D : Deck kL H d l) (e : But d l H H') : TI K H' v ns :=
  let ⟨a, h1, h2⟩ := h
  ⟨a, h1, e.tup D h2⟩
theorem vk_of {t : TE} {σ : L2.St} {H : Hp} {Q : VK} (P : V → Hp → Prop) (h : ∀ Q' : VK, (∀ z H', P z H' → Q' z H') → t σ H Q') (k : ∀ z H', P z H' → Q z H') : t σ H Q := h Q k
def DrawnI (q : Int) (d l D : Addr) (H1 : Hp) (i : Nat) (H' : Hp) : Prop := But d l H1 H' ∧ Deck kL H' d l ∧ D ≠ d ∧ D ≠ l ∧ ∃ rs : List Int, rs.length = i ∧ IsRow q rs ∧ H' D = some (.lst (rs.map V.int))
theorem drawn_zero {q : Int} {d l D : Addr} {H1 : Hp} (Dk : Deck kL H1 d l) (hD : H1 D = none) : DrawnI q d l D H1 0 (upd H1 D (.lst [])) :=
  have h := Dk.off hD
  ⟨(But.refl).upd hD, Dk.upd h.1 h.2, h.1, h.2, [], rfl, (fun _ hc => by cases hc), upd_same⟩
theorem drawn_succ {q : Int} {d l D : Addr} {H1 H' G : Hp} {i : Nat} {r : Int} (hD : H1 D = none) (h : DrawnI q d l D H1 i H') (hi : i ≤ 1000) (e : But d l H' G) (Dk : Deck kL G d l) (r0 : 0 ≤ r) (r1 : r < q) :
    ∃ acc, G D = some (.lst acc) ∧ acc.length < sizeLine ∧ DrawnI q d l D H1 (i + 1) (upd G D (.lst (acc ++ [.int r]))) := by
  obtain ⟨b, _, n1, n2, rs, lr, hr, hN⟩ := h
  refine ⟨_, e _ _ hN n1 n2, by rw [List.length_map]; exact line_le (by omega), (b.trans e).upd hD, Dk.upd n1 n2, n1, n2, rs ++ [r], by rw [List.length_append, lr]; rfl, ?_, by rw [upd_same, List.map_append]; rfl⟩
  intro z hz
  rcases List.mem_append.mp hz with hz | hz
  · exact hr z hz
  · rw [List.mem_singleton.mp hz]
    exact ⟨r0, r1⟩
theorem let_nat {q a : Int} (hq : LetQ q) (h : IsLet q a) : a.natAbs < 10 := by
  have := hq.hi
  obtain ⟨h1, h2⟩ := h
  omega
theorem zw {ns : List Int} (hl : ns.length ≤ 16) (hs : ∀ c ∈ ns, c.natAbs < 10) : Sz 800 6 (.tuple (ns.map PyData.int)) := (sz_tup (k := 0) (small_sz hl hs)).mono
theorem int_told {i : Int} (h : i.natAbs < 10) : Told (.int i) := (sz_int (b := 0) (k := 0) (Nat.lt_trans h (by decide))).told (by decide) (by decide)
theorem paired_ti {K : PySem.W.Frag} {d l : Addr} {H H' : Hp} {vs : List V} {Ls : List (List Int)} (D : Deck kL H d l) (e : But d l H H') (h : Paired (TI K H) vs Ls) : Paired (TI K H') vs Ls := by
  induction h with
  | nil => exact .nil
  | cons r _ ih => exact .cons (r.but D e) ih
theorem ti_dq {K : PySem.W.Frag} {H : Hp} {v : V} {ns : List Int} (h : TI K H v ns) : Dq K H v (.tuple (ns.map PyData.int)) := by
  obtain ⟨a, rfl, ha⟩ := h
  exact .tup ha (dq_ints ns)
theorem tupRows_but {K : PySem.W.Frag} {d l : Addr} {H H' : Hp} {v : V} {Ls : List (List Int)} (D : Deck kL H d l) (e : But d l H H') (h : TupRows K H v Ls) : TupRows K H' v Ls := by
  obtain ⟨a, vs, rfl, h1, h2⟩ := h
  exact ⟨a, vs, rfl, e.tup D h1, paired_ti D e h2⟩
theorem RowsF.but {K : PySem.W.Frag} {d l : Addr} {H H' : Hp} {v : V} {Ps : List (Nat × List Int)} (h : RowsF K H v Ps) (D : Deck kL H d l) (e : But d l H H') : RowsF K H' v Ps := by
  obtain ⟨a, vs, rfl, h1, h2⟩ := h
  exact ⟨a, vs, rfl, e.tup D h1, pairedF_but D e h2⟩
theorem seq_cut {t u : TS} {D : Ends} {σ : L2.St} {H : Hp} (P : L2.St → Hp → Prop) (h1 : ∀ D' : Ends, (∀ σ' H', P σ' H' → D'.nx σ' H') → t D' σ H) (h2 : ∀ σ' H', P σ' H' → u D σ' H') : tSeq t u D σ H := h1 { D with nx := u D } h2
theorem seq_cutI {c : TT} {ta tb u : TS} {D : Ends} {σ : L2.St} {H : Hp} (P : L2.St → Hp → Prop) (h1 : ∀ D' : Ends, (∀ σ' H', P σ' H' → D'.nx σ' H') → tIfS c ta tb D' σ H) (h2 : ∀ σ' H', P σ' H' → u D σ' H') : tSeq (tIfS c ta tb) u D σ H := seq_cut P h1 h2
theorem cat_rd {K : PySem.W.Frag} {H : Hp} {u v : V} {ns ms : List Int} {Q : VK} (hu : TI K H u ns) (hv : TI K H v ms) (hl : ns.length + ms.length ≤ 100000)
    (q : ∀ z H', Same H H' → TI K H' z (ns ++ ms) → Q z H') : rCatA K u v H Q := by
  obtain ⟨a, rfl, ha⟩ := hu
  obtain ⟨b, rfl, hb⟩ := hv
  refine ⟨a, b, _, _, rfl, rfl, ha, hb, by rw [List.length_map, List.length_map]; exact Nat.le_of_lt (line_le hl), fun e => ?_, fun _ e => ?_, fun _ _ p hp => ?_⟩
  · obtain rfl : ns = [] := List.map_eq_nil_iff.mp e
    exact q _ _ (Same.refl _) ⟨b, rfl, hb⟩
  · obtain rfl : ms = [] := List.map_eq_nil_iff.mp e
    refine q _ _ (Same.refl _) ⟨a, rfl, ?_⟩
    rw [List.append_nil]
    exact ha
  · refine q _ _ (same_upd hp) ⟨p, rfl, ?_⟩
    rw [List.map_append]
    exact SqT.of upd_same
theorem cut_to {ns : List Int} {j : Nat} (h : j ≤ ns.length) : cutV (ns.map V.int) none (some (j : Int)) = (ns.take j).map V.int := by
  unfold cutV
  rw [HT.sIx_nat, List.length_map]
  show ((ns.map V.int).drop 0).take (min j ns.length - 0) = _
  rw [List.drop_zero, Nat.sub_zero, Nat.min_eq_left h, List.map_take]
theorem cut_from {ns : List Int} {j : Nat} (h : j ≤ ns.length) : cutV (ns.map V.int) (some (j : Int)) none = (ns.drop j).map V.int := by
  unfold cutV
  rw [HT.sIx_nat, List.length_map]
  show ((ns.map V.int).drop (min j ns.length)).take (ns.length - min j ns.length) = _
  rw [Nat.min_eq_left h, List.map_drop, List.take_of_length_le (by rw [List.length_drop, List.length_map]; exact Nat.le_refl _)]
theorem slice_rd {K : PySem.W.Frag} {H : Hp} {u : V} {ns ms : List Int} {lo hi : Option Int} {Q : VK} (hu : TI K H u ns) (e : cutV (ns.map V.int) lo hi = ms.map V.int)
    (w : HT.sIx ns.length 0 lo = 0 ∧ HT.sIx ns.length ns.length hi = ns.length → ms = ns) (q : ∀ z H', Same H H' → TI K H' z ms → Q z H') : rSlA K u lo hi H Q := by
  obtain ⟨a, rfl, ha⟩ := hu
  refine ⟨a, _, rfl, ha, fun hw => ?_, fun _ p hp => ?_⟩
  · rw [List.length_map] at hw
    rw [w hw] at q
    exact q _ _ (Same.refl _) ⟨a, rfl, ha⟩
  · rw [e]
    exact q _ _ (same_upd hp) ⟨p, rfl, SqT.of upd_same⟩
theorem to_rd {K : PySem.W.Frag} {H : Hp} {u : V} {ns : List Int} {j : Nat} {Q : VK} (hu : TI K H u ns) (h : j ≤ ns.length)
    (q : ∀ z H', Same H H' → TI K H' z (ns.take j) → Q z H') : rSlA K u none (some (j : Int)) H Q :=
  slice_rd hu (cut_to h) (fun hw => by
    have := hw.2
    rw [HT.sIx_nat] at this
    exact List.take_of_length_le (by omega)) q
theorem from_rd {K : PySem.W.Frag} {H : Hp} {u : V} {ns : List Int} {j : Nat} {Q : VK} (hu : TI K H u ns) (h : j ≤ ns.length)
    (q : ∀ z H', Same H H' → TI K H' z (ns.drop j) → Q z H') : rSlA K u (some (j : Int)) none H Q :=
  slice_rd hu (cut_from h) (fun hw => by
    have := hw.1
    rw [HT.sIx_nat] at this
    have : j = 0 := by omega
    subst this
    rfl) q
theorem bent_row {q r : Int} {ns : List Int} {j : Nat} (hr : IsRow q ns) (h : IsLet q r) (hj : j < ns.length) : IsRow q (ns.take j ++ [r] ++ ns.drop (j + 1)) ∧ (ns.take j ++ [r] ++ ns.drop (j + 1)).length = ns.length := by
  constructor
  · intro c hc
    rcases List.mem_append.mp hc with hc | hc
    · rcases List.mem_append.mp hc with hc | hc
      · exact hr c (List.mem_of_mem_take hc)
      · rw [List.mem_singleton.mp hc]
        exact h
    · exact hr c (List.mem_of_mem_drop hc)
  · rw [List.length_append, List.length_append, List.length_take, List.length_drop]
    simp
    omega
def rowsD (Ls : List (List Int)) : PyData := .tuple (Ls.map fun r => .tuple (r.map PyData.int))
theorem dq_rows {K : PySem.W.Frag} {H : Hp} {v : V} {Ls : List (List Int)} (h : TupRows K H v Ls) : Dq K H v (rowsD Ls) := by
  obtain ⟨a, vs, rfl, h1, h2⟩ := h
  refine .tup h1 ?_
  clear h1
  induction h2 with
  | nil => exact .nil
  | cons r _ ih => exact .cons (ti_dq r) ih
theorem sz_rows {q : Int} (hq : LetQ q) : ∀ {Ls : List (List Int)}, (∀ r ∈ Ls, IsRow q r ∧ r.length ≤ 8) → ∃ b, b ≤ 801 * Ls.length ∧ SzAll b 6 (Ls.map fun r => PyData.tuple (r.map PyData.int))
  | [], _ => ⟨0, Nat.zero_le _, szAll_nil⟩
  | r :: Ls, h => by
    obtain ⟨b, hb, hs⟩ := sz_rows hq fun r hr => h r (List.mem_cons_of_mem _ hr)
    have hr := h r List.mem_cons_self
    refine ⟨_, ?_, szAll_cons (zw (by omega) fun c hc => let_nat hq (hr.1 c hc)) hs⟩
    rw [List.length_cons]
    omega
theorem told_rows {q : Int} (hq : LetQ q) {Ls : List (List Int)} (h : ∀ r ∈ Ls, IsRow q r ∧ r.length ≤ 8) (hl : Ls.length ≤ 8) : Told (rowsD Ls) := by
  obtain ⟨b, hb, hs⟩ := sz_rows hq h
  exact (sz_tup hs).told (by omega) (by decide)
theorem dq_ti {K : PySem.W.Frag} {H : Hp} {v : V} {ns : List Int} (h : Dq K H v (.tuple (ns.map PyData.int))) : TI K H v ns := by
  cases h with
  | tup h1 h2 =>
    rw [ints_eq h2] at h1
    exact ⟨_, rfl, h1⟩
theorem ground {H G : Hp} (e : ExtN H G) : Same (noT H) G := (extN_noT e).trans noT_sub
theorem ext_hide {d l : Addr} {H H' : Hp} (e : ExtN H H') : ExtN (hide d l H) (hide d l H') := fun b u q n => by
  have q' : (if b = d ∨ b = l then none else H b) = some u := q
  show (if b = d ∨ b = l then none else H' b) = some u
  split at q'
  · cases q'
  · rename_i nb
    rw [if_neg nb]
    exact e b u q' n
theorem TI.ext {K : PySem.W.Frag} {H H' : Hp} {v : V} {ns : List Int} (h : TI K H v ns) (e : ExtN H H') : TI K H' v ns := by
  obtain ⟨a, rfl, ha⟩ := h
  exact ⟨a, rfl, (ground e).tup (sqT_noT ha)⟩
theorem rows_ext {K : PySem.W.Frag} {H H' : Hp} {vs : List V} {Ls : List (List Int)} (e : ExtN H H') (h : Paired (TI K H) vs Ls) : Paired (TI K H') vs Ls := by
  induction h with
  | nil => exact .nil
  | cons r _ ih => exact .cons (r.ext e) ih
theorem rowsF_ext {K : PySem.W.Frag} {H H' : Hp} {vs : List V} {Ls : List (List Int)} (e : ExtN H H') (h : Paired (TIF K H) vs Ls) : Paired (TIF K H') vs Ls := by
  induction h with
  | nil => exact .nil
  | cons r _ ih =>
    obtain ⟨a, o, rfl, h1, h2⟩ := r
    exact .cons ⟨a, o, rfl, e _ _ h1 (by intro ps z; cases z), h2⟩ ih
theorem RowsF.ext {K : PySem.W.Frag} {H H' : Hp} {v : V} {Ps : List (Nat × List Int)} (h : RowsF K H v Ps) (e : ExtN H H') : RowsF K H' v Ps := by
  obtain ⟨a, vs, rfl, h1, h2⟩ := h
  exact ⟨a, vs, rfl, (ground e).tup (sqT_noT h1), rowsF_ext e h2⟩
theorem dq_ext {K : PySem.W.Frag} {H H' : Hp} {v : V} {dd : PyData} (h : Dq K H v dd) (e : ExtN H H') : Dq K H' v dd := Dq.same (ground e) _ _ (Dq.noT _ _ h)
theorem ext_lst {H G : Hp} {L : Addr} {o : HO} (e : ExtN H G) (n : noT H L = none) : ExtN H (upd G L o) := fun b u q nt => by
  have bL : b ≠ L := fun w => by
    have := noT_some q nt
    rw [w, n] at this
    cases this
  rw [upd_ne bL]
  exact e b u q nt
theorem tabs_lst {TT : List (Addr × Str)} {G : Hp} {L : Addr} {xs ys : List V} (t : Tabs TT G) (h : G L = some (.lst xs)) : Tabs TT (upd G L (.lst ys)) := fun p hp => by
  obtain ⟨ps, a1, a2, a3⟩ := t p hp
  refine ⟨ps, by rw [upd_ne (ne_of a1 h (by intro w; cases w))]; exact a1, a2, fun pos cv hc => ?_⟩
  obtain ⟨c, e1, e2⟩ := a3 pos cv hc
  exact ⟨c, e1, by rw [upd_ne (ne_of e2 h (codeO_form.2 _))]; exact e2⟩
theorem new_of {H G : Hp} {L : Addr} (e : ExtN H G) (h : G L = none) : noT H L = none := by
  cases q : noT H L with
  | none => rfl
  | some o =>
    have := ground e _ _ q
    rw [h] at this
    cases this
theorem sqT_updl {K : PySem.W.Frag} {H : Hp} {L a : Addr} {us xs : List V} {ys : List V} (hL : H L = some (.lst us)) (h : SqT K H a xs) : SqT K (upd H L (.lst ys)) a xs := by
  rcases h with (h | ⟨o, h⟩) | h
  · exact .inl (.inl (by rw [upd_ne (ne_of h hL (by intro z; cases z))]; exact h))
  · exact .inl (.inr ⟨o, by rw [upd_ne (ne_of h hL (by intro z; cases z))]; exact h⟩)
  · exact .inr h
theorem paired_rev {α β : Type} {R : α → β → Prop} {xs : List α} {ys : List β} (h : Paired R xs ys) : Paired R xs.reverse ys.reverse := by
  induction h with
  | nil => exact .nil
  | cons r _ ih =>
    rw [List.reverse_cons, List.reverse_cons]
    exact paired_snoc ih r
theorem seq_cutA {te : TE} {g : TG} {u : TS} {D : Ends} {σ : L2.St} {H : Hp} (P : L2.St → Hp → Prop) (h1 : ∀ D' : Ends, (∀ σ' H', P σ' H' → D'.nx σ' H') → tAsg te g D' σ H) (h2 : ∀ σ' H', P σ' H' → u D σ' H') : tSeq (tAsg te g) u D σ H := seq_cut P h1 h2
theorem seq_cutF {te : L2.TI} {g : TG} {tb : TS} {u : TS} {D : Ends} {σ : L2.St} {H : Hp} (P : L2.St → Hp → Prop) (h1 : ∀ D' : Ends, (∀ σ' H', P σ' H' → D'.nx σ' H') → tFor te g tb D' σ H) (h2 : ∀ σ' H', P σ' H' → u D σ' H') : tSeq (tFor te g tb) u D σ H := seq_cut P h1 h2
section
variable {w : World} {K : PySem.W.Frag} {mg : Str → Option Value} {base : Heap}
theorem ok__law_any (T : Txt K mg) : FnOk P w K mg base CX0 (2 + 3) T.a__law_any T.d__law_any P__law_any (spAny K 2) := ok_any2 T
theorem BookR.but {T : Txt K mg} {d l : Addr} {H H' : Hp} {b : Addr} {q : Int} {n : Nat} {Ps : List (Nat × List Int)} (h : BookR T H b q n Ps) (D : Deck kL H d l) (e : But d l H H') : BookR T H' b q n Ps := by
  obtain ⟨⟨dx, fs, z, h1, h2, h3, h4, h5, h6⟩, hr, hq, hn⟩ := h
  obtain ⟨m, m', cs, g1, g2, _⟩ := D.ex
  exact ⟨⟨dx, fs, z, e _ _ h1 (ne_of h1 g1 (by intro z; cases z)) (ne_of h1 g2 (by intro z; cases z)), h2, h3, h4, h5, tupRows_but D e h6⟩, hr, hq, hn⟩
theorem BookR.ext {T : Txt K mg} {H H' : Hp} {b : Addr} {q : Int} {n : Nat} {Ps : List (Nat × List Int)} (h : BookR T H b q n Ps) (e : ExtN H H') : BookR T H' b q n Ps := by
  obtain ⟨⟨dx, fs, z, h1, h2, h3, h4, h5, a, vs, h6, h7, h8⟩, hr, hq, hn⟩ := h
  exact ⟨⟨dx, fs, z, e _ _ h1 (by intro ps z; cases z), h2, h3, h4, h5, a, vs, h6, (ground e).tup (sqT_noT h7), rows_ext e h8⟩, hr, hq, hn⟩
theorem BookR.no {T : Txt K mg} {H : Hp} {b : Addr} {q : Int} {n : Nat} {Ps : List (Nat × List Int)} (h : BookR T H b q n Ps) : TupQ K H (.ref b) none := by
  obtain ⟨⟨dx, fs, z, h1, _⟩, _⟩ := h
  exact ⟨_, ty_book T h1, T.is_Book.nt⟩
end
end K11
end
section
set_option maxRecDepth 100000
set_option maxHeartbeats 4000000
set_option exponentiation.threshold 9000
namespace K11
open PySem PySem.Spec PyProof.Rows L2 MB LM
open LamX hiding takes0
def rTupOf (K : PySem.W.Frag) : List V → Hp → VK → Prop := fun xs H Q => ∃ p ys, xs = [V.ref p] ∧ ((SqL K H p ys ∧ ∀ l : Addr, H l = none → Q (V.ref l) (upd H l (.tup ys))) ∨ SqT K H p ys ∧ Q (V.ref p) H)
def rowD (d : PyData) : List Int := ((asInts d).getD []).map (·.getD 0)
def wrong (q : Int) (n : Nat) (Ps : List (Nat × List Int)) (ds : List PyData) : Option Nat := ds.findIdx? fun d => !wordQ q n Ps (asInts d)
def suppW (n : Nat) (Ws : List (List Int)) : List Int := ((List.range n).filter fun p => Ws.any fun w => decide (w.getD p 0 ≠ 0)).map fun p : Nat => (p : Int)
theorem suppW_next (p : Nat) (Ws : List (List Int)) : suppW (p + 1) Ws = suppW p Ws ++ (if (Ws.any fun w => decide (w.getD p 0 ≠ 0)) = true then [(p : Int)] else []) := by
  unfold suppW
  rw [List.range_succ, List.filter_append, List.map_append]
  congr 1
  by_cases c : (Ws.any fun w => decide (w.getD p 0 ≠ 0)) = true
  · rw [if_pos c, List.filter_cons, if_pos c]
    rfl
  · rw [if_neg c, List.filter_cons, if_neg c]
    rfl
def StackOk (dd : PyData) : Prop := ∀ ds, dd = .tuple ds → ds.length ≤ 1000 ∧ ∀ d ∈ ds, ∀ es, d = .tuple es → es.length ≤ 1000
theorem word_row {q : Int} {n : Nat} {Ps : List (Nat × List Int)} {d : PyData} (h : wordQ q n Ps (asInts d) = true) : d = .tuple ((rowD d).map PyData.int) ∧ IsRow q (rowD d) ∧ (rowD d).length = n ∧ InB q n Ps (rowD d) := by
  unfold wordQ at h
  rw [Bool.and_eq_true] at h
  obtain ⟨os, eo, ro, lo⟩ := row_of h.1
  have er : rowD d = os := by
    unfold rowD
    rw [eo, got]
  have h2 : inBQ q n Ps os = true := by
    have z := h.2
    rw [eo, got] at z
    exact z
  rw [er]
  exact ⟨asInts_tup eo, ro, by omega, of_decide_eq_true h2⟩
theorem wrong_some {q : Int} {n : Nat} {Ps : List (Nat × List Int)} {ds : List PyData} {i : Nat} {d : PyData} (hd : ds[i]? = some d) (hw : wordQ q n Ps (asInts d) = false) (hb : ∀ j, j < i → ∀ e, ds[j]? = some e → wordQ q n Ps (asInts e) = true) : wrong q n Ps ds = some i := by
  obtain ⟨hi, e⟩ := List.getElem?_eq_some_iff.mp hd
  unfold wrong
  rw [List.findIdx?_eq_some_iff_getElem]
  refine ⟨hi, by rw [e, hw]; rfl, fun j hj => ?_⟩
  rw [hb j hj _ (List.getElem?_eq_getElem (by omega))]
  decide
theorem wrong_none {q : Int} {n : Nat} {Ps : List (Nat × List Int)} {ds : List PyData} (hb : ∀ j, j < ds.length → ∀ e, ds[j]? = some e → wordQ q n Ps (asInts e) = true) : wrong q n Ps ds = none := by
  unfold wrong
  rw [List.findIdx?_eq_none_iff]
  intro d hd
  obtain ⟨j, hj, rfl⟩ := List.mem_iff_getElem.mp hd
  rw [hb j hj _ (List.getElem?_eq_getElem hj)]
  rfl
theorem ixT_rd {K : PySem.W.Frag} {H : Hp} {v : V} {ns : List Int} {p : Nat} {i : Int} {Q : VK} (h : TI K H v ns) (hp : p < ns.length) (e : i = (p : Int)) (q : Q (.int (ns.getD p 0)) H) : rIxT K v (.int i) H Q := by
  subst e
  obtain ⟨a, rfl, ha⟩ := h
  exact ⟨a, _, _, _, rfl, rfl, ha, atI_nat (j := p) (getD_at hp), q⟩
section
variable {w : World} {K : PySem.W.Frag} {mg : Str → Option Value} {base : Heap}
def spWords0 (T : Txt K mg) : Sp := fun vs H Q _ => ∃ (b : Addr) (q : Int) (n : Nat) (Ps : List (Nat × List Int)) (m : Int), vs = [.ref b, .int m] ∧ BookR T H b q n Ps ∧ q ^ Ps.length ≤ m ∧ ∀ z H', Same H H' → TupRows K H' z (wordsL q n (Ps.map (·.2))) → Q z H'
theorem ok0_words (T : Txt K mg) : FnOk P w K mg base L2.CX0 3 T.a_words T.d_words P_words (spWords0 T) :=
  (MB.FnOk.quiet (ok_words T)).imp fun vs H Q E ⟨b, q, n, Ps, m, e, hB, hm, k⟩ => ⟨b, q, n, Ps, m, e, hB, (fun z => by omega), fun _ => k⟩
def spStack (T : Txt K mg) : Sp := fun vs H Q E => ∃ (b : Addr) (q : Int) (n : Nat) (Ps : List (Nat × List Int)) (v : V) (dd : PyData), vs = [.ref b, v] ∧ BookR T H b q n Ps ∧ Dq K H v dd ∧ StackOk dd ∧
  (asTuple dd = none → ∀ H', Same H H' → FlF "number" E T.C_BadStack (.int (-1)) H') ∧ (∀ ds i, dd = .tuple ds → wrong q n Ps ds = some i → ∀ H', Same H H' → FlF "number" E T.C_BadStack (.int (i : Int)) H') ∧
  ∀ ds, dd = .tuple ds → wrong q n Ps ds = none → ∀ z H', Same H H' → TI K H' z (suppW n (ds.map rowD)) → Q z H'
theorem ok_stack_support (T : Txt K mg) : FnOk P w K mg base (L2.CX P w) 8 T.a_stack_support T.d_stack_support P_stack_support (spStack T) := by
  refine T.F_stack_support.okX sc_stack_support (fun vs H Q E h => ?_) (fun cdv A outer s H vs Q E hr h => ?_)
  · obtain ⟨b, q, n, Ps, v, dd, rfl, _⟩ := h
    rfl
  · obtain ⟨b, q, n, Ps, v, dd, rfl, hB, hv, hok, bad, bad2, good⟩ := h
    refine ⟨_, 
      (pss_cons (ps_if (pt_not (pt_val (pe_callB (id := "isinstance") (r := rIsi K) call_isi (by rfl) T.m_isinstance (by decide +kernel) (pa_cons (pv 1) (pa_cons (pe_bltn (by rfl) T.m_tuple (v := .ty "tuple") (by decide +kernel) rfl) pa_nil))))) (pss_one (ps_raiseErr rfl T.e_BadStack hr (takes_of rfl rfl rfl rfl) (by exact (pa_cons (pe_un un_neg pe_int) pa_nil)) rfl)) pss_nil)
      (pss_cons (ps_for (passes_of rfl) rfl (pi_enumT (by rfl) T.m_enumerate (pa_cons (pv 1) pa_nil)) (pg_tup rfl (pgs_cons (pg_name (i := 2) sc_stack_support.nd rfl (Or.inl rfl)) (pgs_cons (pg_name (i := 3) sc_stack_support.nd rfl (Or.inl rfl)) pgs_nil))) (pss_one (ps_if (pt_not (pt_val (pe_call (ok_is_word T) (hr.mono (by decide)) rfl T.m_is_word T.F_is_word.kp T.b_is_word .nil pass0 (pa_cons (pv 0) (pa_cons (pv 3) pa_nil))))) (pss_one (ps_raiseErr rfl T.e_BadStack hr (takes_of rfl rfl rfl rfl) (by exact (pa_cons (pv 2) pa_nil)) rfl)) pss_nil)))
      (pss_one (ps_ret (pe_callTy call_tuple_of (by rfl) T.m_tuple (by decide +kernel) (pa_cons (pe_lc (own := [("place", 4)]) (g := gName 4)  rfl sc_stack_support.nd (pi_range1 rfl T.m_range (pa_cons (pe_fld (pv 0) rfl) pa_nil)) (blkOk_by (own := [("place", 4)]) (N := N_stack_support) (sc := (defScope s_stack_support)) (by decide +kernel)) (fun _ _ _ _ _ => (pg_name (i := 4) sc_stack_support.nd rfl (Or.inr rfl))) (fun _ _ _ _ _ => (pts_one (pt_val (pe_callB (id := "any") (r := rAny K) (cr_any rfl) (by rfl) T.m_any (by decide +kernel) (pa_cons (pe_lc (own := [("item", 5)]) (g := gName 5) (tt := tYes) rfl sc_stack_support.nd (show PI _ _ _ (iTup K (tVar 1)) from pi_tup (pv 1)) (blkOk_by (own := [("item", 5)]) (N := N_stack_support) (sc := { kind := .function, names := [(".0", .local), ("place", .cell), ("any", .globalImplicit), ("stack", .cell)], isGenerator := false, isCoroutine := false }) (by decide +kernel)) (fun _ _ _ _ _ => (pg_name (i := 5) sc_stack_support.nd rfl (Or.inl rfl))) (fun _ _ _ _ _ => pts_nil) (fun _ _ _ _ _ => (pe_cmpR op_ne (pe_ix (r := rIxT K) ix_tup (pv 5) (pv 4) (fun _ _ => rfl)) pe_int (nomark _)))) pa_nil))))) (fun _ _ _ _ _ => (pv 4))) pa_nil)))))), ?_⟩
    have n8 := hB.n8
    cases et : asTuple dd with
    | none =>
      obtain ⟨t, ht, hk⟩ := hv.noTuple et
      refine ⟨_, rfl, _, _, _, _, _, rfl, .ty "tuple", ht, hk, false, rfl, ?_⟩
      exact iteT ⟨1, rfl, _, rfl, fun d hd => bad et H (Same.refl _) d hd⟩
    | some ds =>
      obtain rfl : dd = .tuple ds := by
        cases dd <;> first | (cases et; rfl) | cases et
      obtain ⟨hl, hes⟩ := hok ds rfl
      obtain ⟨a, xs, rfl, ha, hda⟩ : ∃ a xs, v = .ref a ∧ SqT K H a xs ∧ DqAll K H xs ds := by
        cases hv with
        | tup h1 h2 => exact ⟨_, _, rfl, h1, h2⟩
      refine ⟨_, rfl, _, _, _, _, _, rfl, .ty "tuple", tyx_tup ha, kit_ty (r := true) (by decide +kernel), true, rfl, iteF ?_⟩
      have lx : xs.length = ds.length := hda.length
      refine ⟨_, rfl, a, _, rfl, ha, for_it (walk_enumT (K := K) (a := a) (xs := xs))
        (fun i σ G => ∃ u2 u3 : Option V, σ = [some (.ref b), some (.ref a), u2, u3, none, none] ∧ Same H G ∧ ∀ j, j < i → ∀ e, ds[j]? = some e → wordQ q n Ps (asInts e) = true) ⟨none, none, rfl, Same.refl _, fun j hj => by omega⟩ (fun i σ G _ ⟨_, _, _, e, _⟩ => e.tup ha) ?_ ?_⟩
      · rintro i z _ G G' hi ⟨u2, u3, rfl, e, hw⟩ ⟨T0, x, y, rfl, hT0, rfl, hx, hy⟩
        obtain rfl : x = V.int (i : Nat) := (Option.some.inj hx).symm
        obtain ⟨d, hd⟩ : ∃ d, ds[i]? = some d := ⟨_, List.getElem?_eq_getElem (by omega)⟩
        obtain ⟨y', hy', dy⟩ := hda.at hd
        obtain rfl : y' = y := Option.some.inj (hy'.symm.trans hy)
        have e1 : Same H (upd G T0 (.tup [.int (i : Nat), y'])) := e.trans (same_upd hT0)
        refine ⟨T0, _, rfl, SqT.of upd_same, rfl, _, _, rfl, _, _, rfl, rfl, ?_⟩
        refine ⟨_, rfl, _, rfl, b, q, n, Ps, y', asInts d, rfl, hB.same e1, dq_lev (Dq.same e1 _ _ dy) (hes d (List.mem_of_getElem? hd)), fun G2 s2 => ⟨wordQ q n Ps (asInts d), rfl, ?_⟩⟩
        have e2 := e1.trans s2
        cases ew : wordQ q n Ps (asInts d) with
        | false => exact iteT ⟨_, rfl, _, rfl, fun p hp => bad2 ds i rfl (wrong_some hd ew hw) G2 e2 p hp⟩
        | true =>
          refine iteF ⟨_, _, rfl, e2, fun j hj f hf => ?_⟩
          by_cases c : j = i
          · subst c
            obtain rfl : d = f := Option.some.inj (hd.symm.trans hf)
            exact ew
          · exact hw j (by omega) f hf
      · rintro _ G ⟨u2, u3, rfl, e, hw⟩
        rw [lx] at hw
        have hwn := wrong_none hw
        obtain ⟨dx, fs, zr, hb, bq, bn, br, bd, hz⟩ := hB.at_
        refine ⟨_, rfl, b, _, dx, fs, _, rfl, e _ _ hb, T.cl_Book, T.no_Book_n, bn, _, rfl, by omega, by omega, fun D hD => ?_⟩
        refine lc_it (walk_range (lo := 0) (n := (n : Int).toNat))
          (fun i G' => Same G G' ∧ G' D = some (.lst ((suppW i (ds.map rowD)).map V.int))) ⟨same_upd hD, upd_same⟩ (fun _ _ _ _ => trivial) ?_ ?_
        · rintro p x _ G' hp ⟨e2, hN⟩ ⟨rfl, rfl⟩
          have hp' : p < n := hp
          have s12 := e.trans e2
          refine ⟨rfl, ?_⟩
          refine ⟨_, rfl, a, rfl, ⟨xs, s12.tup ha⟩, fun D2 hD2 => ?_⟩
          refine lc_it (walk_tup (K := K) (a := a) (xs := xs))
            (fun j G2 => Same G' G2 ∧ G2 D2 = some (.lst (((ds.take j).map fun d => decide ((rowD d).getD p 0 ≠ 0)).map V.bl))) ⟨same_upd hD2, upd_same⟩ (fun j G2 _ h => h.1.tup (s12.tup ha)) ?_ ?_
          · rintro j y _ G2 hj ⟨e3, hN3⟩ ⟨rfl, hy⟩
            obtain ⟨d, hd⟩ : ∃ d, ds[j]? = some d := ⟨_, List.getElem?_eq_getElem (by omega)⟩
            obtain ⟨y', hy', dy⟩ := hda.at hd
            obtain rfl : y' = y := Option.some.inj (hy'.symm.trans hy)
            obtain ⟨ed, rd, ld, _⟩ := word_row (hw j (by omega) d hd)
            have ti : TI K G2 y' (rowD d) := dq_ti (by rw [← ed]; exact Dq.same (s12.trans e3) _ _ dy)
            refine ⟨rfl, ?_⟩
            refine ⟨_, rfl, _, rfl, ixT_rd ti (by omega) (Int.zero_add _) ⟨rfl, _, hN3, ?_, same_set hD2 e3, ?_⟩⟩
            · rw [List.length_map, List.length_map, List.length_take]
              exact line_le (by omega)
            · rw [upd_same, List.take_add_one, hd, List.map_append, List.map_append]
              have ez : (!decide (V.int ((rowD d).getD p 0) = V.int 0)) = decide ((rowD d).getD p 0 ≠ 0) := by
                by_cases c0 : (rowD d).getD p 0 = 0
                · rw [c0]; rfl
                · rw [decide_eq_true c0, decide_eq_false fun z => c0 (V.int.inj z)]; rfl
              rw [ez]
              rfl
          rintro G3 ⟨e3, hN3⟩
          rw [lx, List.take_length] at hN3
          refine ⟨D2, _, rfl, SqL.of hN3, _, rfl, ?_⟩
          have ez : ((ds.map fun d => decide ((rowD d).getD p 0 ≠ 0)).any id) = ((ds.map rowD).any fun w => decide (w.getD p 0 ≠ 0)) := by
            rw [List.any_map, List.any_map]
            rfl
          have nx := suppW_next p (ds.map rowD)
          rw [ez]
          refine ite2 (fun c => ?_) (fun c => ?_)
          · rw [if_pos c] at nx
            refine ⟨_, rfl, _, e3 _ _ hN, ?_, same_set hD (e2.trans e3), ?_⟩
            · rw [List.length_map]
              unfold suppW
              rw [List.length_map]
              exact line_le (Nat.le_trans (List.length_filter_le _ _) (by rw [List.length_range]; omega))
            · rw [upd_same, nx, List.map_append]
              show some (HO.lst (_ ++ [V.int (0 + (p : Int))])) = _
              rw [Int.zero_add]
              rfl
          · rw [if_neg c, List.append_nil] at nx
            exact ⟨e2.trans e3, by rw [nx]; exact e3 _ _ hN⟩
        · rintro G2 ⟨e2, hN⟩
          rw [Int.toNat_natCast] at hN
          refine ⟨D, _, rfl, .inl ⟨SqL.of hN, fun p hp => ?_⟩⟩
          exact good ds rfl hwn _ _ (e.trans (e2.trans (same_upd hp))) ⟨p, rfl, SqT.of upd_same⟩
end
end K11
end
section
set_option maxRecDepth 100000
set_option maxHeartbeats 4000000
set_option exponentiation.threshold 9000
namespace K11
open PySem PySem.Spec PyProof.Rows L2 MB LM
open LamX hiding takes0
section
variable {w : World} {K : PySem.W.Frag} {mg : Str → Option Value} {base : Heap}
def spLWord (K : PySem.W.Frag) : Sp := fun vs H Q _ => ∃ (q : Int) (n : Nat) (u v : V) (Ps : List (Nat × List Int)) (o : Option (List (Option Int))), vs = [.int q, .int (n : Int), u, v] ∧ LetQ q ∧ n ≤ 8 ∧ RowsF K H u Ps ∧ RR q n Ps ∧ Lev K H v o ∧ ∀ H', Same H H' → Q (.bl (wordQ q n Ps o)) H'
theorem ok__law_is_word (T : Txt K mg) : FnOk P w K mg base CX0 3 T.a__law_is_word T.d__law_is_word P__law_is_word (spLWord K) := by
  refine T.F__law_is_word.ok sc__law_is_word (fun vs H Q E h => ?_) (fun cdv A outer s H vs Q E hr h => ?_)
  · obtain ⟨q, n, u, v, Ps, o, rfl, _⟩ := h
    rfl
  · obtain ⟨q, n, u, v, Ps, o, rfl, hq, hn, hRF, hR, hv, k⟩ := h
    refine ⟨_, 
      (pss_cons (ps_if (PW.pt (pw_or (pt_not (pt_val (pe_callB (id := "isinstance") (r := rIsi K) call_isi (by rfl) T.m_isinstance (by decide +kernel) (pa_cons (pv 3) (pa_cons (pe_bltn (by rfl) T.m_tuple (v := .ty "tuple") (by decide +kernel) rfl) pa_nil))))) (pw_or1 (pt_cmpR op_ne (pe_callB call_len_seq (by rfl) T.m_len (by decide +kernel) (pa_cons (pv 3) pa_nil)) (pv 1) (nomark _))))) (pss_one (ps_ret pe_bl)) pss_nil)
      (pss_cons (ps_if (pt_cmpR (op_neNil hr.units) (pe_lc (own := [("_law_x", 4)]) (g := gName 4)  rfl sc__law_is_word.nd (pi_tup (pv 3)) (blkOk_by (own := [("_law_x", 4)]) (N := N__law_is_word) (sc := (defScope s__law_is_word)) (by decide +kernel)) (fun _ _ _ _ _ => (pg_name (i := 4) sc__law_is_word.nd rfl (Or.inl rfl))) (fun _ _ _ _ _ => (pts_one (PW.pt (pw_or (pt_not (pt_val (pe_callB (id := "isinstance") (r := rIsi K) call_isi (by rfl) T.m_isinstance (by decide +kernel) (pa_cons (pv 4) (pa_cons (pe_bltn (by rfl) T.m_int (v := .ty "int") (by decide +kernel) rfl) pa_nil))))) (pw_or (pt_val (pe_callB (id := "isinstance") (r := rIsi K) call_isi (by rfl) T.m_isinstance (by decide +kernel) (pa_cons (pv 4) (pa_cons (pe_bltn (by rfl) T.m_bool (v := .ty "bool") (by decide +kernel) rfl) pa_nil)))) (pw_or (pt_cmpR op_lt (pv 4) pe_int (nomark _)) (pw_or1 (pt_cmpR op_ge (pv 4) (pv 0) (nomark _))))))))) (fun _ _ _ _ _ => (pv 4))) (pe_lst pa_nil) (nomark _)) (pss_one (ps_ret pe_bl)) pss_nil)
      (pss_one (ps_ret (pe_cmpR (op_eqD hr.units) (pe_call (ok__law_sum T) (hr.mono (by decide)) rfl T.m__law_sum T.F__law_sum.kp T.b__law_sum .nil pass0 (pa_cons (pv 0) (pa_cons (pv 1) (pa_cons (pv 2) (pa_cons (pe_lc (own := [("_law_row", 5)]) (g := gName 5) (tt := tYes) rfl sc__law_is_word.nd (pi_tup (pv 2)) (blkOk_by (own := [("_law_row", 5)]) (N := N__law_is_word) (sc := (defScope s__law_is_word)) (by decide +kernel)) (fun _ _ _ _ _ => (pg_name (i := 5) sc__law_is_word.nd rfl (Or.inl rfl))) (fun _ _ _ _ _ => pts_nil) (fun _ _ _ _ _ => (pe_ix (r := rIxT K) ix_tup (pv 3) (show PE _ _ (tBT (rTupIdx K) (tVar 5) (tCons (tC (.int 1)) tNil)) from pe_bmT PySem.F.plainAttrs_tuple PySem.F.slot_tuple_index PySem.F.type_tuple_index mt_tupIdx (pv 5) (pa_cons pe_int pa_nil)) (fun _ _ => rfl)))) pa_nil))))) (pv 3) (nomark _)))))), ?_⟩
    have lR := rr_len hR
    cases o with
    | none =>
      obtain ⟨t, ht, hk⟩ := hv
      refine ⟨_, rfl, _, _, _, _, _, rfl, .ty "tuple", ht, hk, false, rfl, ?_⟩
      exact iteT (k H (Same.refl _))
    | some os =>
      have hv0 := hv
      obtain ⟨xs, ⟨a, rfl, ha⟩, hp, hl⟩ := hv
      have lo : xs.length = os.length := hp.length
      refine ⟨_, rfl, _, _, _, _, _, rfl, .ty "tuple", tyx_tup ha, kit_ty (r := true) (by decide +kernel), true, rfl, ?_⟩
      refine iteF ?_
      refine ⟨_, rfl, a, _, rfl, .inr ha, _, rfl, rfl, _, rfl, ?_⟩
      have k : ∀ H', Same H H' → Q (.bl ((os.all (inFrom 0 (q - 1)) && decide ((os.length : Int) = (n : Int))) && inBQ q n Ps (os.map (·.getD 0)))) H' := k
      have ed : decide (V.int (xs.length : Int) = V.int (n : Int)) = decide ((os.length : Int) = (n : Int)) := by rw [lo]; exact decide_eq_decide.mpr ⟨V.int.inj, congrArg V.int⟩
      rw [ed]
      by_cases c : (os.length : Int) = (n : Int)
      · rw [decide_eq_true c, Bool.and_true] at k
        rw [decide_eq_true c]
        refine iteF ?_
        refine ⟨_, rfl, a, rfl, ⟨_, ha⟩, fun D hD => lc_it (walk_tup (K := K) (a := a) (xs := xs))
          (fun i H' => Same H H' ∧ ∃ acc, H' D = some (.lst acc) ∧ acc.isEmpty = (os.take i).all (inFrom 0 (q - 1)) ∧ acc.length ≤ i) ⟨same_upd hD, [], upd_same, rfl, Nat.le_refl _⟩ (fun i H' _ ⟨e, _⟩ => e.tup ha) ?_ ?_⟩
        · rintro i x _ H' hi ⟨e, acc, hN, em, la⟩ ⟨rfl, hx⟩
          obtain ⟨y, hy, r⟩ := paired_at hp hx
          have r1 := r.same e
          refine ⟨rfl, ?_⟩
          have nx : (os.take (i + 1)).all (inFrom 0 (q - 1)) = (acc.isEmpty && inFrom 0 (q - 1) y) := by
            rw [List.take_add_one, hy, List.all_append, em]
            simp
          have put : inFrom 0 (q - 1) y = false → (tVar 4 : TE) (List.set (wipe [some (.int q), some (.int (n : Int)), some u, some (.ref a), none, none] [4]) 4 (some x)) H' fun y H4 => ∃ acc, H4 D = some (.lst acc) ∧ acc.length < sizeLine ∧ Same H (upd H4 D (.lst (acc ++ [y]))) ∧ ∃ acc', (upd H4 D (.lst (acc ++ [y]))) D = some (.lst acc') ∧ acc'.isEmpty = (os.take (i + 1)).all (inFrom 0 (q - 1)) ∧ acc'.length ≤ i + 1 := fun ey =>
            ⟨_, rfl, acc, hN, line_le (by omega), same_set hD e, acc ++ [x], upd_same, by rw [nx, ey, Bool.and_false]; cases acc <;> rfl, by rw [List.length_append]; simp; omega⟩
          have keep : inFrom 0 (q - 1) y = true → Same H H' ∧ ∃ acc, H' D = some (.lst acc) ∧ acc.isEmpty = (os.take (i + 1)).all (inFrom 0 (q - 1)) ∧ acc.length ≤ i + 1 := fun ey =>
            ⟨e, acc, hN, by rw [nx, ey, Bool.and_true], by omega⟩
          cases y with
          | some z =>
            obtain rfl : x = .int z := r
            have fz : inFrom 0 (q - 1) (some z) = (decide (0 ≤ z) && decide (z ≤ q - 1)) := rfl
            refine ⟨_, rfl, _, _, _, _, _, rfl, .ty "int", .base (.int z), kit_ty (r := true) (by decide +kernel), true, rfl, ?_⟩
            refine iteF ⟨_, rfl, _, _, _, _, _, rfl, .ty "bool", .base (.int z), kit_ty (r := false) (by decide +kernel), false, rfl, iteF ?_⟩
            refine ⟨_, rfl, _, _, rfl, rfl, _, rfl, ?_⟩
            by_cases c1 : z < 0
            · rw [decide_eq_true c1]
              exact iteT (iteT (put (by rw [fz, decide_eq_false (by omega)]; rfl)))
            · rw [decide_eq_false c1]
              refine iteF ⟨_, rfl, _, rfl, _, _, rfl, rfl, _, rfl, ?_⟩
              by_cases c2 : q ≤ z
              · rw [decide_eq_true c2]
                exact iteT (put (by rw [fz, decide_eq_false (by omega : ¬ z ≤ q - 1), Bool.and_false]))
              · rw [decide_eq_false c2]
                exact iteF (keep (by rw [fz, decide_eq_true (by omega), decide_eq_true (by omega)]; rfl))
          | none =>
            rcases r1 with ⟨b, rfl⟩ | ⟨t, ht, hk⟩
            · refine ⟨_, rfl, _, _, _, _, _, rfl, .ty "int", .base (.bl b), kit_ty (r := true) (by decide +kernel), true, rfl, ?_⟩
              refine iteF ⟨_, rfl, _, _, _, _, _, rfl, .ty "bool", .base (.bl b), kit_ty (r := true) (by decide +kernel), true, rfl, iteT (iteT (put rfl))⟩
            · refine ⟨_, rfl, _, _, _, _, _, rfl, .ty "int", ht, hk, false, rfl, ?_⟩
              exact iteT (iteT (put rfl))
        · rintro H1 ⟨s1, acc, hN, em, la⟩
          refine ⟨line_s (Nat.zero_le _), fun p hp2 => ⟨D, p, acc, rfl, rfl, SqL.of (same_upd hp2 _ _ hN), SqL.of upd_same, _, rfl, ?_⟩⟩
          rw [em, lo, List.take_length]
          have s2 := s1.trans (same_upd (o := .lst []) hp2)
          generalize upd H1 p (.lst []) = H2 at s2 ⊢
          cases ea : os.all (inFrom 0 (q - 1)) with
          | false =>
            rw [ea, Bool.false_and] at k
            exact iteT (k H2 s2)
          | true =>
            rw [ea, Bool.true_and] at k
            have er : rowQ q (n : Int) (some os) = true := by
              show (os.all (inFrom 0 (q - 1)) && decide ((os.length : Int) = (n : Int))) = true
              rw [ea, decide_eq_true c]
              rfl
            obtain ⟨ws, eo, rw_, lw⟩ := row_of er
            obtain rfl : os = ws.map some := Option.some.inj eo
            have em2 : (ws.map some).map (fun o : Option Int => o.getD 0) = ws := by
              rw [List.map_map]
              exact List.map_id ws
            rw [em2] at k
            have lw' : ws.length = n := by omega
            obtain ⟨hti, _⟩ := lev_ti (hv0.same s2)
            obtain ⟨b, eb, hb⟩ := hti
            obtain rfl : a = b := V.ref.inj eb
            obtain ⟨ar, vs, rfl, har, hpr⟩ := hRF.same s2
            have lv : vs.length = Ps.length := by rw [hpr.length, List.length_map]
            have hT : TupRows K H2 (.ref ar) (Ps.map (·.2)) := ⟨ar, vs, rfl, har, pairedF hpr⟩
            refine iteF ⟨_, rfl, _, rfl, _, rfl, _, rfl, ar, rfl, ⟨vs, har⟩, fun L hL => ?_⟩
            refine lc_it (walk_tup (K := K) (a := ar) (xs := vs))
              (fun i H' => Same H2 H' ∧ H' L = some (.lst (((Ps.take i).map fun x => ws.getD x.1 0).map V.int))) ⟨same_upd hL, upd_same⟩ (fun i H' _ ⟨e, _⟩ => e.tup har) ?_ ?_
            · rintro i v _ H' hi ⟨e, hN⟩ ⟨rfl, hv⟩
              obtain ⟨r, hr, ti⟩ := paired_at hpr hv
              obtain ⟨x, hx, hxm, rfl⟩ := red_at hR hr
              obtain ⟨xr, xl, xn, x0, x1⟩ := hR.one x hxm
              have tf := ti.same e
              obtain ⟨c, ec, hc⟩ := tf.ti
              obtain ⟨f1, f2⟩ := first_one (by omega) x0 x1
              refine ⟨rfl, ?_⟩
              refine ⟨_, rfl, _, rfl, tf.fz, c, x.2, 1, x.1, ec, rfl, hc, f1, f2, a, _, _, .int (ws.getD x.1 0), rfl, rfl, e.tup hb, atI_nat (getD_at (by omega)), ?_⟩
              refine ⟨_, hN, ?_, same_set hL e, ?_⟩
              · rw [List.length_map, List.length_map, List.length_take]
                exact line_le (by omega)
              · rw [upd_same, List.take_add_one, hx, List.map_append, List.map_append]
                rfl
            rintro H3 ⟨s3, hL3⟩
            rw [lv, List.take_length] at hL3
            refine ⟨q, n, .ref ar, .ref L, atLeads Ps ws, Ps.map (·.2), rfl, hq, hn, .inl ⟨TupRows.same hT s3, L, rfl, SqL.of hL3, by unfold atLeads; rw [List.length_map, List.length_map]; exact Nat.le_refl _⟩, atLeads_row hq rw_, (fun r hr => hR.rows r hr), fun z H4 s4 hz => ?_⟩
            obtain ⟨c, rfl, hc⟩ := hz
            refine ⟨_, rfl, _, _, .tup hc (dp_ints _), .tup ((s3.trans s4).tup hb) (dp_ints ws), tup_shaped _, tup_shaped ws, ?_⟩
            rw [eqv_ints]
            exact k H4 (s2.trans (s3.trans s4))
      · rw [decide_eq_false c, Bool.and_false, Bool.false_and] at k
        rw [decide_eq_false c]
        exact iteT (k H (Same.refl _))
end
end K11
end
section
set_option maxRecDepth 100000
set_option maxHeartbeats 4000000
set_option exponentiation.threshold 9000
namespace K11
open PySem PySem.Spec PyProof.Rows L2 MB LM
open LamX hiding takes0
theorem paired_app {α β : Type} {R : α → β → Prop} {xs xs' : List α} {ys ys' : List β} (h : Paired R xs ys) (h' : Paired R xs' ys') : Paired R (xs ++ xs') (ys ++ ys') := by
  induction h with
  | nil => exact h'
  | cons r _ ih => exact .cons r ih
section
variable {w : World} {K : PySem.W.Frag} {mg : Str → Option Value} {base : Heap}
def spListed (K : PySem.W.Frag) : Sp := fun vs H Q _ => ∃ (q : Int) (n : Nat) (u : V) (Ps : List (Nat × List Int)), vs = [.int q, .int (n : Int), u] ∧ LetQ q ∧ n ≤ 8 ∧ RowsF K H u Ps ∧ RR q n Ps ∧ ∀ L H', Same H H' → RowsAt K H' L (wordsL q n (Ps.map (·.2))) → Q (.ref L) H'
theorem ok__law_listed (T : Txt K mg) : FnOk P w K mg base CX0 2 T.a__law_listed T.d__law_listed P__law_listed (spListed K) := by
  refine T.F__law_listed.ok sc__law_listed (fun vs H Q E h => ?_) (fun cdv A outer s H vs Q E hr h => ?_)
  · obtain ⟨q, n, u, Ps, rfl, _⟩ := h
    rfl
  · obtain ⟨q, n, u, Ps, rfl, hq, n8, hRF, hR, k⟩ := h
    refine ⟨_, 
      (pss_cons (ps_set (i := 3) sc__law_listed.nd rfl (Or.inl rfl) (pe_lst (pa_cons (pe_op op_repA (pe_tup (pa_cons pe_int pa_nil)) (pv 1)) pa_nil)))
      (pss_cons (ps_for PassesOwn.never rfl (pi_tup (pv 2)) (pg_name (i := 4) sc__law_listed.nd rfl (Or.inr rfl)) (pss_cons (ps_setLc (i := 5) (own := [("_law_letter", 8)]) (g := gName 8) (tt := tYes) rfl sc__law_listed.nd rfl rfl (sw_true rfl rfl rfl (by decide +kernel)) (pi_range1 rfl T.m_range (pa_cons (pv 0) pa_nil)) (blkOk_by (own := [("_law_letter", 8)]) (N := N__law_listed) (sc := (defScope s__law_listed)) (by decide +kernel)) (fun _ _ _ _ _ => (pg_name (i := 8) sc__law_listed.nd rfl (Or.inr rfl))) (fun _ _ _ _ _ => pts_nil) (fun _ _ _ _ _ => (pe_callTy (T := "tuple") (r := rTupOf K) call_tuple_of (by rfl) T.m_tuple (by decide +kernel) (pa_cons (pe_lc (own := [("_law_x", 9)]) (g := gName 9) (tt := tYes) rfl sc__law_listed.nd (show PI _ _ _ (iTup K (tVar 4)) from pi_tup (pv 4)) (blkOk_by (own := [("_law_x", 9)]) (N := N__law_listed) (sc := { kind := .function, names := [(".0", .local), ("_law_letter", .cell), ("tuple", .globalImplicit), ("_law_q", .cell), ("_law_row", .cell)], isGenerator := false, isCoroutine := false }) (by decide +kernel)) (fun _ _ _ _ _ => (pg_name (i := 9) sc__law_listed.nd rfl (Or.inl rfl))) (fun _ _ _ _ _ => pts_nil) (fun _ _ _ _ _ => (pe_call (ok__law_by T) (hr.mono (by decide)) rfl T.m__law_by T.F__law_by.kp T.b__law_by .nil pass0 (pa_cons (pv 0) (pa_cons (pv 8) (pa_cons (pv 9) pa_nil)))))) pa_nil))))
      (pss_cons (ps_set (i := 6) sc__law_listed.nd rfl (Or.inl rfl) (pe_lst pa_nil))
      (pss_cons (ps_for PassesOwn.never rfl (pi_list (pv 3)) (pg_name (i := 7) sc__law_listed.nd rfl (Or.inr rfl)) (pss_one (ps_expr (pe_bm PySem.F.plainAttrs_list PySem.F.slot_list_extend PySem.F.type_list_extend mt_extend (pv 6) (pa_cons (pe_lc (own := [("_law_other", 10)]) (g := gName 10) (tt := tYes) rfl sc__law_listed.nd (pi_list (pv 5)) (blkOk_by (own := [("_law_other", 10)]) (N := N__law_listed) (sc := (defScope s__law_listed)) (by decide +kernel)) (fun _ _ _ _ _ => (pg_name (i := 10) sc__law_listed.nd rfl (Or.inl rfl))) (fun _ _ _ _ _ => pts_nil) (fun _ _ _ _ _ => (pe_call (ok__law_plus T) (hr.mono (by decide)) rfl T.m__law_plus T.F__law_plus.kp T.b__law_plus .nil pass0 (pa_cons (pv 0) (pa_cons (pv 7) (pa_cons (pv 10) pa_nil)))))) pa_nil)))))
      (pss_one (ps_set (i := 3) sc__law_listed.nd rfl (Or.inl rfl) (pv 6)))))))
      (pss_one (ps_ret (pv 3))))), ?_⟩
    have q2 := hq.lo
    have q5 := hq.hi
    have lR := rr_len hR
    obtain ⟨ar, vs, rfl, har, hpr⟩ := hRF
    have lv : vs.length = Ps.length := by rw [hpr.length, List.length_map]
    refine ⟨line_s (Nat.le_of_ble_eq_true rfl), fun p1 hp1 => ⟨_, rfl, rep_rd (c := 0) ⟨p1, rfl, SqT.of upd_same⟩ (by omega) (by omega) fun z1 H2 s2 hz1 => ⟨line_s (Nat.le_of_ble_eq_true rfl), fun F hF => ?_⟩⟩⟩
    have s3 := (same_upd (o := .tup [.int 0]) hp1).trans (s2.trans (same_upd (o := .lst [z1]) hF))
    have hz3 : TI K (upd H2 F (.lst [z1])) z1 (zrow n) := by
      have := hz1.same (same_upd (o := .lst [z1]) hF)
      rw [Int.toNat_natCast] at this
      exact this
    have F3 : (upd H2 F (.lst [z1])) F = some (.lst [z1]) := upd_same
    generalize upd H2 F (.lst [z1]) = H3 at s3 hz3 F3 ⊢
    refine ⟨_, rfl, ar, rfl, ⟨vs, s3.tup har⟩, for_it (walk_tup (K := K) (a := ar) (xs := vs))
      (fun i σ G => ∃ (L : Addr) (o4 o5 o6 o7 : Option V) (fs' : List V), σ = [some (.int q), some (.int (n : Int)), some (.ref ar), some (.ref L), o4, o5, o6, o7, none, none, none] ∧ Same H G ∧ G L = some (.lst fs') ∧ Paired (TI K G) fs' (wordsL q n ((Ps.take i).map (·.2))))
      ⟨F, none, none, none, none, [z1], rfl, s3, F3, .cons hz3 .nil⟩ (fun i σ G _ ⟨_, _, _, _, _, _, _, s, _⟩ => s.tup har) ?_ ?_⟩
    · clear F3 hz3 s3 hz1 s2 hF hp1
      rintro i v _ _ G hi ⟨L, o4, o5, o6, o7, fs', rfl, sG, hL, pL⟩ ⟨rfl, hv⟩
      obtain ⟨r, hr', tr⟩ := paired_at hpr hv
      obtain ⟨x, hx, hxm, rfl⟩ := red_at hR hr'
      obtain ⟨xr, xl, xn, x0, x1⟩ := hR.one x hxm
      have hi' : i < Ps.length := by omega
      have et : (Ps.take (i + 1)).map (·.2) = (Ps.take i).map (·.2) ++ [x.2] := by
        rw [List.take_add_one, hx, List.map_append]
        rfl
      have lW : (wordsL q n ((Ps.take i).map (·.2))).length = q.toNat ^ i := by
        rw [wordsL_len, List.length_map, List.length_take, Nat.min_eq_left (by omega)]
      have lW1 : q.toNat ^ i * q.toNat ≤ 5 ^ 8 := by
        rw [← Nat.pow_succ]
        exact len_5 hq (by omega)
      have wall : ∀ u ∈ wordsL q n ((Ps.take i).map (·.2)), u.length = n := by
        have hRi : RR q n (Ps.take i) := ⟨fun y hy => hR.one y (List.mem_of_mem_take hy), hR.two.sublist (List.take_sublist _ _)⟩
        exact fun u hu => ((words_asc hq hRi).2 u hu).2
      obtain ⟨Ws, eW⟩ : ∃ Ws, wordsL q n ((Ps.take i).map (·.2)) = Ws := ⟨_, rfl⟩
      rw [eW] at pL lW wall
      have el0 : ∀ l, l < q.toNat → (lets q)[l]? = some (l : Int) := fun l hl => by
        unfold lets
        rw [List.getElem?_map, List.getElem?_range hl]
        rfl
      have el : ∀ l, l < q.toNat → (lets q).take (l + 1) = (lets q).take l ++ [(l : Int)] := fun l hl => by
        rw [List.take_add_one, el0 l hl]
        rfl
      have la : (lets q).take q.toNat = lets q := List.take_of_length_le (by rw [lets_len]; exact Nat.le_refl _)
      obtain ⟨ax, rfl, hax⟩ := (tr.same sG).ti
      refine ⟨_, rfl, _, rfl, by omega, by omega, fun D hD => ?_⟩
      refine lc_it (walk_range (lo := 0) (n := q.toNat))
        (fun l G' => Same G G' ∧ ∃ ps, G' D = some (.lst ps) ∧ Paired (TI K G') ps (((lets q).take l).map fun c => vtim q c x.2)) ⟨same_upd hD, [], upd_same, .nil⟩ (fun _ _ _ _ => trivial) ?_ ?_
      · rintro l y _ G' hl ⟨e, ps, hN, pp⟩ ⟨rfl, rfl⟩
        have ll : IsLet q (0 + (l : Int)) := ⟨by omega, by omega⟩
        refine ⟨rfl, ?_⟩
        refine ⟨_, rfl, ax, rfl, ⟨_, e.tup hax⟩, fun D2 hD2 => ?_⟩
        refine lc_it (walk_tup (K := K) (a := ax) (xs := x.2.map V.int))
          (fun j G2 => Same G' G2 ∧ G2 D2 = some (.lst (((x.2.take j).map (ltim q (0 + (l : Int)))).map V.int))) ⟨same_upd hD2, upd_same⟩ (fun j G2 _ h => h.1.tup (e.tup hax)) ?_ ?_
        · rintro j z _ G2 hj ⟨e2, hN2⟩ ⟨rfl, hz⟩
          obtain ⟨d, hd, rfl⟩ := int_at hz
          have ld := xr d (List.mem_of_getElem? hd)
          have hjl : j < x.2.length := (List.getElem?_eq_some_iff.mp hd).1
          refine ⟨rfl, ?_⟩
          refine ⟨_, rfl, _, rfl, _, rfl, q, 0 + (l : Int), d, rfl, hq, ll, ld, fun G3 s3 => ?_⟩
          refine ⟨_, s3 _ _ hN2, ?_, same_set hD2 (e2.trans s3), ?_⟩
          · rw [List.length_map, List.length_map, List.length_take]
            exact line_le (by omega)
          · rw [upd_same, List.take_add_one, hd, List.map_append, List.map_append, by_eq hq ll ld]
            rfl
        rintro G2 ⟨e2, hN2⟩
        rw [List.length_map, List.take_length, Int.zero_add] at hN2
        refine ⟨D2, _, rfl, .inl ⟨SqL.of hN2, fun p hp => ?_⟩⟩
        have e3 := e2.trans (same_upd (o := .tup ((x.2.map (ltim q (l : Int))).map V.int)) hp)
        have hz2 : TI K (upd G2 p (.tup ((x.2.map (ltim q (l : Int))).map V.int))) (.ref p) (vtim q (l : Int) x.2) := ⟨p, rfl, SqT.of upd_same⟩
        generalize upd G2 p (.tup ((x.2.map (ltim q (l : Int))).map V.int)) = G3 at e3 hz2 ⊢
        have lp : ps.length ≤ 5 := by
          rw [pp.length, List.length_map, List.length_take, lets_len]
          omega
        refine ⟨ps, e3 _ _ hN, line_le (by omega), same_set hD (e.trans e3), ps ++ [.ref p], upd_same, ?_⟩
        rw [el l hl, List.map_append]
        exact paired_snoc (rows_updl (e3 _ _ hN) (rows_same e3 pp)) (ti_updl (e3 _ _ hN) hz2)
      rintro G1 ⟨s11, ps, hD1, pp⟩
      rw [la] at pp
      have lps : ps.length = q.toNat := by rw [pp.length, List.length_map, lets_len]
      have hL1 := s11 _ _ hL
      have pL1 := rows_same s11 pL
      have sG1 := sG.trans s11
      clear sG s11 hL pL hD hax
      refine ⟨line_s (Nat.zero_le _), fun M hM => ?_⟩
      have sM := same_upd (o := .lst []) hM
      have hM2 : (upd G1 M (.lst [])) M = some (.lst []) := upd_same
      have MH : H M = none := sG1.free hM
      have hL2 := sM _ _ hL1
      have hD2 := sM _ _ hD1
      have pL2 := rows_same sM pL1
      have pp2 := rows_same sM pp
      have sG2 := sG1.trans sM
      have nML : M ≠ L := (ne_of_none hL1 hM).symm
      have nMD : M ≠ D := (ne_of_none hD1 hM).symm
      generalize upd G1 M (.lst []) = G2 at hM2 hL2 hD2 pL2 pp2 sG2 ⊢
      clear sM hM hL1 hD1 pL1 pp sG1
      dsimp only [tSeq, gName]
      refine ⟨_, rfl, L, rfl, ⟨fs', SqL.of hL2⟩, for_it (walk_list (K := K) (a := L) (xs := fs'))
        (fun j σ G' => ∃ (o7 : Option V) (acc : List V), σ = [some (.int q), some (.int (n : Int)), some (.ref ar), some (.ref L), some (.ref ax), some (.ref D), some (.ref M), o7, none, none, none] ∧ Same H G' ∧ G' L = some (.lst fs') ∧ G' D = some (.lst ps) ∧ Paired (TI K G') fs' Ws ∧ Paired (TI K G') ps ((lets q).map fun c => vtim q c x.2) ∧ G' M = some (.lst acc) ∧ Paired (TI K G') acc (wstep q (Ws.take j) x.2))
        ⟨o7, [], rfl, sG2, hL2, hD2, pL2, pp2, hM2, .nil⟩ (fun j σ G' _ ⟨_, _, _, _, h, _⟩ => SqL.of h) ?_ ?_⟩
      · clear sG2 hL2 hD2 pL2 pp2 hM2
        rintro j y _ _ G' hj ⟨o7, acc, rfl, e, hL', hD', pL', pp', hM', pa⟩ ⟨rfl, hy⟩
        obtain ⟨u, hu, tu⟩ := paired_at pL' hy
        have lu := wall u (List.mem_of_getElem? hu)
        have hjW : j < q.toNat ^ i := by
          rw [← lW, ← pL'.length]
          exact hj
        refine ⟨_, rfl, .inl ⟨rfl, _, SqL.of hM'⟩, _, rfl, D, rfl, ⟨_, SqL.of hD'⟩, fun E0 hE => ?_⟩
        refine lc_it (walk_list (K := K) (a := D) (xs := ps))
          (fun l G3 => Same G' G3 ∧ ∃ es, G3 E0 = some (.lst es) ∧ Paired (TI K G3) es (((lets q).take l).map fun c => vsum q u (vtim q c x.2))) ⟨same_upd hE, [], upd_same, .nil⟩ (fun l G3 _ ⟨e, _⟩ => SqL.of (e _ _ hD')) ?_ ?_
        · rintro l y2 _ G3 hl ⟨e2, es, hN, pe_⟩ ⟨rfl, hy2⟩
          obtain ⟨r2, hr2, tr2⟩ := paired_at pp' hy2
          rw [List.getElem?_map] at hr2
          have hl' : l < q.toNat := by rw [← lps]; exact hl
          rw [el0 l hl'] at hr2
          obtain rfl : vtim q (l : Int) x.2 = r2 := Option.some.inj hr2
          refine ⟨rfl, ?_⟩
          refine ⟨_, rfl, _, rfl, _, rfl, q, y, y2, u, vtim q (l : Int) x.2, rfl, hq, tu.same e2, tr2.same e2, by omega, fun z3 G4 s4 hz3 => ?_⟩
          have lp : es.length ≤ 5 := by
            rw [pe_.length, List.length_map, List.length_take, lets_len]
            omega
          refine ⟨es, s4 _ _ hN, line_le (by omega), same_set hE (e2.trans s4), es ++ [z3], upd_same, ?_⟩
          rw [el l hl', List.map_append]
          exact paired_snoc (rows_updl (s4 _ _ hN) (rows_same s4 pe_)) (ti_updl (s4 _ _ hN) hz3)
        rintro G3 ⟨e2, es, hN, pe_⟩
        rw [lps, la] at pe_
        have lac : acc.length + es.length ≤ sizeLine := by
          refine Nat.le_of_lt (line_5 ?_)
          rw [pa.length, pe_.length, wstep_len, List.length_map, List.length_take, lets_len]
          have h1 : (j + 1) * q.toNat ≤ q.toNat ^ i * q.toNat := Nat.mul_le_mul_right _ hjW
          have h2 : min j Ws.length * q.toNat ≤ j * q.toNat := Nat.mul_le_mul_right _ (Nat.min_le_left _ _)
          rw [Nat.succ_mul] at h1
          omega
        have hM3 := e2 _ _ hM'
        refine ⟨M, E0, acc, es, rfl, rfl, hM3, hN, lac, ?_⟩
        refine ⟨_, acc ++ es, rfl, same_set MH (e.trans e2), ?_, ?_, rows_updl hM3 (rows_same e2 pL'), rows_updl hM3 (rows_same e2 pp'), upd_same, ?_⟩
        · rw [upd_ne nML.symm]
          exact e2 _ _ hL'
        · rw [upd_ne nMD.symm]
          exact e2 _ _ hD'
        · rw [wstep_take hu]
          exact paired_app (rows_updl hM3 (rows_same e2 pa)) (rows_updl hM3 pe_)
      · rintro _ G' ⟨o7, acc, rfl, e, hL', hD', pL', pp', hM', pa⟩
        have lfW : fs'.length = Ws.length := pL'.length
        rw [lfW, List.take_length] at pa
        refine ⟨_, rfl, M, _, _, _, _, acc, rfl, e, hM', ?_⟩
        rw [et, wordsL_snoc, eW]
        exact pa
    · rintro _ G ⟨L, o4, o5, o6, o7, fs', rfl, sG, hL, pL⟩
      rw [lv, List.take_length] at pL
      exact ⟨_, rfl, k L G sG ⟨fs', hL, pL⟩⟩
end
end K11
end
section
set_option maxRecDepth 100000
set_option maxHeartbeats 4000000
set_option exponentiation.threshold 9000
namespace K11
open PySem PySem.Spec PyProof.Rows L2 MB LM
open LamX hiding takes0
theorem meets_of {K : PySem.W.Frag} {C S : Addr} {r : Bool} (te : PySem.W.exmOne K (.ref S) (.ref S) = some true) (h : PySem.W.subIn K (.ref C) (.ref S) = some r) : PySem.W.exmOne K (.ref C) (.ref S) = some r := by
  have te' : (if (PySem.W.subIn K (.ref S) (.type "BaseException") == some true) = true then (if ((PySem.W.clsIn K S).isSome && PySem.W.typeIn K (.ref S) == some (.type "type")) = true then PySem.W.subIn K (.ref S) (.ref S) else none) else none) = some true := te
  show (if (PySem.W.subIn K (.ref S) (.type "BaseException") == some true) = true then (if ((PySem.W.clsIn K S).isSome && PySem.W.typeIn K (.ref S) == some (.type "type")) = true then PySem.W.subIn K (.ref C) (.ref S) else none) else none) = some r
  split at te'
  · rename_i h1
    rw [if_pos h1]
    split at te'
    · rename_i h2
      rw [if_pos h2]
      exact h
    · cases te'
  · cases te'
section
variable {w : World} {K : PySem.W.Frag} {mg : Str → Option Value} {base : Heap}
def Cls (T : Txt K mg) (C : Addr) (f wd : Str) : Prop := (C = T.C_TooMany ∧ f = "most" ∧ wd = "many") ∨ (C = T.C_BadStack ∧ f = "number" ∧ wd = "stack")
def ETold (T : Txt K mg) (Q : VK) : XK := fun cls d H' => ∃ (C dx : Addr) (v : V) (f wd : Str), Cls T C f wd ∧ cls = .ref C ∧ d = some dx ∧ H' dx = some (.xd [(f, v)]) ∧
  ∀ p, H' p = none → Q (.ref p) (upd H' p (.tup [.str wd, v]))
def QT (Q : VK) : VK := fun v H' => [V.str "told", v].length ≤ sizeLine ∧ ∀ p, H' p = none → Q (.ref p) (upd H' p (.tup [.str "told", v]))
def TTold (T : Txt K mg) : (XK → Hp → VK → Prop) → Hp → VK → Prop := fun tl H Q => tl (ETold T Q) H (QT Q)
theorem gives__law_told (T : Txt K mg) {CX : CXT} {N' : List Str} {qual q : Str} {scope : Scope} {f : Addr} {cd : Value} {A : Around} {outer : List Env} {s : Shared} {H : Hp} {E : XK} {cdg : Value} :
    GivesTo (cxOf CX P w K mg base N' qual scope f cd A outer s H E).nox N__law_told "_law_told" (defScope s__law_told) T.a__law_told cdg (defBody s__law_told) "_law_deed" q (TTold T) := by
  intro f c' s H Q tl act hc h
  refine ⟨_, 
      (pss_one (ps_tryMix (Wout := fun _ _ _ _ => False) rfl rfl sc__law_told.nd takes0 (fun W pn xe tk pass => (pss_one (ps_ret (pe_tup (pa_cons pe_str (pa_cons (pe_deed 2 (fun W E p1 p2 tk hW => act W _ _ E p1 p2 tk hW) tk) pa_nil)))))) (.named (i := 1) ⟨rfl, by decide, Or.inl T.e_TooMany.gC⟩ rfl rfl (fun a oe cls d pn hz hf => (pss_one (ps_ret (pe_tup (pa_cons pe_str (pa_cons (pe_xf T.e_TooMany.xf T.e_TooMany.noF hz hf (pv 1)) pa_nil)))))) (.named (i := 1) ⟨rfl, by decide, Or.inl T.e_BadStack.gC⟩ rfl rfl (fun a oe cls d pn hz hf => (pss_one (ps_ret (pe_tup (pa_cons pe_str (pa_cons (pe_xf T.e_BadStack.xf T.e_BadStack.noF hz hf (pv 1)) pa_nil)))))) .nil)))), ?_⟩
  have z2 : (2 : Nat) ≤ sizeLine := line_s (by decide)
  refine ⟨ETold T Q, ?_, rfl, hc, ?_⟩
  · rintro cls d σ' H' ⟨C, dx, v, f', wd, hC, rfl, rfl, hx, k⟩ hl
    match σ', hl with
    | [x0, x1], _ =>
      rcases hC with ⟨rfl, rfl, rfl⟩ | ⟨rfl, rfl, rfl⟩
      · refine ⟨true, T.e_TooMany.te, fun _ a ha => ?_, fun z => Bool.noConfusion z⟩
        exact ⟨_, rfl, rfl, rfl, dx, _, v, rfl, hx, rfl, z2, fun p hp => k p hp⟩
      · refine ⟨false, meets_of T.e_TooMany.te T.x_st, fun z => Bool.noConfusion z, fun _ => ⟨true, T.e_BadStack.te, fun _ a ha => ?_, fun z => Bool.noConfusion z⟩⟩
        exact ⟨_, rfl, rfl, rfl, dx, _, v, rfl, hx, rfl, z2, fun p hp => k p hp⟩
  · exact h
theorem fly_many {T : Txt K mg} {Q : VK} {v : V} {H1 H2 : Hp} (s : Same H1 H2) (go : ∀ p H', Same H1 H' → SqT K H' p [.str "many", v] → Q (.ref p) H') : FlF "most" (ETold T Q) T.C_TooMany v H2 := fun dx hx =>
  ⟨_, dx, v, _, _, .inl ⟨rfl, rfl, rfl⟩, rfl, rfl, upd_same, fun p hp => go p _ (s.trans ((same_upd hx).trans (same_upd hp))) (SqT.of upd_same)⟩
theorem fly_stack {T : Txt K mg} {Q : VK} {v : V} {H1 H2 : Hp} (s : Same H1 H2) (go : ∀ p H', Same H1 H' → SqT K H' p [.str "stack", v] → Q (.ref p) H') : FlF "number" (ETold T Q) T.C_BadStack v H2 := fun dx hx =>
  ⟨_, dx, v, _, _, .inr ⟨rfl, rfl, rfl⟩, rfl, rfl, upd_same, fun p hp => go p _ (s.trans ((same_upd hx).trans (same_upd hp))) (SqT.of upd_same)⟩
def qL__law_are_words : Str := (envOfC "_law_are_words" (defScope s__law_are_words) 0 0 .none).qual ++ "<lambda>"
def qL__law_is_covered : Str := (envOfC "_law_is_covered" (defScope s__law_is_covered) 0 0 .none).qual ++ "<lambda>"
def qL__law_are_many : Str := (envOfC "_law_are_many" (defScope s__law_are_many) 0 0 .none).qual ++ "<lambda>"
def TL (T : Txt K mg) : List (Addr × Str) := [(T.tP__law_are_words, qL__law_are_words), (T.tP__law_is_covered, qL__law_is_covered), (T.tP__law_are_many, qL__law_are_many)]
theorem hu_all (T : Txt K mg) {p : Addr × Str} (hp : p ∈ TL T) : (p.1 = T.tP__law_are_words → p.2 = qL__law_are_words) ∧ (p.1 = T.tP__law_is_covered → p.2 = qL__law_is_covered) ∧ (p.1 = T.tP__law_are_many → p.2 = qL__law_are_many) := by
  have nd := T.tnd
  simp only [List.nodup_cons, List.mem_cons, List.not_mem_nil, or_false, not_or] at nd
  obtain ⟨⟨a1, a2⟩, a3, _⟩ := nd
  unfold TL at hp
  simp only [List.mem_cons, List.not_mem_nil, or_false] at hp
  rcases hp with rfl | rfl | rfl
  · exact ⟨fun _ => rfl, fun h => absurd h a1, fun h => absurd h a2⟩
  · exact ⟨fun h => absurd h.symm a1, fun _ => rfl, fun h => absurd h a3⟩
  · exact ⟨fun h => absurd h.symm a2, fun h => absurd h.symm a3, fun _ => rfl⟩
theorem hu__law_are_words (T : Txt K mg) : ∀ p ∈ TL T, p.1 = T.tP__law_are_words → p.2 = qL__law_are_words := fun p hp => (hu_all T hp).1
theorem hu__law_is_covered (T : Txt K mg) : ∀ p ∈ TL T, p.1 = T.tP__law_is_covered → p.2 = qL__law_is_covered := fun p hp => (hu_all T hp).2.1
theorem hu__law_are_many (T : Txt K mg) : ∀ p ∈ TL T, p.1 = T.tP__law_are_many → p.2 = qL__law_are_many := fun p hp => (hu_all T hp).2.2
structure Env6 (T : Txt K mg) (d l b : Addr) (q : Int) (n : Nat) (Ps : List (Nat × List Int)) (u : V) (H : Hp) : Prop where
  D : Deck kL H d l
  t : Tabs (TL T) H
  B : BookR T H b q n Ps
  R : RowsF K H u Ps
theorem Env6.but {T : Txt K mg} {d l b : Addr} {q : Int} {n : Nat} {Ps : List (Nat × List Int)} {u : V} {H H' : Hp} (h : Env6 T d l b q n Ps u H) (e : But d l H H') (D' : Deck kL H' d l) : Env6 T d l b q n Ps u H' :=
  ⟨D', tabs_but h.D e h.t, h.B.but h.D e, h.R.but h.D e⟩
theorem Env6.same {T : Txt K mg} {d l b : Addr} {q : Int} {n : Nat} {Ps : List (Nat × List Int)} {u : V} {H H' : Hp} (h : Env6 T d l b q n Ps u H) (e : Same H H') : Env6 T d l b q n Ps u H' :=
  ⟨h.D.same e, h.t.ext e, h.B.same e, h.R.same e⟩
theorem Env6.ext {T : Txt K mg} {d l b : Addr} {q : Int} {n : Nat} {Ps : List (Nat × List Int)} {u : V} {H H' : Hp} (h : Env6 T d l b q n Ps u H) (e : ExtN H H') (t : Tabs (TL T) H') : Env6 T d l b q n Ps u H' :=
  ⟨h.D.extN e, t, h.B.ext e, h.R.ext e⟩
end
end K11
end
section
set_option maxRecDepth 100000
set_option maxHeartbeats 4000000
set_option exponentiation.threshold 9000
namespace K11
open PySem PySem.Spec PyProof.Rows L2 MB LM
open LamX hiding takes0
theorem perm_uniq {α : Type} {S R : α → α → Prop} (hSR : ∀ x y, S x y → ¬ R y x) : ∀ {xs ys : List α}, ys.Perm xs → xs.Pairwise S → ys.Pairwise R → ys = xs
  | [], ys, h, _, _ => h.eq_nil
  | x :: xs, [], h, _, _ => absurd h.length_eq (by simp)
  | x :: xs, y :: ys, h, hs, hr => by
    obtain ⟨s1, s2⟩ := List.pairwise_cons.mp hs
    obtain ⟨r1, r2⟩ := List.pairwise_cons.mp hr
    have hy : y ∈ x :: xs := h.mem_iff.mp List.mem_cons_self
    have hx : x ∈ y :: ys := h.mem_iff.mpr List.mem_cons_self
    have e : y = x := by
      rcases List.mem_cons.mp hy with e | hy
      · exact e
      · rcases List.mem_cons.mp hx with e | hx
        · exact e.symm
        · exact absurd (r1 x hx) (hSR x y (s1 y hy))
    subst e
    rw [perm_uniq hSR h.cons_inv s2 r2]
def wordsD (q : Int) (n : Nat) (Ps : List (Nat × List Int)) (m : Int) : PyData := if m < q ^ Ps.length then .tuple [.str "many", .int m] else .tuple [.str "told", rowsD (wordsL q n (Ps.map (·.2)))]
def dueW (q : Int) (n : Nat) (Ps : List (Nat × List Int)) : PyData := if q ^ Ps.length ≤ 256 then .tuple [.str "told", rowsD (wordsL q n (Ps.map (·.2)))] else .tuple [.str "many", .int 4096]
theorem sz_wordsL {q : Int} {n : Nat} {Ps : List (Nat × List Int)} (hq : LetQ q) (hR : RR q n Ps) (n8 : n ≤ 8) (h : q ^ Ps.length ≤ 256) : Sz 6000 12 (rowsD (wordsL q n (Ps.map (·.2)))) := by
  have hall := (words_asc hq hR).2
  have ll : (wordsL q n (Ps.map (·.2))).length ≤ 256 := by
    rw [wordsL_len, List.length_map]
    have : ((q.toNat ^ Ps.length : Nat) : Int) ≤ 256 := by
      rw [Int.natCast_pow, Int.toNat_of_nonneg (by have := hq.lo; omega)]
      exact h
    omega
  have key : ∀ Ls : List (List Int), (∀ r ∈ Ls, IsRow q r ∧ r.length ≤ 8) → ∃ b, b ≤ 20 * Ls.length ∧ SzAll b 10 (Ls.map fun r => PyData.tuple (r.map PyData.int)) := by
    intro Ls
    induction Ls with
    | nil => exact fun _ => ⟨0, Nat.zero_le _, szAll_nil⟩
    | cons r Ls ih =>
      intro hr
      obtain ⟨b, hb, hs⟩ := ih fun r h => hr r (List.mem_cons_of_mem _ h)
      have h1 := hr r List.mem_cons_self
      have z1 : Sz 17 10 (.tuple (r.map PyData.int)) := (sz_tup (k := 0) (small_sz (by omega) fun c hc => let_nat hq (h1.1 c hc))).mono (by decide) (by decide)
      refine ⟨_, ?_, szAll_cons z1 hs⟩
      rw [List.length_cons]
      omega
  obtain ⟨b, hb, hs⟩ := key _ fun r hr => ⟨(hall r hr).1, by have := (hall r hr).2; omega⟩
  exact (sz_tup hs).mono (by omega) (by decide)
theorem sz_dueW {q : Int} {n : Nat} {Ps : List (Nat × List Int)} (hq : LetQ q) (hR : RR q n Ps) (n8 : n ≤ 8) : Sz 6100 13 (dueW q n Ps) := by
  unfold dueW
  split
  · rename_i h
    exact (sz_tup (szAll_cons (sz_text (b := 10) (k := 12) (s := "told") (by decide)) (szAll_cons (sz_wordsL hq hR n8 h) (szAll_nil (b := 0))))).mono (by decide) (by decide)
  · exact (sz_tup (szAll_cons (sz_text (b := 10) (k := 12) (s := "many") (by decide)) (szAll_cons (sz_int (b := 10) (i := 4096) (by decide)) (szAll_nil (b := 0))))).mono (by decide) (by decide)
theorem seq_set {v : V} {i : Nat} {rest : TS} {D : Ends} {σ : L2.St} {H : Hp} (h : rest D (σ.set i (some v)) H) : tSeq (tAsg (tC v) (gName i)) rest D σ H := h
section
variable {w : World} {K : PySem.W.Frag} {mg : Str → Option Value} {base : Heap}
theorem lam_words {T : Txt K mg} {b : Addr} {q : Int} {n : Nat} {Ps : List (Nat × List Int)} {m : Int} {H : Hp} {Q : VK} (hB : BookR T H b q n Ps)
    (go : ∀ p H', Same H H' → Dq K H' (.ref p) (wordsD q n Ps m) → Q (.ref p) H') : spWords T [.ref b, .int m] H (QT Q) (ETold T Q) := by
  refine ⟨b, q, n, Ps, m, rfl, hB, fun hm H1 s1 => fly_many s1 fun p H' s' hp => go p H' s' ?_, fun hm z H1 s1 hz => ⟨line_s (Nat.le_of_ble_eq_true rfl), fun p hp => go p _ (s1.trans (same_upd hp)) ?_⟩⟩
  · unfold wordsD
    rw [if_pos hm]
    exact .tup hp (.cons (.str _) (.cons (.int m) .nil))
  · unfold wordsD
    rw [if_neg (by omega)]
    exact .tup (SqT.of upd_same) (.cons (.str _) (.cons (Dq.same (same_upd hp) _ _ (dq_rows hz)) .nil))
def spAreW (T : Txt K mg) : Sp := fun vs H Q _ => ∃ (d l b : Addr) (q : Int) (n : Nat) (u : V) (Ps : List (Nat × List Int)), vs = [.ref d, .ref b, .int q, .int (n : Int), u] ∧ 1 ≤ n ∧ Env6 T d l b q n Ps u H ∧ ∀ H', Env6 T d l b q n Ps u H' → Q (.bl true) H'
theorem ok__law_are_words (T : Txt K mg) (sm : SM base) (tb__law_are_words : TabB base mg T.c__law_are_words T.tP__law_are_words) : FnG P w K mg base 6 T.a__law_are_words T.d__law_are_words P__law_are_words (spAreW T) := by
  refine fnGL T.F__law_are_words sc__law_are_words (fun vs H Q E h => ?_) (fun A outer s H vs Q E hr hgu h => ?_)
  · obtain ⟨d, l, b, q, n, u, Ps, rfl, _⟩ := h
    rfl
  · obtain ⟨d, l, b, q, n, u, Ps, rfl, n1, hE, k⟩ := h
    refine ⟨_, 
      (pss_cons (ps_set (i := 5) sc__law_are_words.nd rfl (Or.inl rfl) pe_int)
      (pss_cons (ps_for PassesOwn.never rfl (pi_tup (pv 4)) (pg_name (i := 6) sc__law_are_words.nd rfl (Or.inl rfl)) (pss_one (ps_set (i := 5) sc__law_are_words.nd rfl (Or.inl rfl) (pe_op op_mulW (pv 5) (pv 2)))))
      (pss_cons (ps_set (i := 7) sc__law_are_words.nd rfl (Or.inl rfl) (pe_lst (pa_cons pe_int (pa_cons pe_int (pa_cons (pe_op op_sub (pv 5) pe_int) (pa_cons (pv 5) (pa_cons (pe_op op_add (pv 5) pe_int) (pa_cons (pe_op op_fdivW (pv 5) (pv 2)) (pa_cons pe_int (pa_cons pe_int (pa_cons (pe_op op_pow pe_int pe_int) (pa_cons (pe_call (ok__law_draw T) (hr.mono (by decide)) rfl T.m__law_draw T.F__law_draw.kp T.b__law_draw .nil pass0 (pa_cons (pv 0) (pa_cons pe_int pa_nil))) pa_nil))))))))))))
      (pss_cons (ps_set (i := 8) sc__law_are_words.nd rfl (Or.inl rfl) (pe_ifExp (pt_cmpR op_le (pv 5) pe_int (nomark _)) (pe_tup (pa_cons pe_str (pa_cons (pe_callTy call_tuple_of (by rfl) T.m_tuple (by decide +kernel) (pa_cons (pe_callB (cr_sortTB (d := n) (B := q) n1) (by rfl) T.m_sorted (by decide +kernel) (pa_cons (pe_call (ok__law_listed T) (hr.mono (by decide)) rfl T.m__law_listed T.F__law_listed.kp T.b__law_listed .nil pass0 (pa_cons (pv 2) (pa_cons (pv 3) (pa_cons (pv 4) pa_nil)))) pa_nil)) pa_nil)) pa_nil))) (pe_tup (pa_cons pe_str (pa_cons pe_int pa_nil)))))
      (pss_cons (ps_if (PW.pt (pw_and (PW.pt (pw_or (pt_cmpR op_le (pv 5) pe_int (nomark _)) (pw_or1 (pt_cmpR op_gt (pv 5) pe_int (nomark _))))) (pw_and1 (pt_cmpR op_ne (pe_callB (call_tell sm hgu hr.units) (by rfl) T.m_repr (by decide +kernel) (pa_cons (pe_tup (pa_cons (pe_tell (T := TL T) (k := 3) (c := T.c__law_are_words) (P := T.tP__law_are_words) T.F__law_told T.b__law_told rfl T.m__law_told sc__law_told rfl (Or.inl rfl) (fun _ => gives__law_told T) tb__law_are_words rfl (.head _) (hu__law_are_words T) (hr.mono (by decide)) (lamS_by (sc := defScope s__law_are_words) (by decide +kernel)) rfl (fun _ _ _ _ _ => rfl)
        (fun A outer s H E f c' hr => (pe_callSD (ok_words T) (hr.mono (by decide)) rfl T.m_words T.F_words.kp T.b_words (.cons (show RelV (.int 4096) _ from ⟨_, rfl⟩) .nil) (fun σ => passAt (takes_of rfl rfl rfl rfl) σ) (pa_cons (pv 1) pa_nil)))) (pa_cons (pe_tell (T := TL T) (k := 3) (c := T.c__law_are_words) (P := T.tP__law_are_words) T.F__law_told T.b__law_told rfl T.m__law_told sc__law_told rfl (Or.inl rfl) (fun _ => gives__law_told T) tb__law_are_words rfl (.head _) (hu__law_are_words T) (hr.mono (by decide)) (lamS_by (sc := defScope s__law_are_words) (by decide +kernel)) rfl (fun _ _ _ _ _ => rfl)
        (fun A outer s H E f c' hr => (pe_callK0S (ok_words T) (hr.mono (by decide)) rfl T.m_words T.F_words.kp T.q_words_book (fun σ => passAt (takes_of rfl rfl rfl rfl) σ) (pk_cons (pv 1) pk_nil)))) pa_nil))) pa_nil)) (pe_callB (call_tell sm hgu hr.units) (by rfl) T.m_repr (by decide +kernel) (pa_cons (pe_tup (pa_cons (pv 8) (pa_cons (pv 8) pa_nil))) pa_nil)) (nomark _))))) (pss_one (ps_ret pe_bl)) pss_nil)
      (pss_cons (ps_for PassesOwn.never rfl (pi_list (pv 7)) (pg_name (i := 9) sc__law_are_words.nd rfl (Or.inr rfl)) (pss_cons (ps_if (PW.pt (pw_and (pt_cmpR op_lt (pv 9) (pv 5) (nomark _)) (pw_and (pt_cmpR op_le (pv 9) pe_int (nomark _)) (pw_and1 (pt_cmpR op_ne (pe_callB (call_tell sm hgu hr.units) (by rfl) T.m_repr (by decide +kernel) (pa_cons (pe_tell (T := TL T) (k := 3) (c := T.c__law_are_words) (P := T.tP__law_are_words) T.F__law_told T.b__law_told rfl T.m__law_told sc__law_told rfl (Or.inl rfl) (fun _ => gives__law_told T) tb__law_are_words rfl (.head _) (hu__law_are_words T) (hr.mono (by decide)) (lamS_by (sc := defScope s__law_are_words) (by decide +kernel)) rfl (fun _ _ _ _ _ => rfl)
        (fun A outer s H E f c' hr => (pe_callKS (ok_words T) (hr.mono (by decide)) rfl T.m_words T.F_words.kp T.q_words_most (fun σ => passAt (takes_of rfl rfl rfl rfl) σ) (pa_cons (pv 1) pa_nil) (pk_cons (pv 9) pk_nil)))) pa_nil)) (pe_callB (call_tell sm hgu hr.units) (by rfl) T.m_repr (by decide +kernel) (pa_cons (pe_tup (pa_cons pe_str (pa_cons (pv 9) pa_nil))) pa_nil)) (nomark _)))))) (pss_one (ps_ret pe_bl)) pss_nil)
      (pss_one (ps_if (PW.pt (pw_and (pt_cmpR op_le (pv 5) pe_int (nomark _)) (pw_and (pt_cmpR op_ge (pv 9) (pv 5) (nomark _)) (pw_and1 (pt_cmpR op_ne (pe_callB (call_tell sm hgu hr.units) (by rfl) T.m_repr (by decide +kernel) (pa_cons (pe_tell (T := TL T) (k := 3) (c := T.c__law_are_words) (P := T.tP__law_are_words) T.F__law_told T.b__law_told rfl T.m__law_told sc__law_told rfl (Or.inl rfl) (fun _ => gives__law_told T) tb__law_are_words rfl (.head _) (hu__law_are_words T) (hr.mono (by decide)) (lamS_by (sc := defScope s__law_are_words) (by decide +kernel)) rfl (fun _ _ _ _ _ => rfl)
        (fun A outer s H E f c' hr => (pe_callK0S (ok_words T) (hr.mono (by decide)) rfl T.m_words T.F_words.kp T.q_words_most_book (fun σ => passAt (takes_of rfl rfl rfl rfl) σ) (pk_cons (pv 9) (pk_cons (pv 1) pk_nil))))) pa_nil)) (pe_callB (call_tell sm hgu hr.units) (by rfl) T.m_repr (by decide +kernel) (pa_cons (pv 8) pa_nil)) (nomark _)))))) (pss_one (ps_ret pe_bl)) pss_nil))))
      (pss_one (ps_ret pe_bl)))))))), ?_⟩
    have hq := hE.B.lq
    have hR := hE.B.rr
    have n8 := hE.B.n8
    have q2 := hq.lo
    have q5 := hq.hi
    have lR := rr_len hR
    obtain ⟨ar, vs, rfl, har, hpr⟩ := id hE.R
    have lv : vs.length = Ps.length := by rw [hpr.length, List.length_map]
    refine seq_set ?_
    refine (seq_cutF (fun σ' G => ∃ o6 : Option V, σ' = [some (.ref d), some (.ref b), some (.int q), some (.int (n : Int)), some (.ref ar), some (.int (q ^ Ps.length)), o6, none, none, none] ∧ Same H G) (fun D' go => ?_) ?_)
    · refine ⟨_, rfl, ar, rfl, ⟨vs, har⟩, for_it (walk_tup (K := K) (a := ar) (xs := vs))
        (fun i σ' G => ∃ o6 : Option V, σ' = [some (.ref d), some (.ref b), some (.int q), some (.int (n : Int)), some (.ref ar), some (.int (q ^ i)), o6, none, none, none] ∧ Same H G) ⟨none, by rw [Int.pow_zero]; rfl, Same.refl _⟩ (fun i σ G _ ⟨_, _, e⟩ => e.tup har) ?_ (fun σ G h => go σ G (by rw [lv] at h; exact h))⟩
      rintro i v _ _ G hi ⟨o6, rfl, e⟩ ⟨rfl, hv⟩
      refine ⟨_, rfl, _, rfl, _, _, rfl, rfl, wide_mul (a := 30) (b := 3) (pow_small hq (by omega)) (by omega) (by decide) (by decide) (by decide), ?_⟩
      exact ⟨_, by rw [Int.pow_succ]; rfl, e⟩
    rintro _ H1 ⟨o6, rfl, s1⟩
    have pw0 : 0 < q ^ Ps.length := Int.pow_pos (by omega)
    have pw1 := pow_small hq (show Ps.length ≤ 8 by omega)
    generalize hM : q ^ Ps.length = M at pw0 pw1 ⊢
    have hE1 := hE.same s1
    refine ⟨_, rfl, _, _, rfl, rfl, _, rfl, _, rfl, _, _, rfl, rfl, _, rfl, _, rfl, _, _, rfl, rfl, wide_div (b := 3) (by omega) (by omega) (by decide) (by decide), _, _, rfl, rfl, ⟨by decide, by decide, by decide⟩, ?_⟩
    refine ⟨_, rfl, d, l, 4097, rfl, by decide, by decide, hE1.D, fun r H2 r0 r1 e2 D2 => ⟨line_s (Nat.le_of_ble_eq_true rfl), fun L hL => ?_⟩⟩
    have hE2 := hE1.but e2 D2
    have h42 : (10 : Nat) ^ 42 > 2 ^ 40 := by decide
    obtain ⟨ms, hms, eL⟩ : ∃ ms : List V, (∀ x ∈ ms, ∃ m : Int, x = .int m ∧ m.natAbs < 10 ^ 42) ∧ ms = [V.int 0, .int 1, .int (M - 1), .int M, .int (M + 1), .int (M / q), .int 4096, .int 4095, .int ((10 : Int) ^ (20 : Int).toNat), .int r] := by
      refine ⟨_, fun x hx => ?_, rfl⟩
      simp only [List.mem_cons, List.not_mem_nil, or_false] at hx
      have hd0 : 0 ≤ M / q := Int.ediv_nonneg (by omega) (by omega)
      have hd1 : M / q ≤ M := Int.ediv_le_self _ (by omega)
      rcases hx with rfl | rfl | rfl | rfl | rfl | rfl | rfl | rfl | rfl | rfl
      · exact ⟨_, rfl, by decide⟩
      · exact ⟨_, rfl, by decide⟩
      · exact ⟨_, rfl, by omega⟩
      · exact ⟨_, rfl, by omega⟩
      · exact ⟨_, rfl, by omega⟩
      · exact ⟨_, rfl, by omega⟩
      · exact ⟨_, rfl, by decide⟩
      · exact ⟨_, rfl, by decide⟩
      · exact ⟨_, rfl, by decide⟩
      · exact ⟨_, rfl, by omega⟩
    have lms : ms.length = 10 := by rw [eL]; rfl
    show _
    dsimp only
    rw [← eL]
    have s3 := same_upd (o := .lst ms) hL
    have hE3 := hE2.same s3
    have hL3 : (upd H2 L (.lst ms)) L = some (.lst ms) := upd_same
    generalize upd H2 L (.lst ms) = H3 at hE3 hL3 ⊢
    clear s3 hL e2 D2 hE2 hE1 s1 har hpr eL
    dsimp only [gName]
    refine (seq_cutA (fun σ' G => ∃ zd : V, σ' = [some (.ref d), some (.ref b), some (.int q), some (.int (n : Int)), some (.ref ar), some (.int M), o6, some (.ref L), some zd, none] ∧ Env6 T d l b q n Ps (.ref ar) G ∧ G L = some (.lst ms) ∧ Dq K G zd (dueW q n Ps)) (fun D' go => ?_) ?_)
    · unfold dueW at go
      rw [hM] at go
      refine ⟨_, rfl, _, _, rfl, rfl, _, rfl, ?_⟩
      refine ite2 (fun c => ?_) (fun c => ?_)
      · rw [if_pos (of_decide_eq_true c)] at go
        refine ⟨_, rfl, _, rfl, _, rfl, q, n, .ref ar, Ps, rfl, hq, n8, hE3.R, hR, fun F H4 s4 hF => ?_⟩
        obtain ⟨fs, hF4, pF⟩ := hF
        obtain ⟨asc, wall⟩ := words_asc hq hR
        have tl : ∀ x ∈ fs, ∃ ns, TupI K H4 x ns ∧ ns.length = n ∧ TS.Bd q ns := fun x hx => by
          obtain ⟨i, hi, e⟩ := List.mem_iff_getElem.mp hx
          obtain ⟨r, hr, tr⟩ := paired_at pF (List.getElem?_eq_getElem hi)
          obtain ⟨wr, wl⟩ := wall r (List.mem_of_getElem? hr)
          rw [e] at tr
          obtain ⟨t, ht, hs⟩ := tr
          exact ⟨r, ⟨t, ht, hs⟩, wl, fun c hc => wr c hc⟩
        refine ⟨F, fs, rfl, SqL.of hF4, tl, fun ys p hperm hpw hp => ?_⟩
        have pS : fs.Pairwise fun x y => ∃ a b, TupI K H4 x a ∧ TupI K H4 y b ∧ TS.code q a < TS.code q b := by
          rw [List.pairwise_iff_getElem]
          intro i j hi hj hij
          obtain ⟨r, hr, tr⟩ := paired_at pF (List.getElem?_eq_getElem hi)
          obtain ⟨r', hr', tr'⟩ := paired_at pF (List.getElem?_eq_getElem hj)
          obtain ⟨hi2, er⟩ := List.getElem?_eq_some_iff.mp hr
          obtain ⟨hj2, er'⟩ := List.getElem?_eq_some_iff.mp hr'
          have ls := List.pairwise_iff_getElem.mp asc i j hi2 hj2 hij
          rw [er, er'] at ls
          obtain ⟨w1, w2⟩ := wall r (List.mem_of_getElem? hr)
          obtain ⟨w3, w4⟩ := wall r' (List.mem_of_getElem? hr')
          exact ⟨r, r', tr, tr', code_less (m := n) (by rw [w2, w4]) (fun c hc => w1 c hc) (fun c hc => w3 c hc) (by omega) ls⟩
        obtain rfl : ys = fs := perm_uniq (S := fun x y => ∃ a b, TupI K H4 x a ∧ TupI K H4 y b ∧ TS.code q a < TS.code q b) (fun x y ⟨a, b, h1, h2, h3⟩ h4 => absurd (h4 b a h2 h1) (by omega)) hperm pS hpw
        have s5 := same_upd (o := .lst ys) hp
        refine ⟨p, ys, rfl, .inl ⟨SqL.of upd_same, fun p2 hp2 => ⟨line_s (Nat.le_of_ble_eq_true rfl), fun p3 hp3 => go _ _ ?_⟩⟩⟩
        have s6 := same_upd (o := .tup ys) hp2
        have s7 := same_upd (o := .tup [.str "told", .ref p2]) hp3
        have s47 := s5.trans (s6.trans s7)
        refine ⟨.ref p3, rfl, hE3.same (s4.trans s47), (s4.trans s47) _ _ hL3, .tup (SqT.of upd_same) (.cons (.str _) (.cons ?_ .nil))⟩
        exact dq_rows ⟨p2, ys, rfl, s7.tup (SqT.of upd_same), rows_same s47 pF⟩
      · rw [if_neg (fun z => c (decide_eq_true z))] at go
        refine ⟨line_s (Nat.le_of_ble_eq_true rfl), fun p3 hp3 => go _ _ ?_⟩
        have s7 := same_upd (o := .tup [.str "many", .int 4096]) hp3
        exact ⟨.ref p3, rfl, hE3.same s7, s7 _ _ hL3, .tup (SqT.of upd_same) (.cons (.str _) (.cons (.int _) .nil))⟩
    rintro _ H5 ⟨zd, rfl, hE5, hL5, hd5⟩
    have zdue := sz_dueW hq hR n8 (n := n)
    have tdue := zdue.told (by decide) (by decide)
    have tdd := (sz_tup (szAll_cons zdue (szAll_cons zdue (szAll_nil (b := 0))))).told (by decide) (by decide)
    clear hE3 hL3
    refine (seq_cutI (fun σ' G => σ' = [some (.ref d), some (.ref b), some (.int q), some (.int (n : Int)), some (.ref ar), some (.int M), o6, some (.ref L), some zd, none] ∧ Env6 T d l b q n Ps (.ref ar) G ∧ G L = some (.lst ms) ∧ Dq K G zd (dueW q n Ps)) (fun D' go => ?_) ?_)
    · have both : M ≤ 256 ∨ 4096 < M → wordsD q n Ps 4096 = dueW q n Ps := fun h => by
        unfold wordsD dueW
        rw [hM]
        rcases h with h | h
        · rw [if_neg (by omega), if_pos h]
        · rw [if_pos h, if_neg (by omega)]
      have one : ∀ {G : Hp} {Q' : VK}, Env6 T d l b q n Ps (.ref ar) G → (∀ p G', Same G G' → Dq K G' (.ref p) (wordsD q n Ps 4096) → Q' (.ref p) G') → spWords T [.ref b, .int 4096] G (QT Q') (ETold T Q') := fun h g => lam_words h.B g
      refine ⟨_, rfl, _, _, rfl, rfl, _, rfl, ?_⟩
      by_cases c0 : M ≤ 256 ∨ 4096 < M
      · rw [both c0] at one
        rcases c0 with c1 | c1
        rw [decide_eq_true c1]
        refine iteT (iteT ?_)
        rotate_left
        rw [decide_eq_false (show ¬ M ≤ 256 by omega)]
        refine iteF ⟨_, rfl, _, _, rfl, rfl, _, rfl, ?_⟩
        rw [decide_eq_true c1]
        refine iteT ?_
        all_goals
          refine ⟨hE5.t, fun Ha ea Ta => ⟨_, rfl, one (hE5.ext ea Ta) fun p1 Hb sb hp1 => ?_⟩⟩
          have e1 := ea.trans (same_extN sb)
          have hEb := (hE5.ext ea Ta).same sb
          refine ⟨hEb.t, fun Hc ec Tc => ⟨_, rfl, one (hEb.ext ec Tc) fun p2 Hd sd hp2 => ⟨line_s (Nat.le_of_ble_eq_true rfl), fun pt hpt => ?_⟩⟩⟩
          have e2 := e1.trans (ec.trans (same_extN sd))
          have v1 := same_upd (o := .tup [.ref p1, .ref p2]) hpt
          have dp1 := Dq.same v1 _ _ (Dq.same sd _ _ (dq_ext hp1 ec))
          have dp2 := Dq.same v1 _ _ hp2
          refine ⟨_, .tuple [_, _], rfl, .tup (SqT.of upd_same) (.cons dp1 (.cons dp2 .nil)), tdd, _, rfl, _, rfl, line_s (Nat.le_of_ble_eq_true rfl), fun pu hpu => ?_⟩
          have v2 := same_upd (o := .tup [zd, zd]) hpu
          have hz := Dq.same (v1.trans v2) _ _ (dq_ext hd5 e2)
          refine ⟨_, .tuple [_, _], rfl, .tup (SqT.of upd_same) (.cons hz (.cons hz .nil)), tdd, rfl, _, rfl, ?_⟩
          rw [decide_eq_true rfl]
          exact iteF (go _ _ ⟨rfl, ((hEb.ext ec Tc).same sd).same (v1.trans v2), (v1.trans v2) _ _ (e2 _ _ hL5 (by intro ps z; cases z)), hz⟩)
      · rw [decide_eq_false (show ¬ M ≤ 256 by omega)]
        refine iteF ⟨_, rfl, _, _, rfl, rfl, _, rfl, ?_⟩
        rw [decide_eq_false (show ¬ 4096 < M by omega)]
        exact iteF (go _ _ ⟨rfl, hE5, hL5, hd5⟩)
    rintro _ H6 ⟨rfl, hE6, hL6, hd6⟩
    clear hE5 hL5 hd5
    refine ⟨_, rfl, L, rfl, ⟨ms, SqL.of hL6⟩, for_it (walk_list (K := K) (a := L) (xs := ms))
      (fun i σ' G => ∃ o9 : Option V, σ' = [some (.ref d), some (.ref b), some (.int q), some (.int (n : Int)), some (.ref ar), some (.int M), o6, some (.ref L), some zd, o9] ∧ Env6 T d l b q n Ps (.ref ar) G ∧ G L = some (.lst ms) ∧ Dq K G zd (dueW q n Ps))
      ⟨none, rfl, hE6, hL6, hd6⟩ (fun i σ' G _ ⟨_, _, _, h, _⟩ => SqL.of h) ?_ ?_⟩
    · clear hE6 hL6 hd6
      rintro i x _ _ G hi ⟨o9, rfl, hE, hL, hd⟩ ⟨rfl, hx⟩
      obtain ⟨m, rfl, hm⟩ := hms x (List.mem_of_getElem? hx)
      refine (seq_cutI (fun σ' G' => σ' = [some (.ref d), some (.ref b), some (.int q), some (.int (n : Int)), some (.ref ar), some (.int M), o6, some (.ref L), some zd, some (.int m)] ∧ Env6 T d l b q n Ps (.ref ar) G' ∧ G' L = some (.lst ms) ∧ Dq K G' zd (dueW q n Ps)) (fun D' go => ?_) ?_)
      · refine ⟨_, rfl, _, rfl, _, _, rfl, rfl, _, rfl, ?_⟩
        by_cases c1 : m < M
        · rw [decide_eq_true c1]
          refine iteT ⟨_, rfl, _, _, rfl, rfl, _, rfl, ?_⟩
          by_cases c2 : m ≤ 4096
          · rw [decide_eq_true c2]
            have ew : wordsD q n Ps m = .tuple [.str "many", .int m] := by
              unfold wordsD
              rw [hM, if_pos c1]
            have tW := (sz_tup (szAll_cons (sz_text (b := 10) (k := 6) (s := "many") (by decide)) (szAll_cons (sz_int (b := 10) hm) (szAll_nil (b := 0))))).told (by decide) (by decide)
            refine iteT ⟨hE.t, fun Ha ea Ta => ⟨_, rfl, _, rfl, lam_words (hE.ext ea Ta).B fun p1 Hb sb hp1 => ?_⟩⟩
            rw [ew] at hp1
            have e1 := ea.trans (same_extN sb)
            refine ⟨_, _, rfl, hp1, tW, _, rfl, line_s (Nat.le_of_ble_eq_true rfl), fun pu hpu => ?_⟩
            have v2 := same_upd (o := .tup [.str "many", .int m]) hpu
            refine ⟨_, .tuple [.str "many", .int m], rfl, .tup (SqT.of upd_same) (.cons (.str _) (.cons (.int m) .nil)), tW, rfl, _, rfl, ?_⟩
            rw [decide_eq_true rfl]
            exact iteF (go _ _ ⟨rfl, ((hE.ext ea Ta).same sb).same v2, v2 _ _ (e1 _ _ hL (by intro ps z; cases z)), Dq.same v2 _ _ (dq_ext hd e1)⟩)
          · rw [decide_eq_false c2]
            exact iteF (go _ _ ⟨rfl, hE, hL, hd⟩)
        · rw [decide_eq_false c1]
          exact iteF (go _ _ ⟨rfl, hE, hL, hd⟩)
      clear hE hL hd
      rintro _ G1 ⟨rfl, hE, hL, hd⟩
      refine ⟨_, rfl, _, _, rfl, rfl, _, rfl, ?_⟩
      by_cases c1 : M ≤ 256
      · rw [decide_eq_true c1]
        refine iteT ⟨_, rfl, _, rfl, _, _, rfl, rfl, _, rfl, ?_⟩
        by_cases c2 : M ≤ m
        · rw [decide_eq_true c2]
          have ew : wordsD q n Ps m = dueW q n Ps := by
            unfold wordsD dueW
            rw [hM, if_neg (by omega), if_pos c1]
          refine iteT ⟨hE.t, fun Ha ea Ta => ⟨_, rfl, _, rfl, lam_words (hE.ext ea Ta).B fun p1 Hb sb hp1 => ?_⟩⟩
          rw [ew] at hp1
          have e1 := ea.trans (same_extN sb)
          refine ⟨_, _, rfl, hp1, tdue, _, rfl, _, _, rfl, dq_ext hd e1, tdue, rfl, _, rfl, ?_⟩
          rw [decide_eq_true rfl]
          exact iteF ⟨_, rfl, (hE.ext ea Ta).same sb, e1 _ _ hL (by intro ps z; cases z), dq_ext hd e1⟩
        · rw [decide_eq_false c2]
          exact iteF ⟨_, rfl, hE, hL, hd⟩
      · rw [decide_eq_false c1]
        exact iteF ⟨_, rfl, hE, hL, hd⟩
    · rintro _ G ⟨o9, rfl, hE, hL, hd⟩
      exact k G hE
end
end K11
end
section
set_option maxRecDepth 100000
set_option maxHeartbeats 4000000
set_option exponentiation.threshold 9000
namespace K11
open PySem PySem.Spec PyProof.Rows L2 MB LM
open LamX hiding takes0
def dueS (q : Int) (n : Nat) (Ps : List (Nat × List Int)) (dd : PyData) : PyData :=
  match asTuple dd with
  | none => .tuple [.str "stack", .int (-1)]
  | some ds => match wrong q n Ps ds with
    | some i => .tuple [.str "stack", .int (i : Int)]
    | none => .tuple [.str "told", .tuple ((suppW n (ds.map rowD)).map PyData.int)]
def wrongs (q : Int) (n : Nat) (Ps : List (Nat × List Int)) (ds : List PyData) (i : Nat) : List Nat := (List.range i).filter fun j => !wordQ q n Ps (asInts (ds.getD j .none))
theorem wrong_head {q : Int} {n : Nat} {Ps : List (Nat × List Int)} {ds : List PyData} : (wrongs q n Ps ds ds.length).head? = wrong q n Ps ds := by
  have gd : ∀ j e, ds[j]? = some e → ds.getD j .none = e := fun j e h => by
    rw [List.getD_eq_getElem?_getD, h]
    rfl
  unfold wrongs
  rw [List.head?_filter]
  cases h : (List.range ds.length).find? fun j => !wordQ q n Ps (asInts (ds.getD j .none)) with
  | none =>
    rw [List.find?_eq_none] at h
    refine (wrong_none fun j hj e he => ?_).symm
    have z := h j (List.mem_range.mpr hj)
    rw [gd j e he] at z
    simpa using z
  | some i =>
    obtain ⟨h1, h2, h3⟩ := List.find?_range_eq_some.mp h
    have hi := List.mem_range.mp h2
    refine (wrong_some (List.getElem?_eq_getElem hi) ?_ fun j hj e he => ?_).symm
    · rw [gd i _ (List.getElem?_eq_getElem hi)] at h1
      simpa using h1
    · have z := h3 j hj
      rw [gd j e he] at z
      simpa using z
theorem wrongs_len {q : Int} {n : Nat} {Ps : List (Nat × List Int)} {ds : List PyData} (i : Nat) : (wrongs q n Ps ds i).length ≤ i :=
  Nat.le_trans (List.length_filter_le _ _) (by rw [List.length_range]; exact Nat.le_refl _)
theorem wrongs_next {q : Int} {n : Nat} {Ps : List (Nat × List Int)} {ds : List PyData} {i : Nat} {d : PyData} (hd : ds[i]? = some d) :
    wrongs q n Ps ds (i + 1) = wrongs q n Ps ds i ++ (if (!wordQ q n Ps (asInts d)) = true then [i] else []) := by
  unfold wrongs
  have gd : ds.getD i .none = d := by
    rw [List.getD_eq_getElem?_getD, hd]
    rfl
  rw [List.range_succ, List.filter_append]
  congr 1
  rw [List.filter_cons, gd]
  rfl
theorem suppW_small {n : Nat} {Ws : List (List Int)} : (suppW n Ws).length ≤ n ∧ ∀ c ∈ suppW n Ws, c.natAbs < n := by
  unfold suppW
  constructor
  · rw [List.length_map]
    exact Nat.le_trans (List.length_filter_le _ _) (by rw [List.length_range]; exact Nat.le_refl _)
  · intro c hc
    obtain ⟨p, hp, rfl⟩ := List.mem_map.mp hc
    have := List.mem_range.mp (List.mem_filter.mp hp).1
    omega
theorem sz_dueS {q : Int} {n : Nat} {Ps : List (Nat × List Int)} {dd : PyData} (n8 : n ≤ 8) (h : StackOk dd) : Sz 100 6 (dueS q n Ps dd) := by
  have h42 : (10 : Nat) ^ 42 > 2000 := by decide
  unfold dueS
  cases et : asTuple dd with
  | none => exact (sz_tup (szAll_cons (sz_text (b := 10) (k := 4) (s := "stack") (by decide)) (szAll_cons (sz_int (b := 10) (i := -1) (by decide)) (szAll_nil (b := 0))))).mono (by decide) (by decide)
  | some ds =>
    obtain rfl : dd = .tuple ds := by
      cases dd <;> first | (cases et; rfl) | cases et
    obtain ⟨hl, _⟩ := h ds rfl
    dsimp only
    cases ew : wrong q n Ps ds with
    | some i =>
      have hi : i < ds.length := by
        unfold wrong at ew
        rw [List.findIdx?_eq_some_iff_getElem] at ew
        exact ew.1
      exact (sz_tup (szAll_cons (sz_text (b := 10) (k := 4) (s := "stack") (by decide)) (szAll_cons (sz_int (b := 10) (i := (i : Int)) (by omega)) (szAll_nil (b := 0))))).mono (by decide) (by decide)
    | none =>
      obtain ⟨h1, h2⟩ := suppW_small (n := n) (Ws := ds.map rowD)
      have z1 : Sz 17 4 (.tuple ((suppW n (ds.map rowD)).map PyData.int)) := (sz_tup (k := 0) (small_sz (by omega) fun c hc => by have := h2 c hc; omega)).mono (by decide) (by decide)
      exact (sz_tup (szAll_cons (sz_text (b := 10) (k := 4) (s := "told") (by decide)) (szAll_cons z1 (szAll_nil (b := 0))))).mono (by decide) (by decide)
section
variable {w : World} {K : PySem.W.Frag} {mg : Str → Option Value} {base : Heap}
theorem lam_stack {T : Txt K mg} {b : Addr} {q : Int} {n : Nat} {Ps : List (Nat × List Int)} {v : V} {dd : PyData} {H : Hp} {Q : VK} (hB : BookR T H b q n Ps) (hv : Dq K H v dd) (hok : StackOk dd)
    (go : ∀ p H', Same H H' → Dq K H' (.ref p) (dueS q n Ps dd) → Q (.ref p) H') : spStack T [.ref b, v] H (QT Q) (ETold T Q) := by
  refine ⟨b, q, n, Ps, v, dd, rfl, hB, hv, hok, fun et H1 s1 => fly_stack s1 fun p H' s' hp => go p H' s' ?_, fun ds i e ew H1 s1 => fly_stack s1 fun p H' s' hp => go p H' s' ?_, fun ds e ew z H1 s1 hz => ⟨line_s (Nat.le_of_ble_eq_true rfl), fun p hp => go p _ (s1.trans (same_upd hp)) ?_⟩⟩
  · unfold dueS
    rw [et]
    exact .tup hp (.cons (.str _) (.cons (.int _) .nil))
  · subst e
    unfold dueS
    rw [show asTuple (.tuple ds) = some ds from rfl]
    dsimp only
    rw [ew]
    exact .tup hp (.cons (.str _) (.cons (.int _) .nil))
  · subst e
    unfold dueS
    rw [show asTuple (.tuple ds) = some ds from rfl]
    dsimp only
    rw [ew]
    exact .tup (SqT.of upd_same) (.cons (.str _) (.cons (ti_dq (hz.same (same_upd hp))) .nil))
def spCovered (T : Txt K mg) : Sp := fun vs H Q _ => ∃ (b : Addr) (q : Int) (n : Nat) (u v : V) (Ps : List (Nat × List Int)) (dd : PyData), vs = [.ref b, .int q, .int (n : Int), u, v] ∧ BookR T H b q n Ps ∧ RowsF K H u Ps ∧ Tabs (TL T) H ∧ Dq K H v dd ∧ StackOk dd ∧
  ∀ H', ExtN H H' → Tabs (TL T) H' → Q (.bl true) H'
theorem ok__law_is_covered (T : Txt K mg) (sm : SM base) (tb__law_is_covered : TabB base mg T.c__law_is_covered T.tP__law_is_covered) : FnG P w K mg base 11 T.a__law_is_covered T.d__law_is_covered P__law_is_covered (spCovered T) := by
  refine fnGL T.F__law_is_covered sc__law_is_covered (fun vs H Q E h => ?_) (fun A outer s H vs Q E hr hgu h => ?_)
  · obtain ⟨b, q, n, u, v, Ps, dd, rfl, _⟩ := h
    rfl
  · obtain ⟨b, q, n, u, v, Ps, dd, rfl, hB, hRF, hT, hv, hok, k⟩ := h
    refine ⟨_, 
      (pss_cons (ps_par (i := 5) (j := 6) (by rfl) sc__law_is_covered.nd rfl rfl (by decide) rfl rfl (pa_cons pe_non (pa_cons (pe_lst pa_nil) pa_nil)) (by rfl))
      (pss_cons (ps_if (pt_not (pt_val (pe_callB (id := "isinstance") (r := rIsi K) call_isi (by rfl) T.m_isinstance (by decide +kernel) (pa_cons (pv 4) (pa_cons (pe_bltn (by rfl) T.m_tuple (v := .ty "tuple") (by decide +kernel) rfl) pa_nil))))) (pss_one (ps_set (i := 5) sc__law_is_covered.nd rfl (Or.inl rfl) (pe_tup (pa_cons pe_str (pa_cons (pe_un un_neg pe_int) pa_nil))))) (pss_cons (ps_setLc (i := 7) (own := [("_law_number", 9), ("_law_word", 10)]) (g := gTup K 2 (gCons (gName 9) (gCons (gName 10) gNil)))  rfl sc__law_is_covered.nd rfl rfl (sw_true rfl rfl rfl (by decide +kernel)) (pi_enumT (by rfl) T.m_enumerate (pa_cons (pv 4) pa_nil)) (blkOk_by (own := [("_law_number", 9), ("_law_word", 10)]) (N := N__law_is_covered) (sc := (defScope s__law_is_covered)) (by decide +kernel)) (fun _ _ _ _ _ => (pg_tup rfl (pgs_cons (pg_name (i := 9) sc__law_is_covered.nd rfl (Or.inl rfl)) (pgs_cons (pg_name (i := 10) sc__law_is_covered.nd rfl (Or.inl rfl)) pgs_nil)))) (fun _ _ _ _ _ => (pts_one (pt_not (pt_val (pe_call (ok__law_is_word T) (hr.mono (by decide)) rfl T.m__law_is_word T.F__law_is_word.kp T.b__law_is_word .nil pass0 (pa_cons (pv 1) (pa_cons (pv 2) (pa_cons (pv 3) (pa_cons (pv 10) pa_nil))))))))) (fun _ _ _ _ _ => (pv 9)))
      (pss_one (ps_if (pt_cmpR (op_neNil hr.units) (pv 7) (pe_lst pa_nil) (nomark _)) (pss_one (ps_set (i := 5) sc__law_is_covered.nd rfl (Or.inl rfl) (pe_tup (pa_cons pe_str (pa_cons (pe_ix (r := rIxL K) ix_list (pv 7) pe_int (fun _ _ => rfl)) pa_nil))))) pss_nil))))
      (pss_cons (ps_if (pt_cmpR op_isN (pv 5) pe_non (nomark _)) (pss_one (ps_set (i := 5) sc__law_is_covered.nd rfl (Or.inl rfl) (pe_tup (pa_cons pe_str (pa_cons (pe_callTy call_tuple_of (by rfl) T.m_tuple (by decide +kernel) (pa_cons (pe_lc (own := [("_law_at", 11)]) (g := gName 11)  rfl sc__law_is_covered.nd (pi_range1 rfl T.m_range (pa_cons (pv 2) pa_nil)) (blkOk_by (own := [("_law_at", 11)]) (N := N__law_is_covered) (sc := (defScope s__law_is_covered)) (by decide +kernel)) (fun _ _ _ _ _ => (pg_name (i := 11) sc__law_is_covered.nd rfl (Or.inr rfl))) (fun _ _ _ _ _ => (pts_one (pt_cmpR (show OpR _ _ (rNeNil K) from op_neNil hr.units) (pe_lc (own := [("_law_word", 10)]) (g := gName 10)  rfl sc__law_is_covered.nd (show PI _ _ _ (iTup K (tVar 4)) from pi_tup (pv 4)) (blkOk_by (own := [("_law_word", 10)]) (N := N__law_is_covered) (sc := { kind := .function, names := [(".0", .local), ("_law_at", .cell), ("_law_stack_here", .cell)], isGenerator := false, isCoroutine := false }) (by decide +kernel)) (fun _ _ _ _ _ => (pg_name (i := 10) sc__law_is_covered.nd rfl (Or.inl rfl))) (fun _ _ _ _ _ => (pts_one (pt_cmpR op_gt (pe_ix (r := rIxT K) ix_tup (pv 10) (pv 11) (fun _ _ => rfl)) pe_int (nomark _)))) (fun _ _ _ _ _ => (pv 10))) (pe_lst pa_nil) (nomark _)))) (fun _ _ _ _ _ => (pv 11))) pa_nil)) pa_nil))))) pss_nil)
      (pss_cons (ps_set (i := 8) sc__law_is_covered.nd rfl (Or.inl rfl) (pe_tup (pa_cons (pe_tell (T := TL T) (k := 8) (c := T.c__law_is_covered) (P := T.tP__law_is_covered) T.F__law_told T.b__law_told rfl T.m__law_told sc__law_told rfl (Or.inl rfl) (fun _ => gives__law_told T) tb__law_is_covered rfl (.tail _ (.head _)) (hu__law_is_covered T) (hr.mono (by decide)) (lamS_by (sc := defScope s__law_is_covered) (by decide +kernel)) rfl (fun _ _ _ _ _ => rfl)
        (fun A outer s H E f c' hr => (pe_callS (ok_stack_support T) (hr.mono (by decide)) rfl T.m_stack_support T.F_stack_support.kp T.b_stack_support (fun σ => passAt (takes_of rfl rfl rfl rfl) σ) (pa_cons (pv 0) (pa_cons (pv 4) pa_nil))))) (pa_cons (pe_tell (T := TL T) (k := 8) (c := T.c__law_is_covered) (P := T.tP__law_is_covered) T.F__law_told T.b__law_told rfl T.m__law_told sc__law_told rfl (Or.inl rfl) (fun _ => gives__law_told T) tb__law_is_covered rfl (.tail _ (.head _)) (hu__law_is_covered T) (hr.mono (by decide)) (lamS_by (sc := defScope s__law_is_covered) (by decide +kernel)) rfl (fun _ _ _ _ _ => rfl)
        (fun A outer s H E f c' hr => (pe_callK0S (ok_stack_support T) (hr.mono (by decide)) rfl T.m_stack_support T.F_stack_support.kp T.q_stack_support_stack_book (fun σ => passAt (takes_of rfl rfl rfl rfl) σ) (pk_cons (pv 4) (pk_cons (pv 0) pk_nil))))) pa_nil))))
      (pss_one (ps_ret (pe_cmpR op_eq (pe_callB (call_tell sm hgu hr.units) (by rfl) T.m_repr (by decide +kernel) (pa_cons (pv 8) pa_nil)) (pe_callB (call_tell sm hgu hr.units) (by rfl) T.m_repr (by decide +kernel) (pa_cons (pe_tup (pa_cons (pv 5) (pa_cons (pv 5) pa_nil))) pa_nil)) (nomark _)))))))), ?_⟩
    have hq := hB.lq
    have hR := hB.rr
    have n8 := hB.n8
    have zS := sz_dueS (q := q) (n := n) (Ps := Ps) n8 hok
    refine ⟨line_s (Nat.zero_le _), fun p0 hp0 => ⟨_, _, rfl, ?_⟩⟩
    have s0 := same_upd (o := .lst []) hp0
    generalize upd H p0 (.lst []) = H0 at s0 ⊢
    dsimp only
    refine (seq_cutI (fun σ' G => ∃ (z5 : V) (o7 : Option V), σ' = [some (.ref b), some (.int q), some (.int (n : Int)), some u, some v, some z5, some (.ref p0), o7, none, none, none, none] ∧ Same H G ∧ ((z5 ≠ .non ∧ Dq K G z5 (dueS q n Ps dd)) ∨ (z5 = .non ∧ ∃ ds, dd = .tuple ds ∧ wrong q n Ps ds = none))) (fun D' go => ?_) ?_)
    · cases et : asTuple dd with
      | none =>
        obtain ⟨t, ht, hk⟩ := (Dq.same s0 _ _ hv).noTuple et
        refine ⟨_, rfl, _, _, _, _, _, rfl, .ty "tuple", ht, hk, false, rfl, ?_⟩
        refine iteT ⟨1, rfl, line_s (Nat.le_of_ble_eq_true rfl), fun p hp => go _ _ ⟨.ref p, _, rfl, s0.trans (same_upd hp), .inl ⟨(by intro z; cases z), ?_⟩⟩⟩
        unfold dueS
        rw [et]
        exact .tup (SqT.of upd_same) (.cons (.str _) (.cons (.int _) .nil))
      | some ds =>
        obtain rfl : dd = .tuple ds := by
          cases dd <;> first | (cases et; rfl) | cases et
        obtain ⟨hl, hes⟩ := hok ds rfl
        obtain ⟨a, xs, rfl, ha, hda⟩ : ∃ a xs, v = .ref a ∧ SqT K H a xs ∧ DqAll K H xs ds := by
          cases hv with
          | tup h1 h2 => exact ⟨_, _, rfl, h1, h2⟩
        have lx : xs.length = ds.length := hda.length
        have ha0 := s0.tup ha
        refine ⟨_, rfl, _, _, _, _, _, rfl, .ty "tuple", tyx_tup ha0, kit_ty (r := true) (by decide +kernel), true, rfl, iteF ?_⟩
        refine ⟨_, rfl, a, xs, rfl, ha0, fun D hD => ?_⟩
        refine lc_it (walk_enumT (K := K) (a := a) (xs := xs))
          (fun i G => Same H0 G ∧ G D = some (.lst ((wrongs q n Ps ds i).map fun j : Nat => V.int (j : Int)))) ⟨same_upd hD, upd_same⟩ (fun i G _ h => h.1.tup ha0) ?_ ?_
        · rintro i z G G' hi ⟨e, hN⟩ ⟨T0, x, y, rfl, hT0, rfl, hx, hy⟩
          obtain rfl : x = V.int (i : Nat) := (Option.some.inj hx).symm
          obtain ⟨d, hd⟩ : ∃ d, ds[i]? = some d := ⟨_, List.getElem?_eq_getElem (by omega)⟩
          obtain ⟨y', hy', dy⟩ := hda.at hd
          obtain rfl : y' = y := Option.some.inj (hy'.symm.trans hy)
          have sT := same_upd (o := .tup [.int (i : Nat), y']) hT0
          have e1 := e.trans sT
          have eH := s0.trans e1
          refine ⟨T0, _, rfl, SqT.of upd_same, rfl, _, _, rfl, _, _, rfl, rfl, rfl, ?_⟩
          refine ⟨_, rfl, _, rfl, _, rfl, _, rfl, q, n, u, y', Ps, asInts d, rfl, hq, n8, hRF.same eH, hR, dq_lev (Dq.same eH _ _ dy) (hes d (List.mem_of_getElem? hd)), fun G2 s2 => ⟨wordQ q n Ps (asInts d), rfl, ?_⟩⟩
          have nx := wrongs_next (q := q) (n := n) (Ps := Ps) hd
          have hN2 := (sT.trans s2) _ _ hN
          cases ew : wordQ q n Ps (asInts d) with
          | false =>
            rw [ew, if_pos (by rfl)] at nx
            refine iteT ⟨_, rfl, _, hN2, ?_, same_set hD (e1.trans s2), ?_⟩
            · rw [List.length_map]
              exact line_le (Nat.le_trans (wrongs_len i) (by omega))
            · rw [upd_same, nx, List.map_append]
              rfl
          | true =>
            rw [ew, if_neg (by decide), List.append_nil] at nx
            refine iteF ⟨e1.trans s2, ?_⟩
            rw [nx]
            exact hN2
        rintro G ⟨e, hN⟩
        rw [lx] at hN
        dsimp only [gName]
        refine ⟨_, rfl, line_s (Nat.zero_le _), fun E0 hE => ⟨D, E0, _, rfl, rfl, SqL.of ((same_upd hE) _ _ hN), SqL.of upd_same, _, rfl, ?_⟩⟩
        have sE := same_upd (o := .lst []) hE
        have hN2 := sE _ _ hN
        have eG := s0.trans (e.trans sE)
        generalize upd G E0 (.lst []) = G2 at hN2 eG ⊢
        have wh := wrong_head (q := q) (n := n) (Ps := Ps) (ds := ds)
        cases ew : wrongs q n Ps ds ds.length with
        | nil =>
          rw [ew] at wh
          exact iteF (go _ _ ⟨_, _, rfl, eG, .inr ⟨rfl, ds, rfl, wh.symm⟩⟩)
        | cons i r =>
          rw [ew] at wh hN2
          refine iteT ⟨_, rfl, D, _, 0, .int (i : Int), rfl, rfl, SqL.of hN2, atI_nat (j := 0) rfl, line_s (Nat.le_of_ble_eq_true rfl), fun p hp => go _ _ ⟨.ref p, _, rfl, eG.trans (same_upd hp), .inl ⟨(by intro z; cases z), ?_⟩⟩⟩
          unfold dueS
          rw [show asTuple (.tuple ds) = some ds from rfl]
          dsimp only
          rw [← wh]
          exact .tup (SqT.of upd_same) (.cons (.str _) (.cons (.int _) .nil))
    clear s0 hp0
    rintro _ G ⟨z5, o7, rfl, eG, hz⟩
    refine (seq_cutI (fun σ' G => ∃ (z5 : V) (o7 : Option V), σ' = [some (.ref b), some (.int q), some (.int (n : Int)), some u, some v, some z5, some (.ref p0), o7, none, none, none, none] ∧ Same H G ∧ Dq K G z5 (dueS q n Ps dd)) (fun D' go => ?_) ?_)
    · rcases hz with ⟨hne, hz⟩ | ⟨rfl, ds, rfl, ew⟩
      · refine ⟨_, rfl, rfl, _, rfl, ?_⟩
        rw [decide_eq_false hne]
        exact iteF (go _ _ ⟨z5, o7, rfl, eG, hz⟩)
      · obtain ⟨hl, hes⟩ := hok ds rfl
        obtain ⟨a, xs, rfl, ha, hda⟩ : ∃ a xs, v = .ref a ∧ SqT K H a xs ∧ DqAll K H xs ds := by
          cases hv with
          | tup h1 h2 => exact ⟨_, _, rfl, h1, h2⟩
        have lx : xs.length = ds.length := hda.length
        have hw : ∀ j, j < ds.length → ∀ e, ds[j]? = some e → wordQ q n Ps (asInts e) = true := fun j hj e he => by
          unfold wrong at ew
          rw [List.findIdx?_eq_none_iff] at ew
          have := ew e (List.mem_of_getElem? he)
          simpa using this
        refine ⟨_, rfl, rfl, true, rfl, iteT ?_⟩
        refine ⟨_, rfl, _, rfl, by omega, by omega, fun D hD => ?_⟩
        refine lc_it (walk_range (lo := 0) (n := (n : Int).toNat))
          (fun i G' => Same G G' ∧ G' D = some (.lst ((suppW i (ds.map rowD)).map V.int))) ⟨same_upd hD, upd_same⟩ (fun _ _ _ _ => trivial) ?_ ?_
        · rintro p x _ G' hp ⟨e2, hN⟩ ⟨rfl, rfl⟩
          have hp' : p < n := hp
          have s12 := eG.trans e2
          refine ⟨rfl, ?_⟩
          refine ⟨_, rfl, a, rfl, ⟨xs, s12.tup ha⟩, fun D2 hD2 => ?_⟩
          refine lc_it (walk_tup (K := K) (a := a) (xs := xs))
            (fun j G2 => Same G' G2 ∧ ∃ acc, G2 D2 = some (.lst acc) ∧ acc.length ≤ j ∧ (!acc.isEmpty) = ((ds.take j).map rowD).any fun w => decide (w.getD p 0 ≠ 0)) ⟨same_upd hD2, [], upd_same, Nat.le_refl _, rfl⟩ (fun j G2 _ h => h.1.tup (s12.tup ha)) ?_ ?_
          · rintro j y _ G2 hj ⟨e3, acc, hN3, la, em⟩ ⟨rfl, hy⟩
            obtain ⟨d, hd⟩ : ∃ d, ds[j]? = some d := ⟨_, List.getElem?_eq_getElem (by omega)⟩
            obtain ⟨y', hy', dy⟩ := hda.at hd
            obtain rfl : y' = y := Option.some.inj (hy'.symm.trans hy)
            obtain ⟨ed, rd, ld, _⟩ := word_row (hw j (by omega) d hd)
            have ti : TI K G2 y' (rowD d) := dq_ti (by rw [← ed]; exact Dq.same (s12.trans e3) _ _ dy)
            have lt := row_getD hq rd p
            have nx : (((ds.take (j + 1)).map rowD).any fun w => decide (w.getD p 0 ≠ 0)) = ((!acc.isEmpty) || decide ((rowD d).getD p 0 ≠ 0)) := by
              rw [List.take_add_one, hd, List.map_append, List.any_append, em]
              simp
            refine ⟨rfl, ?_⟩
            refine ⟨_, rfl, _, rfl, ixT_rd ti (by omega) (Int.zero_add _) ⟨_, _, rfl, rfl, _, rfl, ?_⟩⟩
            rw [pos_ne lt]
            by_cases c0 : (rowD d).getD p 0 = 0
            · rw [decide_eq_false (fun z => z c0), Bool.or_false] at nx
              rw [decide_eq_false (fun z => z c0)]
              exact iteF ⟨e3, acc, hN3, by omega, nx.symm⟩
            · rw [decide_eq_true c0, Bool.or_true] at nx
              rw [decide_eq_true c0]
              refine iteT ⟨_, rfl, acc, hN3, line_le (by omega), same_set hD2 e3, acc ++ [y'], upd_same, by rw [List.length_append]; simp; omega, ?_⟩
              rw [nx]
              cases acc <;> rfl
          rintro G3 ⟨e3, acc, hN3, la, em⟩
          rw [lx, List.take_length] at em
          refine ⟨line_s (Nat.zero_le _), fun E0 hE => ⟨D2, E0, acc, rfl, rfl, SqL.of ((same_upd hE) _ _ hN3), SqL.of upd_same, _, rfl, ?_⟩⟩
          have sE := same_upd (o := .lst []) hE
          have e4 := e3.trans sE
          generalize upd G3 E0 (.lst []) = G4 at e4 ⊢
          rw [em]
          have nx := suppW_next p (ds.map rowD)
          refine ite2 (fun c => ?_) (fun c => ?_)
          · rw [if_pos c] at nx
            refine ⟨_, rfl, _, e4 _ _ hN, ?_, same_set hD (e2.trans e4), ?_⟩
            · rw [List.length_map]
              exact line_le (Nat.le_trans suppW_small.1 (by omega))
            · rw [upd_same, nx, List.map_append]
              show some (HO.lst (_ ++ [V.int (0 + (p : Int))])) = _
              rw [Int.zero_add]
              rfl
          · rw [if_neg c, List.append_nil] at nx
            exact ⟨e2.trans e4, by rw [nx]; exact e4 _ _ hN⟩
        · rintro G2 ⟨e2, hN⟩
          rw [Int.toNat_natCast] at hN
          refine ⟨D, _, rfl, .inl ⟨SqL.of hN, fun p hp => ⟨line_s (Nat.le_of_ble_eq_true rfl), fun p2 hp2 => go _ _ ⟨.ref p2, _, rfl, eG.trans (e2.trans ((same_upd hp).trans (same_upd hp2))), ?_⟩⟩⟩⟩
          unfold dueS
          rw [show asTuple (.tuple ds) = some ds from rfl]
          dsimp only
          rw [ew]
          exact .tup (SqT.of upd_same) (.cons (.str _) (.cons (.tup ((same_upd hp2).tup (SqT.of upd_same)) (dq_ints _)) .nil))
    rintro _ G1 ⟨z5', o7', rfl, e1, hz1⟩
    have hB1 := hB.same e1
    have hT1 := hT.ext e1
    have hv1 := Dq.same e1 _ _ hv
    have tdd := (sz_tup (szAll_cons zS (szAll_cons zS (szAll_nil (b := 0))))).told (by decide) (by decide)
    refine ⟨hT1, fun Ha ea Ta => ⟨_, rfl, _, rfl, lam_stack (hB1.ext ea) (dq_ext hv1 ea) hok fun p1 Hb sb hp1 => ?_⟩⟩
    have f1 := ea.trans (same_extN sb)
    refine ⟨Ta.ext sb, fun Hc ec Tc => ⟨_, rfl, _, rfl, lam_stack (hB1.ext (f1.trans ec)) (dq_ext hv1 (f1.trans ec)) hok fun p2 Hd sd hp2 => ⟨line_s (Nat.le_of_ble_eq_true rfl), fun pt hpt => ?_⟩⟩⟩
    have f2 := f1.trans (ec.trans (same_extN sd))
    have v1 := same_upd (o := .tup [.ref p1, .ref p2]) hpt
    have dp1 := Dq.same v1 _ _ (Dq.same sd _ _ (dq_ext hp1 ec))
    have dp2 := Dq.same v1 _ _ hp2
    refine ⟨_, rfl, _, .tuple [_, _], rfl, .tup (SqT.of upd_same) (.cons dp1 (.cons dp2 .nil)), tdd, _, rfl, _, rfl, line_s (Nat.le_of_ble_eq_true rfl), fun pu hpu => ?_⟩
    have v2 := same_upd (o := .tup [z5', z5']) hpu
    have hz2 := Dq.same (v1.trans v2) _ _ (dq_ext hz1 f2)
    refine ⟨_, .tuple [_, _], rfl, .tup (SqT.of upd_same) (.cons hz2 (.cons hz2 .nil)), tdd, rfl, ?_⟩
    rw [decide_eq_true rfl]
    exact k _ ((same_extN e1).trans (f2.trans (same_extN (v1.trans v2)))) (Tc.ext (sd.trans (v1.trans v2)))
end
end K11
end
section
set_option maxRecDepth 100000
set_option maxHeartbeats 4000000
set_option exponentiation.threshold 9000
namespace K11
open PySem PySem.Spec PyProof.Rows L2 MB LM
open LamX hiding takes0
def hid (M d l : Addr) (H : Hp) : Hp := hide M M (hide d l H)
theorem hid_but {M d l : Addr} {H H' : Hp} (e : But d l H H') : Same (hid M d l H) (hid M d l H') := same_hide e.hide
theorem hid_sub {M d l : Addr} {H : Hp} : Same (hid M d l H) H := hide_sub.trans hide_sub
theorem hid_upd {M d l : Addr} {H : Hp} {o : HO} : hid M d l (upd H M o) = hid M d l H := by
  funext b
  unfold hid hide
  by_cases c : b = M
  · rw [if_pos (.inl c), if_pos (.inl c)]
  · rw [upd_ne c]
theorem hid_at {M d l b : Addr} {H : Hp} (h1 : b ≠ M) (h2 : b ≠ d) (h3 : b ≠ l) : hid M d l H b = H b := by
  unfold hid
  rw [hide_off h1 h1, hide_off h2 h3]
theorem hid_tup {K : PySem.W.Frag} {M d l a : Addr} {H : Hp} {ms xs : List V} (D : Deck kL H d l) (hM : H M = some (.lst ms)) (h : SqT K H a xs) : SqT K (hid M d l H) a xs := by
  have h := sqT_hide D h
  rcases h with (h | ⟨o, h⟩) | h
  · have n : a ≠ M := fun z => by
      rw [z] at h
      have := (hide_sub _ _ h).symm.trans hM
      cases this
    exact .inl (.inl (by unfold hid; rw [hide_off n n]; exact h))
  · have n : a ≠ M := fun z => by
      rw [z] at h
      have := (hide_sub _ _ h).symm.trans hM
      cases this
    exact .inl (.inr ⟨o, by unfold hid; rw [hide_off n n]; exact h⟩)
  · exact .inr h
theorem hid_new {M d l : Addr} {H H' : Hp} (D : Deck kL H d l) (hM : H M ≠ none) : Same (newer H H') (hid M d l H') := fun b u e => by
  obtain ⟨e1, e2⟩ := newer_some e
  have h1 : b ≠ d := fun z => D.there.1 (by rw [← z]; exact e1)
  have h2 : b ≠ l := fun z => D.there.2 (by rw [← z]; exact e1)
  have h3 : b ≠ M := fun z => hM (by rw [← z]; exact e1)
  rw [hid_at h3 h1 h2]
  exact e2
theorem hid_put {M d l p : Addr} {H : Hp} {o : HO} {ms : List V} (D : Deck kL H d l) (hM : H M = some (.lst ms)) (hp : H p = none) : hid M d l (upd H p o) p = some o := by
  rw [hid_at (fun z => by rw [z] at hp; rw [hp] at hM; cases hM) (D.off hp).1 (D.off hp).2, upd_same]
theorem ti_hid {K : PySem.W.Frag} {M d l : Addr} {H : Hp} {v : V} {ms : List V} {ns : List Int} (h : TI K H v ns) (D : Deck kL H d l) (hM : H M = some (.lst ms)) : TI K (hid M d l H) v ns := by
  obtain ⟨a, rfl, ha⟩ := h
  exact ⟨a, rfl, hid_tup D hM ha⟩
theorem rows_hid {K : PySem.W.Frag} {M d l : Addr} {H : Hp} {vs ms : List V} {Ls : List (List Int)} (D : Deck kL H d l) (hM : H M = some (.lst ms)) (h : Paired (TI K H) vs Ls) : Paired (TI K (hid M d l H)) vs Ls := by
  induction h with
  | nil => exact .nil
  | cons r _ ih => exact .cons (ti_hid r D hM) ih
theorem hid_mem {M d l p : Addr} {H H' : Hp} {o : HO} {ms : List V} (D : Deck kL H d l) (hM : H M = some (.lst ms)) (hp : H p = none) (h : H' p = some o) : hid M d l H' p = some o := by
  rw [hid_at (fun z => by rw [z] at hp; rw [hp] at hM; cases hM) (D.off hp).1 (D.off hp).2, h]
theorem rowsF_hid {K : PySem.W.Frag} {M d l : Addr} {H : Hp} {v : V} {ms : List V} {Ps : List (Nat × List Int)} (h : RowsF K H v Ps) (D : Deck kL H d l) (hM : H M = some (.lst ms)) : RowsF K (hid M d l H) v Ps := by
  obtain ⟨a, vs, rfl, h1, h2⟩ := h
  refine ⟨a, vs, rfl, hid_tup D hM h1, ?_⟩
  clear h1
  generalize Ps.map (·.2) = Ls at h2 ⊢
  induction h2 with
  | nil => exact .nil
  | cons r _ ih =>
    obtain ⟨b, o, rfl, g1, g2⟩ := r
    obtain ⟨m, m', cs, k1, k2, _⟩ := D.ex
    exact .cons ⟨b, o, rfl, by rw [hid_at (ne_of g1 hM (by intro z; cases z)) (ne_of g1 k1 (by intro z; cases z)) (ne_of g1 k2 (by intro z; cases z))]; exact g1, g2⟩ ih
def ItemOk (d : PyData) : Prop := ∀ es, d = .tuple es → es.length ≤ 1000
theorem catS_rd {K : PySem.W.Frag} {H : Hp} {a b : Addr} {xs ys : List V} {Q : VK} (ha : SqT K H a xs) (hb : SqT K H b ys) (hl : xs.length + ys.length ≤ 100000)
    (q : ∀ c H', Same H H' → SqT K H' c (xs ++ ys) → Q (.ref c) H') : rCatA K (.ref a) (.ref b) H Q := by
  refine ⟨a, b, _, _, rfl, rfl, ha, hb, Nat.le_of_lt (line_le hl), fun e => ?_, fun _ e => ?_, fun _ _ p hp => q _ _ (same_upd hp) (SqT.of upd_same)⟩
  · subst e
    exact q _ _ (Same.refl _) hb
  · subst e
    exact q _ _ (Same.refl _) (by rw [List.append_nil]; exact ha)
theorem ti_item {ns : List Int} (h : ns.length ≤ 1000) : ItemOk (.tuple (ns.map PyData.int)) := fun es e => by
  cases e
  rw [List.length_map]
  exact h
theorem strange {K : PySem.W.Frag} {H : Hp} {p : Addr} {x : V} (h : SqT K H p [.int 0])
    (hx : x ∈ [V.bl true, .bl false, .int (-1), .int 2, .int 3, .int 4, .int 5, .non, .str "0", .ref p]) : ∃ dd, Dq K H x dd := by
  simp only [List.mem_cons, List.not_mem_nil, or_false] at hx
  rcases hx with rfl | rfl | rfl | rfl | rfl | rfl | rfl | rfl | rfl | rfl
  · exact ⟨_, .bl _⟩
  · exact ⟨_, .bl _⟩
  · exact ⟨_, .int _⟩
  · exact ⟨_, .int _⟩
  · exact ⟨_, .int _⟩
  · exact ⟨_, .int _⟩
  · exact ⟨_, .int _⟩
  · exact ⟨_, .non⟩
  · exact ⟨_, .str _⟩
  · exact ⟨_, .tup h (.cons (.int 0) .nil)⟩
def SX (K : PySem.W.Frag) (d l M : Addr) (B H : Hp) (N : Nat) (G : Hp) : Prop := But d l H G ∧ Deck kL G d l ∧ Same B (hid M d l G) ∧ ∃ ms, G M = some (.lst ms) ∧ ms.length ≤ N ∧ ∀ x ∈ ms, ∃ dd, Dq K (hid M d l G) x dd ∧ ItemOk dd
theorem SX.but {K : PySem.W.Frag} {d l M : Addr} {B H H1 H2 : Hp} {N : Nat} (h : SX K d l M B H N H1) (M1 : M ≠ d) (M2 : M ≠ l) (e : But d l H1 H2) (D : Deck kL H2 d l) : SX K d l M B H N H2 := by
  obtain ⟨b, _, s, ms, hm, lm, im⟩ := h
  refine ⟨b.trans e, D, s.trans (hid_but e), ms, e _ _ hm M1 M2, lm, fun x hx => ?_⟩
  obtain ⟨t, ht, ok⟩ := im x hx
  exact ⟨t, Dq.same (hid_but e) _ _ ht, ok⟩
theorem SX.same {K : PySem.W.Frag} {d l M : Addr} {B H H1 H2 : Hp} {N : Nat} (h : SX K d l M B H N H1) (M1 : M ≠ d) (M2 : M ≠ l) (s : Same H1 H2) : SX K d l M B H N H2 := h.but M1 M2 (But.of s) (h.2.1.same s)
theorem SX.put {K : PySem.W.Frag} {d l M : Addr} {B H H1 : Hp} {N : Nat} {x : V} {dd : PyData} (h : SX K d l M B H N H1) (hM : H M = none) (M1 : M ≠ d) (M2 : M ≠ l) (ht : Dq K (hid M d l H1) x dd) (ok : ItemOk dd) :
    ∃ ms, H1 M = some (.lst ms) ∧ ms.length ≤ N ∧ SX K d l M B H (N + 1) (upd H1 M (.lst (ms ++ [x]))) := by
  obtain ⟨b, D, s, ms, hm, lm, im⟩ := h
  refine ⟨ms, hm, lm, b.upd hM, D.upd M1 M2, by rw [hid_upd]; exact s, _, upd_same, by rw [List.length_append]; simp; omega, fun y hy => ?_⟩
  rw [hid_upd]
  rcases List.mem_append.mp hy with hy | hy
  · exact im y hy
  · rw [List.mem_singleton.mp hy]
    exact ⟨dd, ht, ok⟩
theorem items_all {K : PySem.W.Frag} {H : Hp} : ∀ {ms : List V}, (∀ x ∈ ms, ∃ dd, Dq K H x dd ∧ ItemOk dd) → ∃ ds, DqAll K H ms ds ∧ ∀ d ∈ ds, ItemOk d
  | [], _ => ⟨[], .nil, fun d hd => by cases hd⟩
  | x :: ms, h => by
    obtain ⟨dd, h1, h2⟩ := h x List.mem_cons_self
    obtain ⟨ds, h3, h4⟩ := items_all fun y hy => h y (List.mem_cons_of_mem _ hy)
    refine ⟨dd :: ds, .cons h1 h3, fun d hd => ?_⟩
    rcases List.mem_cons.mp hd with rfl | hd
    · exact h2
    · exact h4 d hd
section
variable {w : World} {K : PySem.W.Frag} {mg : Str → Option Value} {base : Heap}
def spLStack (K : PySem.W.Frag) : Sp := fun vs H Q _ => ∃ (d l : Addr) (q : Int) (n : Nat) (u : V) (Ps : List (Nat × List Int)), vs = [.ref d, .int q, .int (n : Int), u] ∧ Deck kL H d l ∧ LetQ q ∧ 1 ≤ n ∧ n ≤ 8 ∧ RowsF K H u Ps ∧ RR q n Ps ∧
  ∀ v dd H', But d l H H' → Deck kL H' d l → Dq K H' v dd → StackOk dd → Q v H'
theorem ok__law_stack (T : Txt K mg) : FnOk P w K mg base CX0 6 T.a__law_stack T.d__law_stack P__law_stack (spLStack K) := by
  refine T.F__law_stack.ok sc__law_stack (fun vs H Q E h => ?_) (fun cdv A outer s H vs Q E hr h => ?_)
  · obtain ⟨d, l, q, n, u, Ps, rfl, _⟩ := h
    rfl
  · obtain ⟨d, l, q, n, u, Ps, rfl, D, hq, n1, n8, hRF, hR, k⟩ := h
    refine ⟨_, 
      (pss_cons (ps_set (i := 4) sc__law_stack.nd rfl (Or.inl rfl) (pe_lst pa_nil))
      (pss_cons (ps_for PassesOwn.never rfl (pi_range1 rfl T.m_range (pa_cons (pe_call (ok__law_draw T) (hr.mono (by decide)) rfl T.m__law_draw T.F__law_draw.kp T.b__law_draw .nil pass0 (pa_cons (pv 0) (pa_cons pe_int pa_nil))) pa_nil)) (pg_name (i := 5) sc__law_stack.nd rfl (Or.inl rfl)) (pss_cons (ps_par (i := 6) (j := 7) (by rfl) sc__law_stack.nd rfl rfl (by decide) rfl rfl (pa_cons (pe_call (ok__law_sum T) (hr.mono (by decide)) rfl T.m__law_sum T.F__law_sum.kp T.b__law_sum .nil pass0 (pa_cons (pv 1) (pa_cons (pv 2) (pa_cons (pv 3) (pa_cons (pe_lc (own := [("_law_row", 10)]) (g := gName 10) (tt := tYes) rfl sc__law_stack.nd (pi_tup (pv 3)) (blkOk_by (own := [("_law_row", 10)]) (N := N__law_stack) (sc := (defScope s__law_stack)) (by decide +kernel)) (fun _ _ _ _ _ => (pg_name (i := 10) sc__law_stack.nd rfl (Or.inl rfl))) (fun _ _ _ _ _ => pts_nil) (fun _ _ _ _ _ => (pe_call (ok__law_draw T) (hr.mono (by decide)) rfl T.m__law_draw T.F__law_draw.kp T.b__law_draw .nil pass0 (pa_cons (pv 0) (pa_cons (pv 1) pa_nil))))) pa_nil))))) (pa_cons (pe_call (ok__law_draw T) (hr.mono (by decide)) rfl T.m__law_draw T.F__law_draw.kp T.b__law_draw .nil pass0 (pa_cons (pv 0) (pa_cons pe_int pa_nil))) pa_nil)) (by rfl))
      (pss_cons (ps_par (i := 8) (j := 9) (by rfl) sc__law_stack.nd rfl rfl (by decide) rfl rfl (pa_cons (pe_call (ok__law_draw T) (hr.mono (by decide)) rfl T.m__law_draw T.F__law_draw.kp T.b__law_draw .nil pass0 (pa_cons (pv 0) (pa_cons (pv 2) pa_nil))) (pa_cons (pe_lst (pa_cons pe_bl (pa_cons pe_bl (pa_cons (pe_un un_neg pe_int) (pa_cons pe_int (pa_cons pe_int (pa_cons pe_int (pa_cons pe_int (pa_cons pe_non (pa_cons pe_str (pa_cons (pe_tup (pa_cons pe_int pa_nil)) pa_nil))))))))))) pa_nil)) (by rfl))
      (pss_cons (ps_if (pt_cmpR op_eq (pv 7) pe_int (nomark _)) (pss_one (ps_set (i := 6) sc__law_stack.nd rfl (Or.inl rfl) (pe_op op_catA (pe_op op_catA (pe_slice sl_tupA (pv 6) po_none (po_some (pv 8))) (pe_tup (pa_cons (pe_call (ok__law_draw T) (hr.mono (by decide)) rfl T.m__law_draw T.F__law_draw.kp T.b__law_draw .nil pass0 (pa_cons (pv 0) (pa_cons (pv 1) pa_nil))) pa_nil))) (pe_slice sl_tupA (pv 6) (po_some (pe_op op_add (pv 8) pe_int)) po_none)))) pss_nil)
      (pss_cons (ps_if (pt_cmpR op_eq (pv 7) pe_int (nomark _)) (pss_one (ps_set (i := 6) sc__law_stack.nd rfl (Or.inl rfl) (pe_op op_catA (pe_op op_catA (pe_slice sl_tupA (pv 6) po_none (po_some (pv 8))) (pe_tup (pa_cons (pe_call (ok__law_pick T) (hr.mono (by decide)) rfl T.m__law_pick T.F__law_pick.kp T.b__law_pick .nil pass0 (pa_cons (pv 0) (pa_cons (pv 9) pa_nil))) pa_nil))) (pe_slice sl_tupA (pv 6) (po_some (pe_op op_add (pv 8) pe_int)) po_none)))) pss_nil)
      (pss_cons (ps_if (pt_cmpR op_eq (pv 7) pe_int (nomark _)) (pss_one (ps_set (i := 6) sc__law_stack.nd rfl (Or.inl rfl) (pe_call (ok__law_pick T) (hr.mono (by decide)) rfl T.m__law_pick T.F__law_pick.kp T.b__law_pick .nil pass0 (pa_cons (pv 0) (pa_cons (pe_lst (pa_cons (pe_callTy call_list_of (by rfl) T.m_list (by decide +kernel) (pa_cons (pv 6) pa_nil)) (pa_cons (pe_op op_catA (pv 6) (pe_tup (pa_cons pe_int pa_nil))) (pa_cons (pe_slice sl_tupA (pv 6) (po_some pe_int) po_none) (pa_cons (pe_call (ok__law_any T) (hr.mono (by decide)) rfl T.m__law_any T.F__law_any.kp T.b__law_any .nil pass0 (pa_cons (pv 0) (pa_cons pe_int pa_nil))) (pa_cons (pv 3) pa_nil)))))) pa_nil))))) pss_nil)
      (pss_cons (ps_expr (pe_bm PySem.F.plainAttrs_list PySem.F.slot_list_append PySem.F.type_list_append mt_append (pv 4) (pa_cons (pv 6) pa_nil)))
      (pss_one (ps_if (pt_cmpR op_eq (pv 7) pe_int (nomark _)) (pss_one (ps_expr (pe_bm PySem.F.plainAttrs_list PySem.F.slot_list_append PySem.F.type_list_append mt_append (pv 4) (pa_cons (pe_ix (r := rIxL K) ix_list (pv 4) (pe_call (ok__law_draw T) (hr.mono (by decide)) rfl T.m__law_draw T.F__law_draw.kp T.b__law_draw .nil pass0 (pa_cons (pv 0) (pa_cons (pe_callB call_len_seq (by rfl) T.m_len (by decide +kernel) (pa_cons (pv 4) pa_nil)) pa_nil))) (fun _ _ => rfl)) pa_nil)))) pss_nil)))))))))
      (pss_one (ps_ret (pe_callTy call_tuple_of (by rfl) T.m_tuple (by decide +kernel) (pa_cons (pv 4) pa_nil)))))), ?_⟩
    have lR := rr_len hR
    have q2 := hq.lo
    have q5 := hq.hi
    have qb : q.natAbs < 2 ^ 8000 := Nat.lt_of_le_of_lt (by omega : q.natAbs ≤ 5) (by decide)
    have aR : AllR q n (Ps.map (·.2)) := hR.rows
    refine ⟨line_s (Nat.zero_le _), fun M hM => ?_⟩
    obtain ⟨M1, M2⟩ := D.off hM
    have MH := hM
    have sM := same_upd (o := .lst []) hM
    have D1 := D.same sM
    have hM1 : (upd H M (.lst [])) M = some (.lst []) := upd_same
    have hRB := rowsF_hid (hRF.same sM) D1 hM1
    have X0 : SX K d l M (hid M d l (upd H M (.lst []))) H 0 (upd H M (.lst [])) := ⟨But.of sM, D1, Same.refl _, [], hM1, Nat.le_refl _, fun x hx => by cases hx⟩
    generalize hid M d l (upd H M (.lst [])) = B at hRB X0
    generalize upd H M (.lst []) = H1 at X0 D1 ⊢
    obtain ⟨ar, vs, rfl, har, hpr⟩ := id hRB
    have lv : vs.length = Ps.length := by rw [hpr.length, List.length_map]
    refine ⟨_, rfl, d, l, 9, rfl, by decide, by decide, D1, fun r H2 r0 r1 e2 D2 => ⟨_, rfl, by omega, by omega, for_range (lo := 0) (n := r.toNat)
      (fun i σ G => ∃ o5 o6 o7 o8 o9 : Option V, σ = [some (.ref d), some (.int q), some (.int (n : Int)), some (.ref ar), some (.ref M), o5, o6, o7, o8, o9, none] ∧ SX K d l M B H (2 * i) G)
      ⟨none, none, none, none, none, rfl, X0.but M1 M2 e2 D2⟩ ?_ ?_⟩⟩
    · clear X0 D1 sM e2 D2
      rintro i _ G1 hi ⟨o5, o6, o7, o8, o9, rfl, X1⟩
      have hi9 : i < 9 := by omega
      have har1 := hid_sub.tup (X1.2.2.1.tup har)
      refine ⟨_, rfl, _, rfl, _, rfl, _, rfl, ar, rfl, ⟨vs, har1⟩, fun F hF => ?_⟩
      refine lc_it (walk_tup (K := K) (a := ar) (xs := vs)) (DrawnI q d l F G1) (drawn_zero X1.2.1 hF) (fun i H' _ h => h.1.tup X1.2.1 har1) ?_ ?_
      · rintro j x _ H' hj hI ⟨rfl, _⟩
        refine ⟨rfl, ?_⟩
        exact ⟨_, rfl, _, rfl, d, l, q, rfl, by omega, qb, hI.2.1, fun r G' r0 r1 eG DG => drawn_succ hF hI (by omega) eG DG r0 r1⟩
      rintro G2 ⟨e2, D2, _, _, rs, lr, hr2, hN⟩
      have X2 := X1.but M1 M2 e2 D2
      have R2 := hRB.same (X2.2.2.1.trans hid_sub)
      refine ⟨q, n, .ref ar, .ref F, rs, Ps.map (·.2), rfl, hq, n8, .inl ⟨show TupRows K G2 (.ref ar) (Ps.map (·.2)) from R2.red, F, rfl, SqL.of hN, by rw [List.length_map]; omega⟩, hr2, aR, fun z G3 s3 hz => ⟨_, rfl, d, l, 24, rfl, by decide, by decide, X2.2.1.same s3, fun way G4 w0 w1 e4 D4 => ⟨_, _, rfl, ?_⟩⟩⟩
      have X4 := (X2.same M1 M2 s3).but M1 M2 e4 D4
      have hz4 := hz.but (X2.2.1.same s3) e4
      obtain ⟨wr0, wl0⟩ : IsRow q (comb q n rs (Ps.map (·.2))) ∧ (comb q n rs (Ps.map (·.2))).length = n := ⟨comb_row hq hr2 fun r hr => (aR r hr).1, comb_len fun r hr => (aR r hr).2⟩
      generalize comb q n rs (Ps.map (·.2)) = ws0 at hz4 wr0 wl0
      clear X2 R2 hz hN hr2 e2 D2 hF X1 har1 s3 e4 D4
      refine ⟨_, rfl, _, rfl, d, l, (n : Int), rfl, by omega, small_bits (by omega) (by omega), X4.2.1, fun at_ G5 a0 a1 e5 D5 => ⟨1, rfl, line_s (Nat.le_of_ble_eq_true rfl), fun p hp => ⟨line_s (Nat.le_of_ble_eq_true rfl), fun S hS => ⟨_, _, rfl, ?_⟩⟩⟩⟩
      obtain ⟨j, rfl⟩ : ∃ j : Nat, at_ = (j : Int) := ⟨at_.toNat, by omega⟩
      have X5 := X4.but M1 M2 e5 D5
      have hz5 := hz4.but X4.2.1 e5
      have sp := same_upd (o := .tup [.int 0]) hp
      have sS := same_upd (o := .lst [V.bl true, .bl false, .int (-1), .int 2, .int 3, .int 4, .int 5, .non, .str "0", .ref p]) hS
      obtain ⟨ms5, hm5, _⟩ := id X5.2.2.2
      have hpp : hid M d l (upd G5 p (.tup [.int 0])) p = some (.tup [.int 0]) := hid_put X5.2.1 hm5 hp
      have hpS := hid_but (M := M) (But.of sS : But d l _ _) _ _ hpp
      have hSS := (X5.2.1.same sp).at_new (o := .lst [V.bl true, .bl false, .int (-1), .int 2, .int 3, .int 4, .int 5, .non, .str "0", .ref p]) hS
      have X6 := X5.same M1 M2 (sp.trans sS)
      have hz6 := hz5.same (sp.trans sS)
      generalize upd _ S _ = G6 at hpS hSS X6 hz6 ⊢
      clear hpp sp sS hS hp X5 hz5 X4 hz4 e5 D5 hm5
      dsimp only
      refine (seq_cutI (fun σ' G => ∃ (w1 : V) (ws : List Int), σ' = [some (.ref d), some (.int q), some (.int (n : Int)), some (.ref ar), some (.ref M), some (.int (0 + (i : Int))), some w1, some (.int way), some (.int (j : Int)), some (.ref S), none] ∧ SX K d l M B H (2 * i) G ∧ hide d l G S = some (.lst [V.bl true, .bl false, .int (-1), .int 2, .int 3, .int 4, .int 5, .non, .str "0", .ref p]) ∧ hid M d l G p = some (.tup [.int 0]) ∧ TI K G w1 ws ∧ IsRow q ws ∧ ws.length = n) (fun D' go => ?_) ?_)
      · refine ⟨_, rfl, rfl, _, rfl, ?_⟩
        refine ite2 (fun _ => ?_) (fun _ => ?_)
        · have jn : j < ws0.length := by omega
          refine ⟨_, rfl, _, rfl, _, rfl, to_rd hz6 (j := j) (by omega) fun z3 G3 s3 hz3 => ?_⟩
          have Y3 := X6.same M1 M2 s3
          refine ⟨_, rfl, _, rfl, d, l, q, rfl, by omega, qb, Y3.2.1, fun r3 G4 r30 r31 e4 DG4 => ⟨line_s (Nat.le_of_ble_eq_true rfl), fun p4 hp4 => ?_⟩⟩
          have t4 := same_upd (o := .tup [.int r3]) hp4
          have Y4 := (Y3.but M1 M2 e4 DG4).same M1 M2 t4
          have e34 : But d l G6 (upd G4 p4 (.tup [.int r3])) := ((But.of s3).trans e4).same t4
          have hz4 := (hz3.but Y3.2.1 e4).same t4
          have hw4 := ((hz6.same s3).but Y3.2.1 e4).same t4
          have hr4 : TI K (upd G4 p4 (.tup [.int r3])) (.ref p4) [r3] := ⟨p4, rfl, SqT.of upd_same⟩
          generalize upd G4 p4 (.tup [.int r3]) = G5 at Y4 hz4 hw4 hr4 e34 ⊢
          have l1 : (ws0.take j).length ≤ 8 := by rw [List.length_take]; omega
          have l2 : (ws0.drop (j + 1)).length ≤ 8 := by rw [List.length_drop]; omega
          refine cat_rd hz4 hr4 (by rw [List.length_singleton]; omega) fun z5 G7 s6 hz5 => ⟨_, rfl, _, rfl, _, _, rfl, rfl, _, rfl, to_no _ _ (from_rd (hw4.same s6) (j := j + 1) (by omega) fun z7 G8 s7 hz7 => cat_rd (hz5.same s7) hz7 (by rw [List.length_append, List.length_singleton]; omega) fun z8 G9 s8 hz8 => ?_)⟩
          have s68 := s6.trans (s7.trans s8)
          obtain ⟨br, bl⟩ := bent_row wr0 ⟨r30, r31⟩ jn
          have ea : But d l G6 G9 := e34.same s68
          exact go _ _ ⟨z8, _, rfl, Y4.same M1 M2 s68, ea.hide _ _ hSS, hid_but ea _ _ hpS, hz8, br, by rw [bl]; exact wl0⟩
        · exact go _ _ ⟨z, ws0, rfl, X6, hSS, hpS, hz6, wr0, wl0⟩
      clear X6 hSS hpS hz6 wr0 wl0
      rintro _ G7 ⟨w1, ws, rfl, X7, hSS, hpS, hw7, wr, wl⟩
      refine (seq_cutI (fun σ' G => ∃ w2 : V, σ' = [some (.ref d), some (.int q), some (.int (n : Int)), some (.ref ar), some (.ref M), some (.int (0 + (i : Int))), some w2, some (.int way), some (.int (j : Int)), some (.ref S), none] ∧ SX K d l M B H (2 * i) G ∧ ((TI K G w2 ws) ∨ (way = 1 ∧ ∃ dd, Dq K (hid M d l G) w2 dd ∧ ItemOk dd))) (fun D' go => ?_) ?_)
      · refine ⟨_, rfl, rfl, _, rfl, ?_⟩
        rw [dec_int]
        refine ite2 (fun c => ?_) (fun _ => ?_)
        · have jn : j < ws.length := by omega
          refine ⟨_, rfl, _, rfl, _, rfl, to_rd hw7 (j := j) (by omega) fun z3 G3 s3 hz3 => ?_⟩
          have Y3 := X7.same M1 M2 s3
          refine ⟨_, rfl, _, rfl, d, l, S, _, rfl, .inr (SqL.of ((same_hide s3) _ _ hSS)), by simp, by simp, Y3.2.1, fun x G4 hx e4 DG4 => ⟨line_s (Nat.le_of_ble_eq_true rfl), fun p4 hp4 => ?_⟩⟩
          have t4 := same_upd (o := .tup [x]) hp4
          have e34 : But d l G7 (upd G4 p4 (.tup [x])) := ((But.of s3).trans e4).same t4
          have Y4 := (Y3.but M1 M2 e4 DG4).same M1 M2 t4
          have hz4 := (hz3.but Y3.2.1 e4).same t4
          have hw4 := ((hw7.same s3).but Y3.2.1 e4).same t4
          have hr4 : SqT K (upd G4 p4 (.tup [x])) p4 [x] := SqT.of upd_same
          generalize upd G4 p4 (.tup [x]) = G5 at Y4 hz4 hw4 hr4 e34 ⊢
          obtain ⟨dd, hdd⟩ := strange (SqT.of (hid_but (M := M) e34 _ _ hpS)) hx
          obtain ⟨a4, rfl, ha4⟩ := hz4
          have l1 : (ws.take j).length ≤ 8 := by rw [List.length_take]; omega
          have l2 : (ws.drop (j + 1)).length ≤ 8 := by rw [List.length_drop]; omega
          refine catS_rd ha4 hr4 (by rw [List.length_map, List.length_singleton]; omega) fun z5 G8 s6 hz5 => ⟨_, rfl, _, rfl, _, _, rfl, rfl, _, rfl, to_no _ _ (from_rd (hw4.same s6) (j := j + 1) (by omega) fun z7 G9 s7 hz7 => ?_)⟩
          obtain ⟨a7, rfl, ha7⟩ := hz7
          refine catS_rd (s7.tup hz5) ha7 (by rw [List.length_append, List.length_map, List.length_map, List.length_singleton]; omega) fun z8 G10 s8 hz8 => ?_
          have s68 := s6.trans (s7.trans s8)
          have Y8 := Y4.same M1 M2 s68
          obtain ⟨ms8, hm8, _⟩ := id Y8.2.2.2
          refine go _ _ ⟨.ref z8, rfl, Y8, .inr ⟨of_decide_eq_true c, _, .tup (hid_tup Y8.2.1 hm8 hz8) (((dq_ints _).app (.cons (Dq.same (hid_but (But.of s68)) _ _ hdd) .nil)).app (dq_ints _)), fun es e => ?_⟩⟩
          cases e
          rw [List.length_append, List.length_append, List.length_map, List.length_map, List.length_singleton]
          omega
        · exact go _ _ ⟨w1, rfl, X7, .inl hw7⟩
      clear X7 hSS hpS hw7
      rintro _ G8 ⟨w2, rfl, X8, hw8⟩
      refine (seq_cutI (fun σ' G => ∃ (w3 : V) (dd : PyData), σ' = [some (.ref d), some (.int q), some (.int (n : Int)), some (.ref ar), some (.ref M), some (.int (0 + (i : Int))), some w3, some (.int way), some (.int (j : Int)), some (.ref S), none] ∧ SX K d l M B H (2 * i) G ∧ Dq K (hid M d l G) w3 dd ∧ ItemOk dd) (fun D' go => ?_) ?_)
      · refine ⟨_, rfl, rfl, _, rfl, ?_⟩
        rw [dec_int]
        refine ite2 (fun c => ?_) (fun _ => ?_)
        · have way2 : way = 2 := of_decide_eq_true c
          have hw : TI K G8 w2 ws := by
            rcases hw8 with h | ⟨h, _⟩
            · exact h
            · omega
          obtain ⟨aw, rfl, haw⟩ := id hw
          refine ⟨_, rfl, _, rfl, aw, _, rfl, .inr haw, fun a1 h1 => ?_⟩
          have u1 := same_upd (o := .lst (ws.map V.int)) h1
          refine ⟨_, rfl, line_s (Nat.le_of_ble_eq_true rfl), fun a2 h2 => cat_rd (ms := [0]) ((hw.same u1).same (same_upd h2)) ⟨a2, rfl, SqT.of upd_same⟩ (by rw [List.length_singleton]; omega) fun z2 G9 s2 hz2 => ?_⟩
          have u2 := (same_upd (o := .tup [.int 0]) h2).trans s2
          refine ⟨_, rfl, _, rfl, to_no _ _ (from_rd ((hw.same u1).same u2) (j := 1) (by omega) fun z3 G10 s3 hz3 => ?_)⟩
          have v3 := u1.trans (u2.trans s3)
          have Y10 := X8.same M1 M2 v3
          refine ⟨_, rfl, d, l, rfl, Y10.2.1, fun x dx G11 e11 D11 hx sx => ⟨_, rfl, line_s (Nat.le_of_ble_eq_true rfl), fun L hL => ?_⟩⟩
          have Y11 := Y10.but M1 M2 e11 D11
          have tL := same_upd (o := .lst [.ref a1, z2, z3, x, .ref ar]) hL
          have Y12 := Y11.same M1 M2 tL
          obtain ⟨ms8, hm8, _⟩ := id X8.2.2.2
          obtain ⟨ms10, hm10, _⟩ := id Y10.2.2.2
          obtain ⟨ms12, hm12, _⟩ := id Y12.2.2.2
          have e12 : But d l G10 (upd G11 L (.lst [.ref a1, z2, z3, x, .ref ar])) := e11.same tL
          have k1 := hid_but (M := M) e12 _ _ (hid_mem X8.2.1 hm8 h1 ((u2.trans s3) _ _ upd_same))
          have k2 := ti_hid ((hz2.same s3).but Y10.2.1 e12) Y12.2.1 hm12
          have k3 := ti_hid (hz3.but Y10.2.1 e12) Y12.2.1 hm12
          have k4 := Dq.same ((hid_new Y10.2.1 (by rw [hm10]; intro z; cases z)).trans (hid_but (M := M) (But.of tL))) _ _ hx
          have k5 : TupRows K (hid M d l (upd G11 L (.lst [.ref a1, z2, z3, x, .ref ar]))) (.ref ar) (Ps.map (·.2)) := (hRB.same Y12.2.2.1).red
          refine ⟨d, l, L, _, rfl, .inr (SqL.of (Y11.2.1.at_new hL)), by simp, by simp, Y12.2.1, fun y G13 hy e13 D13 => ?_⟩
          have Y13 := Y12.but M1 M2 e13 D13
          have hb := hid_but (M := M) e13
          simp only [List.mem_cons, List.not_mem_nil, or_false] at hy
          rcases hy with rfl | rfl | rfl | rfl | rfl
          · exact go _ _ ⟨_, .list (ws.map PyData.int), rfl, Y13, .lst (SqL.of (hb _ _ k1)) (dq_ints ws), fun es e => by cases e⟩
          · exact go _ _ ⟨_, _, rfl, Y13, ti_dq (k2.same hb), ti_item (by rw [List.length_append, List.length_singleton]; omega)⟩
          · exact go _ _ ⟨_, _, rfl, Y13, ti_dq (k3.same hb), ti_item (by rw [List.length_drop]; omega)⟩
          · exact go _ _ ⟨_, _, rfl, Y13, Dq.same hb _ _ k4, fun es e => by rw [e] at sx; exact Nat.le_trans (szB_len sx) (by decide)⟩
          · refine go _ _ ⟨_, _, rfl, Y13, Dq.same hb _ _ (dq_rows k5), fun es e => ?_⟩
            cases e
            rw [List.length_map, List.length_map]
            omega
        · rcases hw8 with h | ⟨_, dd, hdd, ok⟩
          · obtain ⟨ms8, hm8, _⟩ := id X8.2.2.2
            exact go _ _ ⟨w2, _, rfl, X8, ti_dq (ti_hid h X8.2.1 hm8), ti_item (by omega)⟩
          · exact go _ _ ⟨w2, dd, rfl, X8, hdd, ok⟩
      clear X8 hw8
      rintro _ G9 ⟨w3, dd, rfl, X9, hd9, ok9⟩
      obtain ⟨ms9, hm9, lm9, X10⟩ := X9.put MH M1 M2 hd9 ok9
      refine ⟨_, rfl, .inl ⟨rfl, _, SqL.of hm9⟩, _, rfl, M, _, _, rfl, rfl, hm9, line_le (by omega), ?_⟩
      generalize eG10 : upd G9 M (.lst (ms9 ++ [w3])) = G10 at X10 ⊢
      clear X9 hd9 hm9
      refine ⟨_, rfl, rfl, _, rfl, ?_⟩
      refine ite2 (fun _ => ?_) (fun _ => ?_)
      · obtain ⟨ms10, hm10, lm10, im10⟩ := id X10.2.2.2
        have pos10 : 0 < ms10.length := by
          have : (upd G9 M (.lst (ms9 ++ [w3]))) M = some (.lst (ms9 ++ [w3])) := upd_same
          rw [eG10, hm10] at this
          have e := HO.lst.inj (Option.some.inj this)
          rw [e, List.length_append]
          simp
        refine ⟨_, rfl, .inl ⟨rfl, _, SqL.of hm10⟩, _, rfl, _, rfl, _, rfl, M, ms10, rfl, .inl (SqL.of hm10), d, l, (ms10.length : Int), rfl, by omega, small_bits (by omega) (by omega), X10.2.1, fun k0 G11 k1 k2 e11 D11 => ?_⟩
        obtain ⟨m, rfl⟩ : ∃ m : Nat, k0 = (m : Int) := ⟨k0.toNat, by omega⟩
        have hmk : m < ms10.length := by omega
        have X11 := X10.but M1 M2 e11 D11
        have hm11 := e11 _ _ hm10 M1 M2
        obtain ⟨d11, hd11, ok11⟩ := im10 _ (List.getElem_mem hmk)
        obtain ⟨ms12, hm12, lm12, X12⟩ := X11.put MH M1 M2 (Dq.same (hid_but e11) _ _ hd11) ok11
        refine ⟨M, _, (m : Int), ms10[m], rfl, rfl, SqL.of hm11, atI_nat (j := m) (List.getElem?_eq_getElem hmk), M, _, _, rfl, rfl, hm12, line_le (by omega), ?_⟩
        rw [show 2 * i + 1 + 1 = 2 * (i + 1) by omega] at X12
        exact ⟨_, _, _, _, _, rfl, X12⟩
      · obtain ⟨b, D', s, ms, hm, lm, im⟩ := X10
        exact ⟨_, _, _, _, _, rfl, b, D', s, ms, hm, by omega, im⟩
    · rintro _ G ⟨o5, o6, o7, o8, o9, rfl, X⟩
      obtain ⟨b, D', _, ms, hm, lm, im⟩ := X
      obtain ⟨ds, h1, h2⟩ := items_all im
      refine ⟨_, rfl, M, ms, rfl, .inl ⟨SqL.of hm, fun p hp => ?_⟩⟩
      have sp := same_upd (o := .tup ms) hp
      refine k _ (.tuple ds) _ (b.same sp) (D'.same sp) (.tup (SqT.of upd_same) (DqAll.same (hid_sub.trans sp) _ _ h1)) fun es e => ?_
      cases e
      exact ⟨by rw [← h1.length]; omega, h2⟩
end
end K11
end
section
set_option maxRecDepth 100000
namespace LM
theorem digs_first {Q : Nat} (hQ : 0 < Q) : ∀ (j m : Nat), digs Q (j + 1) m = (((m / Q ^ j) % Q : Nat) : Int) :: digs Q j m
  | 0, m => by
    show [] ++ [((m % Q : Nat) : Int)] = _
    rw [Nat.pow_zero, Nat.div_one]
    rfl
  | j + 1, m => by
    show digs Q (j + 1) (m / Q) ++ [((m % Q : Nat) : Int)] = _
    rw [digs_first hQ j (m / Q), Nat.div_div_eq_div_mul, ← Nat.pow_succ']
    rfl
theorem digs_value {Q : Nat} : ∀ (k i : Nat), i < Q ^ k → (digs Q k i).foldl (fun t c => t * (Q : Int) + c) 0 = (i : Int)
  | 0, i, h => by
    obtain rfl : i = 0 := by simpa using h
    rfl
  | k + 1, i, h => by
    have hQ : 0 < Q := by
      rcases Nat.eq_zero_or_pos Q with e | e
      · rw [e, Nat.pow_succ] at h
        simp at h
      · exact e
    show (digs Q k (i / Q) ++ [((i % Q : Nat) : Int)]).foldl _ 0 = _
    rw [List.foldl_append, digs_value k (i / Q) (by rw [Nat.div_lt_iff_lt_mul hQ]; exact h)]
    show ((i / Q : Nat) : Int) * (Q : Int) + ((i % Q : Nat) : Int) = (i : Int)
    have := Nat.div_add_mod i Q
    rw [← Int.natCast_mul, ← Int.natCast_add]
    congr 1
    rw [Nat.mul_comm]
    exact this
end LM
end
section
set_option maxRecDepth 100000
set_option maxHeartbeats 8000000
set_option exponentiation.threshold 9000
namespace K11
open PySem PySem.Spec PyProof.Rows L2 MB LM
open LamX hiding takes0
structure KQ (q : Int) (k : Nat) : Prop where
  lq : LetQ q
  lo : 1 ≤ k
  hi : k ≤ 8
  m : q ^ k ≤ 4096
structure Heads (n i : Nat) (hs ls : List Nat) : Prop where
  lh : hs.length = i
  ph : hs.Pairwise (· < ·)
  bh : ∀ h ∈ hs, h < n
  nl : ls.Nodup
  ll : ls.length + i = n
  bl : ∀ x ∈ ls, x < n ∧ x ∉ hs
theorem map_erase {α β : Type} (f : α → β) : ∀ (xs : List α) (k : Nat), (xs.map f).eraseIdx k = (xs.eraseIdx k).map f
  | [], _ => rfl
  | _ :: _, 0 => rfl
  | x :: xs, k + 1 => by
    rw [List.map_cons, List.eraseIdx_cons_succ, List.eraseIdx_cons_succ, List.map_cons, map_erase f xs k]
theorem heads_zero (n : Nat) : Heads n 0 [] (List.range n) := ⟨rfl, .nil, (fun h hh => by cases hh), List.nodup_range, by simp, fun x hx => ⟨List.mem_range.mp hx, by simp⟩⟩
theorem mem_erase {α : Type} {ls : List α} {k : Nat} {x : α} (nl : ls.Nodup) (hk : k < ls.length) (h : x ∈ ls.eraseIdx k) : x ∈ ls ∧ x ≠ ls[k] := by
  obtain ⟨i, hi, hne, e⟩ := List.mem_eraseIdx_iff_getElem.mp h
  refine ⟨List.mem_iff_getElem.mpr ⟨i, hi, e⟩, fun z => ?_⟩
  have nd := List.pairwise_iff_getElem.mp nl
  rcases Nat.lt_or_gt_of_ne hne with c | c
  · exact nd i k hi hk c (by rw [e, z])
  · exact nd k i hk hi c (by rw [e, z])
theorem heads_next {n i k : Nat} {hs ls hs' : List Nat} (h : Heads n i hs ls) (hk : k < ls.length) (hp : (nats hs').Perm (nats (hs ++ [ls[k]]))) (hs2 : (nats hs').Pairwise (· ≤ ·)) : Heads n (i + 1) hs' (ls.eraseIdx k) := by
  have hp' : hs'.Perm (hs ++ [ls[k]]) := by
    have z := hp.map Int.toNat
    unfold nats at z
    rw [List.map_map, List.map_map] at z
    have e : (Int.toNat ∘ fun p : Nat => (p : Int)) = id := funext fun p => Int.toNat_natCast p
    rw [e, List.map_id, List.map_id] at z
    exact z
  have hm : ls[k] ∈ ls := List.getElem_mem hk
  have nd : (hs ++ [ls[k]]).Nodup := by
    rw [List.nodup_append]
    refine ⟨h.ph.imp fun z => by omega, by simp, fun a ha b hb e => ?_⟩
    rw [List.mem_singleton.mp hb] at e
    exact (h.bl _ hm).2 (by rw [← e]; exact ha)
  have nd' : hs'.Nodup := hp'.nodup_iff.mpr nd
  refine ⟨by rw [hp'.length_eq, List.length_append, h.lh]; rfl, ?_, fun x hx => ?_, h.nl.sublist (List.eraseIdx_sublist _ _), ?_, fun x hx => ?_⟩
  · unfold nats at hs2
    rw [List.pairwise_map] at hs2
    exact (hs2.and nd').imp fun ⟨a, b⟩ => by omega
  · rcases List.mem_append.mp (hp'.mem_iff.mp hx) with hx | hx
    · exact h.bh x hx
    · rw [List.mem_singleton.mp hx]
      exact (h.bl _ hm).1
  · have := h.ll
    rw [List.length_eraseIdx, if_pos hk]
    omega
  · obtain ⟨m1, m2⟩ := mem_erase h.nl hk hx
    refine ⟨(h.bl x m1).1, fun z => ?_⟩
    rcases List.mem_append.mp (hp'.mem_iff.mp z) with z | z
    · exact (h.bl x m1).2 z
    · exact m2 (List.mem_singleton.mp z)
theorem nats_of {ns : List Int} {hs : List Nat} (h : ns.Perm (nats hs)) : ns = nats (ns.map Int.toNat) := by
  unfold nats
  rw [List.map_map]
  conv => lhs; rw [← List.map_id ns]
  refine List.map_congr_left fun c hc => ?_
  obtain ⟨p, _, rfl⟩ := List.mem_map.mp (h.mem_iff.mp hc)
  simp
theorem fmod_digit {q : Int} (h : 0 < q) (me : Nat) : (me : Int).fmod q = ((me % q.toNat : Nat) : Int) := by
  obtain ⟨Q, rfl⟩ : ∃ Q : Nat, q = (Q : Int) := ⟨q.toNat, by omega⟩
  rw [Int.toNat_natCast, Int.fmod_eq_emod_of_nonneg _ (by omega)]
  rfl
theorem div_digit {q : Int} (h : 0 < q) (me : Nat) : (me : Int) / q = ((me / q.toNat : Nat) : Int) := by
  obtain ⟨Q, rfl⟩ : ∃ Q : Nat, q = (Q : Int) := ⟨q.toNat, by omega⟩
  rw [Int.toNat_natCast]
  rfl
theorem shaped_two (m : Int) : SeqAt.shaped (.tuple [.str "many", .int m]) = true := by
  have e : PyData.strOk "many" = true := by decide +kernel
  unfold SeqAt.shaped
  simp [PyData.canLay0, PyData.canLayAll0, PyData.depth, PyData.depthAll, e]
section
variable {w : World} {K : PySem.W.Frag} {mg : Str → Option Value} {base : Heap}
def spMany (T : Txt K mg) : Sp := fun vs H Q _ => ∃ (d l : Addr), vs = [.ref d] ∧ Deck kL H d l ∧ Tabs (TL T) H ∧ ∀ H', Deck kL H' d l → Tabs (TL T) H' → Q (.bl true) H'
theorem ok__law_are_many (T : Txt K mg) (sm : SM base) (tb__law_are_many : TabB base mg T.c__law_are_many T.tP__law_are_many) : FnG P w K mg base 9 T.a__law_are_many T.d__law_are_many P__law_are_many (spMany T) := by
  refine fnGL T.F__law_are_many sc__law_are_many (fun vs H Q E h => ?_) (fun A outer s H vs Q E hr hgu h => ?_)
  · obtain ⟨d, l, rfl, _⟩ := h
    rfl
  · obtain ⟨d, l, rfl, D0, T0, kk⟩ := h
    refine ⟨_, 
      (pss_cons (ps_asg (pe_call (ok__law_pick T) (hr.mono (by decide)) rfl T.m__law_pick T.F__law_pick.kp T.b__law_pick .nil pass0 (pa_cons (pv 0) (pa_cons (pe_lst (pa_cons (pe_tup (pa_cons pe_int (pa_cons pe_int pa_nil))) (pa_cons (pe_tup (pa_cons pe_int (pa_cons pe_int pa_nil))) (pa_cons (pe_tup (pa_cons pe_int (pa_cons pe_int pa_nil))) (pa_cons (pe_tup (pa_cons pe_int (pa_cons pe_int pa_nil))) (pa_cons (pe_tup (pa_cons pe_int (pa_cons pe_int pa_nil))) (pa_cons (pe_tup (pa_cons pe_int (pa_cons pe_int pa_nil))) (pa_cons (pe_tup (pa_cons pe_int (pa_cons pe_int pa_nil))) pa_nil)))))))) pa_nil))) (pg_tup rfl (pgs_cons (pg_name (i := 1) sc__law_are_many.nd rfl (Or.inr rfl)) (pgs_cons (pg_name (i := 2) sc__law_are_many.nd rfl (Or.inl rfl)) pgs_nil))))
      (pss_cons (ps_asg (pe_tup (pa_cons (pe_op op_add (pv 2) (pe_call (ok__law_draw T) (hr.mono (by decide)) rfl T.m__law_draw T.F__law_draw.kp T.b__law_draw .nil pass0 (pa_cons (pv 0) (pa_cons (pe_op op_sub pe_int (pv 2)) pa_nil)))) (pa_cons (pe_lst pa_nil) (pa_cons (pe_lst pa_nil) (pa_cons pe_int pa_nil))))) (pg_tup rfl (pgs_cons (pg_name (i := 3) sc__law_are_many.nd rfl (Or.inl rfl)) (pgs_cons (pg_name (i := 4) sc__law_are_many.nd rfl (Or.inr rfl)) (pgs_cons (pg_name (i := 5) sc__law_are_many.nd rfl (Or.inl rfl)) (pgs_cons (pg_name (i := 17) sc__law_are_many.nd rfl (Or.inr rfl)) pgs_nil))))))
      (pss_cons (ps_set (i := 6) sc__law_are_many.nd rfl (Or.inl rfl) (pe_listRg rfl (by rfl) T.m_list (prg_1 (by rfl) T.m_range (pv 3))))
      (pss_cons (ps_for PassesOwn.never rfl (pi_range1 rfl T.m_range (pa_cons (pv 2) pa_nil)) (pg_name (i := 7) sc__law_are_many.nd rfl (Or.inl rfl)) (pss_cons (ps_set (i := 4) sc__law_are_many.nd rfl (Or.inr rfl) (pe_callB cr_sorted (by rfl) T.m_sorted (by decide +kernel) (pa_cons (pe_op op_cat (pv 4) (pe_lst (pa_cons (pe_bm PySem.F.plainAttrs_list PySem.F.slot_list_pop PySem.F.type_list_pop mt_popAt (pv 6) (pa_cons (pe_call (ok__law_draw T) (hr.mono (by decide)) rfl T.m__law_draw T.F__law_draw.kp T.b__law_draw .nil pass0 (pa_cons (pv 0) (pa_cons (pe_callB call_len_seq (by rfl) T.m_len (by decide +kernel) (pa_cons (pv 6) pa_nil)) pa_nil))) pa_nil)) pa_nil))) pa_nil)))
      (pss_one (ps_set (i := 17) sc__law_are_many.nd rfl (Or.inr rfl) (pe_op op_mulW (pv 17) (pv 1))))))
      (pss_cons (ps_for PassesOwn.never rfl (pi_list (pv 4)) (pg_name (i := 8) sc__law_are_many.nd rfl (Or.inr rfl)) (pss_cons (ps_setLc (i := 9) (own := [("_law_at", 18)]) (g := gName 18) (tt := tYes) rfl sc__law_are_many.nd rfl rfl (sw_true rfl rfl rfl (by decide +kernel)) (pi_range1 rfl T.m_range (pa_cons (pv 3) pa_nil)) (blkOk_by (own := [("_law_at", 18)]) (N := N__law_are_many) (sc := (defScope s__law_are_many)) (by decide +kernel)) (fun _ _ _ _ _ => (pg_name (i := 18) sc__law_are_many.nd rfl (Or.inl rfl))) (fun _ _ _ _ _ => pts_nil) (fun _ _ _ _ _ => (pe_ifExp (PW.pt (pw_and (pt_cmpR op_gt (pv 18) (pv 8) (nomark _)) (pw_and1 (pt_cmpR (show OpR _ _ (rIn K true) from op_notIn_seq) (pv 18) (pv 4) rfl)))) (pe_call (ok__law_draw T) (hr.mono (by decide)) rfl T.m__law_draw T.F__law_draw.kp T.b__law_draw .nil pass0 (pa_cons (pv 0) (pa_cons (pv 1) pa_nil))) pe_int)))
      (pss_cons (ps_asg pe_int (pg_sub (pv 9) (pv 8) set_list))
      (pss_one (ps_expr (pe_bm PySem.F.plainAttrs_list PySem.F.slot_list_append PySem.F.type_list_append mt_append (pv 5) (pa_cons (pe_callTy call_tuple_of (by rfl) T.m_tuple (by decide +kernel) (pa_cons (pv 9) pa_nil)) pa_nil)))))))
      (pss_cons (ps_set (i := 16) sc__law_are_many.nd rfl (Or.inr rfl) (pe_make T.mk_Book (ok_Book___init__ T) (hr.mono (by decide)) rfl T.g_Book T.b_Book___init__ .nil pass0 (pa_cons (pv 1) (pa_cons (pv 3) (pa_cons (pe_callTy call_tuple_of (by rfl) T.m_tuple (by decide +kernel) (pa_cons (pv 5) pa_nil)) pa_nil)))))
      (pss_cons (ps_set (i := 10) sc__law_are_many.nd rfl (Or.inl rfl) (pe_call (ok0_words T) (hr.mono (by decide)) rfl T.m_words T.F_words.kp T.b_words (.cons (show RelV (.int 4096) _ from ⟨_, rfl⟩) .nil) pass0 (pa_cons (pv 16) pa_nil)))
      (pss_cons (ps_if (PW.pt (pw_or (pt_not (pt_val (pe_callB (id := "isinstance") (r := rIsi K) call_isi (by rfl) T.m_isinstance (by decide +kernel) (pa_cons (pv 10) (pa_cons (pe_bltn (by rfl) T.m_tuple (v := .ty "tuple") (by decide +kernel) rfl) pa_nil))))) (pw_or (pt_cmpR op_ne (pe_callB call_len_seq (by rfl) T.m_len (by decide +kernel) (pa_cons (pv 10) pa_nil)) (pv 17) (nomark _)) (pw_or1 (pt_cmpR (op_neD hr.units) (pe_tell (T := TL T) (k := 3) (c := T.c__law_are_many) (P := T.tP__law_are_many) T.F__law_told T.b__law_told rfl T.m__law_told sc__law_told rfl (Or.inl rfl) (fun _ => gives__law_told T) tb__law_are_many rfl (.tail _ (.tail _ (.head _))) (hu__law_are_many T) (hr.mono (by decide)) (lamS_by (sc := defScope s__law_are_many) (by decide +kernel)) rfl (fun _ _ _ _ _ => rfl)
        (fun A outer s H E f c' hr => (pe_callKS (ok_words T) (hr.mono (by decide)) rfl T.m_words T.F_words.kp T.q_words_most (fun σ => passAt (takes_of rfl rfl rfl rfl) σ) (pa_cons (pv 16) pa_nil) (pk_cons (pe_op op_sub (pv 17) pe_int) pk_nil)))) (pe_tup (pa_cons pe_str (pa_cons (pe_op op_sub (pv 17) pe_int) pa_nil))) (nomark _)))))) (pss_one (ps_ret pe_bl)) pss_nil)
      (pss_cons (ps_for PassesOwn.never rfl (pi_enumT (by rfl) T.m_enumerate (pa_cons (pv 10) pa_nil)) (pg_tup rfl (pgs_cons (pg_name (i := 11) sc__law_are_many.nd rfl (Or.inl rfl)) (pgs_cons (pg_name (i := 12) sc__law_are_many.nd rfl (Or.inl rfl)) pgs_nil))) (pss_cons (ps_if (PW.pt (pw_or (pt_not (pt_val (pe_callB (id := "isinstance") (r := rIsi K) call_isi (by rfl) T.m_isinstance (by decide +kernel) (pa_cons (pv 12) (pa_cons (pe_bltn (by rfl) T.m_tuple (v := .ty "tuple") (by decide +kernel) rfl) pa_nil))))) (pw_or1 (pt_cmpR op_ne (pe_callB call_len_seq (by rfl) T.m_len (by decide +kernel) (pa_cons (pv 12) pa_nil)) (pv 3) (nomark _))))) (pss_one (ps_ret pe_bl)) pss_nil)
      (pss_cons (ps_set (i := 13) sc__law_are_many.nd rfl (Or.inl rfl) pe_int)
      (pss_cons (ps_for PassesOwn.never rfl (pi_list (pv 4)) (pg_name (i := 8) sc__law_are_many.nd rfl (Or.inr rfl)) (pss_one (ps_set (i := 13) sc__law_are_many.nd rfl (Or.inl rfl) (pe_op op_add (pe_op op_mulW (pv 13) (pv 1)) (pe_ix (r := rIxT K) ix_tup (pv 12) (pv 8) (fun _ _ => rfl))))))
      (pss_one (ps_if (pt_cmpR op_ne (pv 13) (pv 11) (nomark _)) (pss_one (ps_ret pe_bl)) pss_nil))))))
      (pss_cons (ps_for PassesOwn.never rfl (pi_range1 rfl T.m_range (pa_cons pe_int pa_nil)) (pg_name (i := 7) sc__law_are_many.nd rfl (Or.inl rfl)) (pss_cons (ps_set (i := 11) sc__law_are_many.nd rfl (Or.inl rfl) (pe_call (ok__law_draw T) (hr.mono (by decide)) rfl T.m__law_draw T.F__law_draw.kp T.b__law_draw .nil pass0 (pa_cons (pv 0) (pa_cons (pv 17) pa_nil))))
      (pss_cons (ps_par (i := 14) (j := 15) (by rfl) sc__law_are_many.nd rfl rfl (by decide) rfl rfl (pa_cons (pe_lst pa_nil) (pa_cons (pv 11) pa_nil)) (by rfl))
      (pss_cons (ps_for PassesOwn.never rfl (pi_list (pv 4)) (pg_name (i := 8) sc__law_are_many.nd rfl (Or.inr rfl)) (pss_one (ps_par (i := 14) (j := 15) (by rfl) sc__law_are_many.nd rfl rfl (by decide) rfl rfl (pa_cons (pe_op op_cat (pe_lst (pa_cons (pe_op op_modN (pe_callTy call_int1 (by rfl) T.m_int (by decide +kernel) (pa_cons (pv 15) pa_nil)) (pv 1)) pa_nil)) (pv 14)) (pa_cons (pe_op op_fdivW (pv 15) (pv 1)) pa_nil)) (by rfl))))
      (pss_one (ps_if (pt_cmpR op_ne (pe_callB (call_tell sm hgu hr.units) (by rfl) T.m_repr (by decide +kernel) (pa_cons (pe_ix (r := rIxT K) ix_tup (pv 10) (pv 11) (fun _ _ => rfl)) pa_nil)) (pe_callB (call_tell sm hgu hr.units) (by rfl) T.m_repr (by decide +kernel) (pa_cons (pe_call (ok__law_sum T) (hr.mono (by decide)) rfl T.m__law_sum T.F__law_sum.kp T.b__law_sum .nil pass0 (pa_cons (pv 1) (pa_cons (pv 3) (pa_cons (pv 5) (pa_cons (pv 14) pa_nil))))) pa_nil)) (nomark _)) (pss_one (ps_ret pe_bl)) pss_nil))))))
      (pss_one (ps_ret pe_bl)))))))))))), ?_⟩
    refine (seq_cutA (fun σ' G => ∃ (q : Int) (k : Nat), σ' = [some (.ref d), some (.int q), some (.int (k : Int)), none, none, none, none, none, none, none, none, none, none, none, none, none, none, none, none] ∧ KQ q k ∧ Deck kL G d l ∧ Tabs (TL T) G) (fun D' go => ?_) ?_)
    · refine ⟨_, rfl, line_s (Nat.le_of_ble_eq_true rfl), fun p1 h1 => ⟨line_s (Nat.le_of_ble_eq_true rfl), fun p2 h2 => ⟨line_s (Nat.le_of_ble_eq_true rfl), fun p3 h3 => ⟨line_s (Nat.le_of_ble_eq_true rfl), fun p4 h4 => ⟨line_s (Nat.le_of_ble_eq_true rfl), fun p5 h5 => ⟨line_s (Nat.le_of_ble_eq_true rfl), fun p6 h6 => ⟨line_s (Nat.le_of_ble_eq_true rfl), fun p7 h7 => ⟨line_s (Nat.le_of_ble_eq_true rfl), fun L hL => ?_⟩⟩⟩⟩⟩⟩⟩⟩
      have u1 := same_upd (o := .tup [.int 4, .int 6]) h1
      have u2 := same_upd (o := .tup [.int 3, .int 6]) h2
      have u3 := same_upd (o := .tup [.int 5, .int 4]) h3
      have u4 := same_upd (o := .tup [.int 4, .int 5]) h4
      have u5 := same_upd (o := .tup [.int 3, .int 7]) h5
      have u6 := same_upd (o := .tup [.int 5, .int 5]) h6
      have u7 := same_upd (o := .tup [.int 2, .int 8]) h7
      have u8 := same_upd (o := .lst [.ref p1, .ref p2, .ref p3, .ref p4, .ref p5, .ref p6, .ref p7]) hL
      have v7 := u7.trans u8
      have v6 := u6.trans v7
      have v5 := u5.trans v6
      have v4 := u4.trans v5
      have v3 := u3.trans v4
      have v2 := u2.trans v3
      have S := u1.trans v2
      have S7 := u1.trans (u2.trans (u3.trans (u4.trans (u5.trans (u6.trans u7)))))
      have D8 := D0.same S
      have T8 := T0.ext S
      have f1 := v2 _ _ (upd_same (a := p1))
      have f2 := v3 _ _ (upd_same (a := p2))
      have f3 := v4 _ _ (upd_same (a := p3))
      have f4 := v5 _ _ (upd_same (a := p4))
      have f5 := v6 _ _ (upd_same (a := p5))
      have f6 := v7 _ _ (upd_same (a := p6))
      have f7 := u8 _ _ (upd_same (a := p7))
      refine ⟨d, l, L, _, rfl, .inr (SqL.of ((D0.same S7).at_new hL)), by simp, by simp, D8, fun x G hx e D9 => ?_⟩
      have T9 := tabs_but D8 e T8
      obtain ⟨q, k, p, rfl, hp, hkq⟩ : ∃ (q : Int) (k : Nat) (p : Addr), x = .ref p ∧ SqT K G p [.int q, .int (k : Int)] ∧ KQ q k := by
        simp only [List.mem_cons, List.not_mem_nil, or_false] at hx
        rcases hx with rfl | rfl | rfl | rfl | rfl | rfl | rfl
        · exact ⟨4, 6, _, rfl, e.tup D8 (SqT.of f1), ⟨⟨by decide, by decide⟩, by decide, by decide, by decide⟩⟩
        · exact ⟨3, 6, _, rfl, e.tup D8 (SqT.of f2), ⟨⟨by decide, by decide⟩, by decide, by decide, by decide⟩⟩
        · exact ⟨5, 4, _, rfl, e.tup D8 (SqT.of f3), ⟨⟨by decide, by decide⟩, by decide, by decide, by decide⟩⟩
        · exact ⟨4, 5, _, rfl, e.tup D8 (SqT.of f4), ⟨⟨by decide, by decide⟩, by decide, by decide, by decide⟩⟩
        · exact ⟨3, 7, _, rfl, e.tup D8 (SqT.of f5), ⟨⟨by decide, by decide⟩, by decide, by decide, by decide⟩⟩
        · exact ⟨5, 5, _, rfl, e.tup D8 (SqT.of f6), ⟨⟨by decide, by decide⟩, by decide, by decide, by decide⟩⟩
        · exact ⟨2, 8, _, rfl, e.tup D8 (SqT.of f7), ⟨⟨by decide, by decide⟩, by decide, by decide, by decide⟩⟩
      exact ⟨p, _, rfl, hp, rfl, _, _, rfl, _, _, rfl, rfl, go _ _ ⟨q, k, rfl, hkq, D9, T9⟩⟩
    rintro _ H1 ⟨q, k, rfl, hkq, D1, T1⟩
    have hq := hkq.lq
    have q2 := hq.lo
    have q5 := hq.hi
    have k1 := hkq.lo
    have k8 := hkq.hi
    refine (seq_cutA (fun σ' G => ∃ (n : Nat) (E0 R0 : Addr), σ' = [some (.ref d), some (.int q), some (.int (k : Int)), some (.int (n : Int)), some (.ref E0), some (.ref R0), none, none, none, none, none, none, none, none, none, none, none, some (.int 1), none] ∧ k ≤ n ∧ n ≤ 8 ∧ Deck kL G d l ∧ Tabs (TL T) G ∧ G E0 = some (.lst []) ∧ G R0 = some (.lst []) ∧ E0 ≠ R0 ∧ E0 ≠ d ∧ E0 ≠ l ∧ R0 ≠ d ∧ R0 ≠ l) (fun D' go => ?_) ?_)
    · refine ⟨_, rfl, _, rfl, _, rfl, _, _, rfl, rfl, d, l, 9 - (k : Int), rfl, by omega, small_bits (by omega) (by omega), D1, fun r H2 r0 r1 e2 D2 => ⟨_, _, rfl, rfl, line_s (Nat.zero_le _), fun E0 hE => ⟨line_s (Nat.zero_le _), fun R0 hR => ⟨line_s (Nat.le_of_ble_eq_true rfl), fun p3 hp3 => ?_⟩⟩⟩⟩
      have D3 := ((D2.same (same_upd (o := .lst []) hE)).same (same_upd (o := .lst []) hR)).same (same_upd (o := .tup [.int ((k : Int) + r), .ref E0, .ref R0, .int 1]) hp3)
      have T3 := (((tabs_but D1 e2 T1).ext (same_upd (o := .lst []) hE)).ext (same_upd (o := .lst []) hR)).ext (same_upd (o := .tup [.int ((k : Int) + r), .ref E0, .ref R0, .int 1]) hp3)
      obtain ⟨E1, E2⟩ := D2.off hE
      obtain ⟨R1, R2⟩ := (D2.same (same_upd (o := .lst []) hE)).off hR
      have nER : E0 ≠ R0 := ne_of_none (upd_same (H := H2) (a := E0) (o := .lst [])) hR
      refine ⟨p3, _, rfl, SqT.of upd_same, rfl, _, _, rfl, _, _, rfl, _, _, rfl, _, _, rfl, rfl, go _ _ ⟨((k : Int) + r).toNat, E0, R0, ?_, by omega, by omega, D3, T3, (same_upd hp3) _ _ ((same_upd hR) _ _ upd_same), (same_upd hp3) _ _ upd_same, nER, E1, E2, R1, R2⟩⟩
      rw [Int.toNat_of_nonneg (by omega)]
      rfl
    rintro _ H2 ⟨n, E0, R0, rfl, kn, n8, D2, T2, hE0, hR0, nER, E1, E2, R1, R2⟩
    refine ⟨_, rfl, _, rfl, RgOk.of_le (by omega) (by omega) (by omega) (by omega), fun L hL => ?_⟩
    have sL := same_upd (o := .lst (rgV 0 (n : Int))) hL
    have eRg : rgV 0 (n : Int) = (nats (List.range n)).map V.int := by
      unfold rgV nats
      rw [Int.sub_zero, Int.toNat_natCast, List.map_map]
      refine List.map_congr_left fun i _ => ?_
      show V.int (0 + (i : Int)) = V.int (i : Int)
      rw [Int.zero_add]
    have hL3 : (upd H2 L (.lst (rgV 0 (n : Int)))) L = some (.lst ((nats (List.range n)).map V.int)) := by rw [upd_same, eRg]
    obtain ⟨L1, L2⟩ := D2.off hL
    have nEL : E0 ≠ L := ne_of_none hE0 hL
    have nRL : R0 ≠ L := ne_of_none hR0 hL
    have hE3 := sL _ _ hE0
    have hR3 := sL _ _ hR0
    have D3 := D2.same sL
    have T3 := T2.ext sL
    generalize upd H2 L (.lst (rgV 0 (n : Int))) = H3 at hL3 hE3 hR3 D3 T3 ⊢
    clear sL hL eRg D2 T2 hE0 hR0 T1 D1
    dsimp only [gName]
    refine (seq_cutF (fun σ' G => ∃ (hs : List Nat) (C : Addr) (o7 : Option V), σ' = [some (.ref d), some (.int q), some (.int (k : Int)), some (.int (n : Int)), some (.ref C), some (.ref R0), some (.ref L), o7, none, none, none, none, none, none, none, none, none, some (.int (q ^ k)), none] ∧ hs.length = k ∧ hs.Pairwise (· < ·) ∧ (∀ h ∈ hs, h < n) ∧ Deck kL G d l ∧ Tabs (TL T) G ∧ G C = some (.lst ((nats hs).map V.int)) ∧ G R0 = some (.lst []) ∧ C ≠ R0 ∧ C ≠ d ∧ C ≠ l) (fun D' go => ?_) ?_)
    · refine ⟨_, rfl, _, rfl, by omega, by omega, for_range (lo := 0) (n := (k : Int).toNat)
        (fun i σ' G => ∃ (hs ls : List Nat) (C : Addr) (o7 : Option V), σ' = [some (.ref d), some (.int q), some (.int (k : Int)), some (.int (n : Int)), some (.ref C), some (.ref R0), some (.ref L), o7, none, none, none, none, none, none, none, none, none, some (.int (q ^ i)), none] ∧ Heads n i hs ls ∧ Deck kL G d l ∧ Tabs (TL T) G ∧ G C = some (.lst ((nats hs).map V.int)) ∧ G R0 = some (.lst []) ∧ G L = some (.lst ((nats ls).map V.int)) ∧ C ≠ R0 ∧ C ≠ L ∧ C ≠ d ∧ C ≠ l)
        ⟨[], List.range n, E0, none, by rw [Int.pow_zero]; rfl, heads_zero n, D3, T3, hE3, hR3, hL3, nER, nEL, E1, E2⟩ ?_ ?_⟩
      · clear D3 T3 hE3 hR3 hL3
        rintro i _ G1 hi ⟨hs, ls, C, o7, rfl, hH, DG, TG, hC, hR, hL, nCR, nCL, C1, C2⟩
        have lls := hH.ll
        have lhi := hH.lh
        have lns : ((nats ls).map V.int).length = ls.length := by simp [nats]
        have lnh : ((nats hs).map V.int).length = hs.length := by simp [nats]
        refine ⟨_, rfl, _, rfl, .inl ⟨rfl, _, SqL.of hL⟩, _, rfl, _, rfl, L, _, rfl, .inl (SqL.of hL), d, l, (((nats ls).map V.int).length : Int), rfl, by omega, small_bits (by omega) (by omega), DG, fun r0 G2 z0 z1 e2 DG2 => ?_⟩
        obtain ⟨m, rfl⟩ : ∃ m : Nat, r0 = (m : Int) := ⟨r0.toNat, by omega⟩
        have hm : m < ls.length := by omega
        have TG2 := tabs_but DG e2 TG
        have hC2 := e2 _ _ hC C1 C2
        have hR2 := e2 _ _ hR R1 R2
        have hL2 := e2 _ _ hL L1 L2
        refine ⟨L, _, (m : Int), m, .int (ls[m] : Int), rfl, rfl, hL2, by omega, by omega, ?_, ?_, ?_⟩
        · exact (ixN_seq (by unfold ixN; rw [if_pos (by omega), if_pos (by omega)]; rfl)).1
        · unfold nats
          rw [List.getElem?_map, List.getElem?_map, List.getElem?_eq_getElem hm]
          rfl
        refine ⟨line_s (Nat.le_of_ble_eq_true rfl), fun P hP => ?_⟩
        have ee : ((nats ls).map V.int).eraseIdx m = (nats (ls.eraseIdx m)).map V.int := by
          unfold nats
          rw [map_erase, map_erase]
        rw [ee] at hP ⊢
        have Da := DG2.upd (o := .lst ((nats (ls.eraseIdx m)).map V.int)) L1 L2
        have Ta := tabs_lst (ys := (nats (ls.eraseIdx m)).map V.int) TG2 hL2
        have hCa : (upd G2 L (.lst ((nats (ls.eraseIdx m)).map V.int))) C = some (.lst ((nats hs).map V.int)) := (upd_ne nCL).trans hC2
        have hRa : (upd G2 L (.lst ((nats (ls.eraseIdx m)).map V.int))) R0 = some (.lst []) := (upd_ne nRL).trans hR2
        have hLa : (upd G2 L (.lst ((nats (ls.eraseIdx m)).map V.int))) L = some (.lst ((nats (ls.eraseIdx m)).map V.int)) := upd_same
        generalize upd G2 L (.lst ((nats (ls.eraseIdx m)).map V.int)) = Ga at Da Ta hCa hRa hLa hP ⊢
        have sP := same_upd (o := .lst [.int ((ls[m] : Nat) : Int)]) hP
        have hPb : (upd Ga P (.lst [.int ((ls[m] : Nat) : Int)])) P = some (.lst [.int ((ls[m] : Nat) : Int)]) := upd_same
        have hCb := sP _ _ hCa
        refine ⟨C, P, _, _, rfl, rfl, hCb, hPb, by rw [lnh]; exact line_s (by simp; omega), fun c hc => ?_⟩
        have eN : (nats hs).map V.int ++ [V.int ((ls[m] : Nat) : Int)] = (nats (hs ++ [ls[m]])).map V.int := by
          unfold nats
          rw [List.map_append, List.map_append]
          rfl
        rw [eN]
        have sc := same_upd (o := .lst ((nats (hs ++ [ls[m]])).map V.int)) hc
        refine ⟨c, nats (hs ++ [ls[m]]), rfl, SqL.of upd_same, by unfold nats; rw [List.length_map, List.length_append, List.length_singleton, hH.lh]; omega, fun ns' p' perm pw hp' => ?_⟩
        have sp' := same_upd (o := .lst (ns'.map V.int)) hp'
        have s4 := sP.trans (sc.trans sp')
        have en := nats_of perm
        have hH' := heads_next hH hm (hs' := ns'.map Int.toNat) (by rw [← en]; exact perm) (by rw [← en]; exact pw)
        refine ⟨_, rfl, _, rfl, _, _, rfl, rfl, wide_mul (a := 30) (b := 3) (pow_small hq (by omega)) (by omega) (by decide) (by decide) (by decide), ?_⟩
        have pR : p' ≠ R0 := (ne_of_none ((sP.trans sc) _ _ hRa) hp').symm
        have pL : p' ≠ L := (ne_of_none ((sP.trans sc) _ _ hLa) hp').symm
        obtain ⟨p1, p2⟩ := ((Da.same sP).same sc).off hp'
        exact ⟨ns'.map Int.toNat, ls.eraseIdx m, p', _, by rw [Int.pow_succ]; rfl, hH', Da.same s4, Ta.ext s4, by rw [upd_same, ← en], s4 _ _ hRa, s4 _ _ hLa, pR, pL, p1, p2⟩
      · rintro _ G ⟨hs, ls, C, o7, rfl, hH, DG, TG, hC, hR, hL, nCR, nCL, C1, C2⟩
        rw [Int.toNat_natCast] at hH ⊢
        exact go _ _ ⟨hs, C, o7, rfl, hH.lh, hH.ph, hH.bh, DG, TG, hC, hR, nCR, C1, C2⟩
    rintro _ H4 ⟨hs, C, o7, rfl, lh, ph, bh, D4, T4, hC4, hR4, nCR, C1, C2⟩
    have lnh : ((nats hs).map V.int).length = k := by rw [← lh]; simp [nats]
    have qb : q.natAbs < 2 ^ 8000 := Nat.lt_of_le_of_lt (by omega : q.natAbs ≤ 5) (by decide)
    have ein : ∀ j : Nat, inV (.int (0 + (j : Int))) ((nats hs).map V.int) = decide (j ∈ hs) := fun j => by
      rw [Int.zero_add]
      unfold inV nats
      rw [List.map_map, List.any_map, Bool.eq_iff_iff, List.any_eq_true, decide_eq_true_eq]
      constructor
      · rintro ⟨x, hx, ex⟩
        have : ((x : Int) == (j : Int)) = true := ex
        have : x = j := by
          have := beq_iff_eq.mp this
          omega
        rw [← this]
        exact hx
      · intro hx
        refine ⟨j, hx, ?_⟩
        show ((j : Int) == (j : Int)) = true
        exact beq_self_eq_true _
    refine (seq_cutF (fun σ' G => ∃ (o8 o9 : Option V) (zs : List V) (Ps : List (Nat × List Int)), σ' = [some (.ref d), some (.int q), some (.int (k : Int)), some (.int (n : Int)), some (.ref C), some (.ref R0), some (.ref L), o7, o8, o9, none, none, none, none, none, none, none, some (.int (q ^ k)), none] ∧ Deck kL G d l ∧ Tabs (TL T) G ∧ G C = some (.lst ((nats hs).map V.int)) ∧ G R0 = some (.lst zs) ∧ Paired (TI K G) zs (Ps.map (·.2)) ∧ Ps.map (·.1) = hs ∧ (∀ x ∈ Ps, RowP q n hs x)) (fun D' go => ?_) ?_)
    · refine ⟨_, rfl, C, rfl, ⟨_, SqL.of hC4⟩, for_it (walk_list (K := K) (a := C) (xs := (nats hs).map V.int))
        (fun i σ' G => ∃ (o8 o9 : Option V) (zs : List V) (Ps : List (Nat × List Int)), σ' = [some (.ref d), some (.int q), some (.int (k : Int)), some (.int (n : Int)), some (.ref C), some (.ref R0), some (.ref L), o7, o8, o9, none, none, none, none, none, none, none, some (.int (q ^ k)), none] ∧ Deck kL G d l ∧ Tabs (TL T) G ∧ G C = some (.lst ((nats hs).map V.int)) ∧ G R0 = some (.lst zs) ∧ Paired (TI K G) zs (Ps.map (·.2)) ∧ Ps.map (·.1) = hs.take i ∧ (∀ x ∈ Ps, RowP q n hs x))
        ⟨none, none, [], [], rfl, D4, T4, hC4, hR4, .nil, rfl, fun x hx => by cases hx⟩ (fun i σ G _ ⟨_, _, _, _, _, _, _, g, _⟩ => SqL.of g) ?_ ?_⟩
      · clear D4 T4 hC4 hR4
        rintro i v _ _ H6 hi ⟨o8, o9, zs, Ps, rfl, D6, T6, hC6, hR6, pz, eP, hP⟩ ⟨rfl, hv⟩
        obtain ⟨m, hm, rfl⟩ := int_at hv
        obtain ⟨h, hh, rfl⟩ : ∃ h, hs[i]? = some h ∧ m = (h : Int) := by
          unfold nats at hm
          rw [List.getElem?_map] at hm
          cases e : hs[i]? with
          | none =>
            rw [e] at hm
            cases hm
          | some x =>
            rw [e] at hm
            exact ⟨x, rfl, (Option.some.inj hm).symm⟩
        have hn' : h < n := bh h (List.mem_of_getElem? hh)
        have li : i < hs.length := (List.getElem?_eq_some_iff.mp hh).1
        have lz : zs.length ≤ i := by
          have := congrArg List.length eP
          rw [List.length_map, List.length_take] at this
          rw [pz.length, List.length_map]
          omega
        refine ⟨_, rfl, _, rfl, by omega, by omega, fun G0 hG0 => ?_⟩
        obtain ⟨G1, G2⟩ := D6.off hG0
        have nGC : C ≠ G0 := ne_of_none hC6 hG0
        have nGL : R0 ≠ G0 := ne_of_none hR6 hG0
        refine lc_it (walk_range (lo := 0) (n := (n : Int).toNat))
          (fun j H' => But d l H6 H' ∧ Deck kL H' d l ∧ ∃ rs : List Int, rs.length = j ∧ IsRow q rs ∧ (∀ p, p < j → (p ≤ h ∨ p ∈ hs) → rs.getD p 0 = 0) ∧ H' G0 = some (.lst (rs.map V.int)))
          ⟨(But.refl).upd hG0, D6.upd G1 G2, [], rfl, (fun c hc => by cases hc), (fun p hp => by omega), upd_same⟩ (fun _ _ _ _ => trivial) ?_ ?_
        · rintro j x _ H' hj ⟨e, D', rs, lr, hr1, hr2, hN⟩ ⟨rfl, rfl⟩
          have hC' := e _ _ hC6 C1 C2
          refine ⟨rfl, ?_⟩
          have put : ∀ (c : Int) (G : Hp), IsLet q c → (j ≤ h ∨ j ∈ hs → c = 0) → But d l H' G → Deck kL G d l → ∃ acc, G G0 = some (.lst acc) ∧ acc.length < sizeLine ∧ But d l H6 (upd G G0 (.lst (acc ++ [.int c]))) ∧ Deck kL (upd G G0 (.lst (acc ++ [.int c]))) d l ∧
              ∃ rs : List Int, rs.length = j + 1 ∧ IsRow q rs ∧ (∀ p, p < j + 1 → (p ≤ h ∨ p ∈ hs) → rs.getD p 0 = 0) ∧ (upd G G0 (.lst (acc ++ [.int c]))) G0 = some (.lst (rs.map V.int)) := by
            intro c G lc hc0 eG DG
            refine ⟨_, eG _ _ hN G1 G2, by rw [List.length_map]; exact line_le (by omega), (e.trans eG).upd hG0, DG.upd G1 G2, rs ++ [c], by rw [List.length_append, lr]; rfl, ?_, ?_, by rw [upd_same, List.map_append]; rfl⟩
            · intro z hz
              rcases List.mem_append.mp hz with hz | hz
              · exact hr1 z hz
              · rw [List.mem_singleton.mp hz]
                exact lc
            · intro p hp3 hp4
              by_cases c1 : p < j
              · rw [List.getD_eq_getElem?_getD, List.getElem?_append_left (by omega), ← List.getD_eq_getElem?_getD]
                exact hr2 p c1 hp4
              · obtain rfl : p = j := by omega
                rw [List.getD_eq_getElem?_getD, List.getElem?_append_right (by omega), lr, Nat.sub_self]
                exact hc0 hp4
          refine ⟨_, rfl, _, rfl, _, _, rfl, rfl, _, rfl, ?_⟩
          refine ite2 (fun c1 => ?_) (fun c1 => ?_)
          · refine ⟨_, rfl, _, rfl, C, _, rfl, .inl (SqL.of hC'), rfl, flat_ints _, _, rfl, ?_⟩
            show (if (!inV (.int (0 + (j : Int))) ((nats hs).map V.int)) = true then _ else _)
            rw [ein]
            by_cases c2 : j ∈ hs
            · rw [decide_eq_true c2]
              exact iteF (put 0 H' (let_zero hq) (fun _ => rfl) But.refl D')
            · rw [decide_eq_false c2]
              refine iteT ⟨_, rfl, _, rfl, d, l, q, rfl, by omega, qb, D', fun r G r0 r1 eG DG => ?_⟩
              exact put r G ⟨r0, r1⟩ (fun z => z.elim (fun z => by have := of_decide_eq_true c1; omega) (fun z => absurd z c2)) eG DG
          · exact put 0 H' (let_zero hq) (fun _ => rfl) But.refl D'
        · rintro H7 ⟨e7, D7, rs, lr, hr1, hr2, hN⟩
          rw [Int.toNat_natCast] at lr hr2
          have hC7 := e7 _ _ hC6 C1 C2
          have hR7 := e7 _ _ hR6 R1 R2
          have T7 := tabs_but D6 e7 T6
          have pz7 := paired_ti D6 e7 pz
          refine ⟨_, rfl, _, rfl, G0, _, _, h, rfl, rfl, hN, ?_, ?_⟩
          · unfold ixN
            rw [if_pos (by omega), if_pos (by rw [List.length_map]; omega)]
            rfl
          rw [show (rs.map V.int).set h (V.int 1) = (rs.set h 1).map V.int from (List.map_set ..).symm]
          have hN8 : (upd H7 G0 (.lst ((rs.set h 1).map V.int))) G0 = some (.lst ((rs.set h 1).map V.int)) := upd_same
          have hR8 : (upd H7 G0 (.lst ((rs.set h 1).map V.int))) R0 = some (.lst zs) := (upd_ne nGL).trans hR7
          have hC8 : (upd H7 G0 (.lst ((rs.set h 1).map V.int))) C = some (.lst ((nats hs).map V.int)) := (upd_ne nGC).trans hC7
          have D8 := D7.upd (o := .lst ((rs.set h 1).map V.int)) G1 G2
          have T8 := tabs_lst (ys := (rs.set h 1).map V.int) T7 hN
          have pz8 := rows_updl (o := (rs.set h 1).map V.int) hN pz7
          generalize upd H7 G0 (.lst ((rs.set h 1).map V.int)) = H8 at hN8 hR8 hC8 D8 T8 pz8 ⊢
          refine ⟨_, rfl, .inl ⟨rfl, _, SqL.of hR8⟩, _, rfl, G0, _, rfl, .inl ⟨SqL.of hN8, fun p hp => ?_⟩⟩
          have s9 := same_upd (o := .tup ((rs.set h 1).map V.int)) hp
          have hR9 := s9 _ _ hR8
          refine ⟨R0, _, _, rfl, rfl, hR9, line_le (by omega), ?_⟩
          refine ⟨_, _, zs ++ [.ref p], Ps ++ [(h, rs.set h 1)], rfl, (D8.same s9).upd R1 R2, tabs_lst (T8.ext s9) hR9, ?_, upd_same, ?_, ?_, ?_⟩
          · rw [upd_ne nCR]
            exact s9 _ _ hC8
          · rw [List.map_append]
            exact paired_snoc (rows_updl hR9 (rows_same s9 pz8)) (ti_updl hR9 ⟨p, rfl, SqT.of upd_same⟩)
          · rw [List.map_append, List.take_add_one, hh, eP]
            rfl
          · intro x hx
            rcases List.mem_append.mp hx with hx | hx
            · exact hP x hx
            · rw [List.mem_singleton.mp hx]
              refine ⟨set_row hr1 (let_one hq) h, by rw [List.length_set, lr], hn', fun p hp3 => ?_, ?_, fun g hg ne => ?_⟩
              · show (rs.set h 1).getD p 0 = 0
                have hp4 : p < h := hp3
                rw [List.getD_eq_getElem?_getD, List.getElem?_set_ne (by omega), ← List.getD_eq_getElem?_getD]
                exact hr2 p (by omega) (.inl (by omega))
              · show (rs.set h 1).getD h 0 = 1
                rw [List.getD_eq_getElem?_getD, List.getElem?_set_self (by omega)]
                rfl
              · show (rs.set h 1).getD g 0 = 0
                have ne' : h ≠ g := fun z => ne z.symm
                rw [List.getD_eq_getElem?_getD, List.getElem?_set_ne ne', ← List.getD_eq_getElem?_getD]
                exact hr2 g (bh g hg) (.inr hg)
      · rintro _ G ⟨o8, o9, zs, Ps, rfl, D6, T6, hC6, hR6, pz, eP, hP⟩
        rw [lnh, ← lh, List.take_length] at eP
        exact go _ _ ⟨o8, o9, zs, Ps, rfl, D6, T6, hC6, hR6, pz, eP, hP⟩
    clear D4 T4 hC4 hR4
    rintro _ H5 ⟨o8, o9, zs, Ps, rfl, D5, T5, hC5, hR5, pz, eP, hP⟩
    have hR : RR q n Ps := rr_of hP (by rw [eP]; exact ph) fun x hx => by
      rw [← eP]
      exact List.mem_map.mpr ⟨x, hx, rfl⟩
    have lP : Ps.length = k := by rw [← lh, ← eP, List.length_map]
    have aR : AllR q n (Ps.map (·.2)) := hR.rows
    refine ⟨_, rfl, _, rfl, _, rfl, R0, zs, rfl, .inl ⟨SqL.of hR5, fun p6 hp6 => fun b dx hb hdx hne => ?_⟩⟩
    have s6 := same_upd (o := .tup zs) hp6
    have g6 : SqT K (upd H5 p6 (.tup zs)) p6 zs := SqT.of upd_same
    generalize upd H5 p6 (.tup zs) = H6 at s6 g6 hb hdx ⊢
    have hb2 : (upd H6 dx (.own b)) b = none := by rw [upd_ne hne.symm]; exact hb
    refine ⟨H6, b, dx, q, n, .ref p6, Ps.map Prod.snd, rfl, (same_upd hdx).trans (same_upd hb2), hb, upd_same, hq, ⟨by omega, n8⟩, ⟨p6, _, rfl, g6, rows_same s6 pz⟩, aR, by rw [List.length_map]; omega, fun H7 s7 hbk => ⟨rfl, ?_⟩⟩
    have hbk : BookAt K T.C_Book H7 b q n (gauss q n (Ps.map (·.2))) := hbk
    rw [gauss_red hq hR (Qs := Ps) (fun x => Iff.rfl)] at hbk
    have s67 := s6.trans s7
    have hB7 : BookR T H7 b q n Ps := ⟨hbk, hR, hq, n8⟩
    have D7 := D5.same s67
    have T7 := T5.ext s67
    have hC7 := s67 _ _ hC5
    have hR7 := s67 _ _ hR5
    have pz7 := rows_same s67 pz
    clear hbk s67 s7 hb2 hb hdx hne g6 s6 hp6 pz hR5 hC5 T5 D5
    have eM : q ^ Ps.length = q ^ k := by rw [lP]
    refine ⟨_, rfl, b, q, n, Ps, 4096, rfl, hB7, by rw [eM]; exact hkq.m, fun z8 H8 s8 hz8 => ?_⟩
    obtain ⟨fz, ws, rfl, hfz, pws⟩ := hz8
    have hB8 := hB7.same s8
    have D8 := D7.same s8
    have T8 := T7.ext s8
    have hC8 := s8 _ _ hC7
    have hR8 := s8 _ _ hR7
    have pz8 := rows_same s8 pz7
    have lws : ws.length = q.toNat ^ k := by rw [pws.length, wordsL_len, List.length_map, lP]
    have lwi : (ws.length : Int) = q ^ k := by
      rw [lws, Int.natCast_pow, Int.toNat_of_nonneg (by omega)]
    have pw0 : 0 < q ^ k := Int.pow_pos (by omega)
    have m4 := hkq.m
    have hQ : 0 < q.toNat := by omega
    have eQ : (q.toNat : Int) = q := Int.toNat_of_nonneg (by omega)
    have wat : ∀ i, i < q.toNat ^ k → (wordsL q n (Ps.map (·.2)))[i]? = some (comb q n (digs q.toNat k i) (Ps.map (·.2))) := fun i hi => by
      have := words_at (n := n) hq aR (i := i) (by rw [List.length_map, lP]; exact hi)
      rw [List.length_map, lP] at this
      exact this
    have wall := (words_asc hq hR).2
    clear s8 hB7 D7 T7 hC7 hR7 pz7
    dsimp only [gName]
    refine (seq_cutI (fun σ' G => σ' = [some (.ref d), some (.int q), some (.int (k : Int)), some (.int (n : Int)), some (.ref C), some (.ref R0), some (.ref L), o7, o8, o9, some (.ref fz), none, none, none, none, none, some (.ref b), some (.int (q ^ k)), none] ∧ Deck kL G d l ∧ Tabs (TL T) G ∧ G C = some (.lst ((nats hs).map V.int)) ∧ G R0 = some (.lst zs) ∧ Paired (TI K G) zs (Ps.map (·.2)) ∧ SqT K G fz ws ∧ Paired (TI K G) ws (wordsL q n (Ps.map (·.2)))) (fun D' go => ?_) ?_)
    · refine ⟨_, rfl, _, _, _, _, _, rfl, .ty "tuple", tyx_tup hfz, kit_ty (r := true) (by decide +kernel), true, rfl, iteF ?_⟩
      refine ⟨_, rfl, fz, ws, rfl, .inr hfz, _, rfl, rfl, _, rfl, ?_⟩
      rw [lwi, decide_eq_true rfl]
      refine iteF ?_
      refine ⟨T8, fun Ha ea Ta => ⟨_, rfl, _, rfl, _, _, rfl, rfl, lam_words (m := q ^ k - 1) (hB8.ext ea) fun p1 Hb sb hp1 => ?_⟩⟩
      have ew : wordsD q n Ps (q ^ k - 1) = .tuple [.str "many", .int (q ^ k - 1)] := by
        unfold wordsD
        rw [eM, if_pos (by omega)]
      rw [ew] at hp1
      have e1 := ea.trans (same_extN sb)
      refine ⟨_, rfl, _, _, rfl, rfl, line_s (Nat.le_of_ble_eq_true rfl), fun p2 hp2 => ?_⟩
      have v2 := same_upd (o := .tup [.str "many", .int (q ^ k - 1)]) hp2
      have dpl : Dp K (upd Hb p2 (.tup [.str "many", .int (q ^ k - 1)])) (.ref p1) (.tuple [.str "many", .int (q ^ k - 1)]) := by
        cases hp1 with
        | tup g1 g2 =>
          cases g2 with
          | cons g3 g4 =>
            cases g3
            cases g4 with
            | cons g5 g6 =>
              cases g5
              cases g6
              exact .tup (v2.tup g1) (.cons (.str _) (.cons (.int _) .nil))
      have shp : SeqAt.shaped (.tuple [.str "many", .int (q ^ k - 1)]) = true := shaped_two _
      refine ⟨.tuple [.str "many", .int (q ^ k - 1)], .tuple [.str "many", .int (q ^ k - 1)], dpl, .tup (SqT.of upd_same) (.cons (.str _) (.cons (.int _) .nil)), shp, shp, _, rfl, ?_⟩
      have eqv : PyData.eqv (.tuple [.str "many", .int (q ^ k - 1)]) (.tuple [.str "many", .int (q ^ k - 1)]) = true := by
        simp [PyData.eqv, PyData.eqvAll]
      rw [eqv]
      have g2 := (ground e1).trans v2
      refine iteF (go _ _ ⟨rfl, (D8.extN e1).same v2, (Ta.ext sb).ext v2, v2 _ _ (e1 _ _ hC8 (by intro ps z; cases z)), v2 _ _ (e1 _ _ hR8 (by intro ps z; cases z)), rows_same v2 (rows_ext e1 pz8), v2.tup ((ground e1).tup (sqT_noT hfz)), rows_same v2 (rows_ext e1 pws)⟩)
    clear D8 T8 hC8 hR8 pz8 hfz pws hB8
    rintro _ H9 ⟨rfl, D9, T9, hC9, hR9, pz9, hfz, pws⟩
    have lhk : (nats hs).length = k := by rw [← lh]; simp [nats]
    have word_i : ∀ i v, i < q.toNat ^ k → ws[i]? = some v → ∃ u : List Int, u = comb q n (digs q.toNat k i) (Ps.map (·.2)) ∧ ∀ G, Paired (TI K G) ws (wordsL q n (Ps.map (·.2))) → TI K G v u := fun i v hi hv => by
      refine ⟨_, rfl, fun G hp => ?_⟩
      obtain ⟨r, hr, ti⟩ := paired_at hp hv
      rw [wat i hi] at hr
      obtain rfl := Option.some.inj hr
      exact ti
    have lead_at : ∀ i j h, i < q.toNat ^ k → hs[j]? = some h → (comb q n (digs q.toNat k i) (Ps.map (·.2))).getD h 0 = (digs q.toNat k i).getD j 0 := fun i j h hi hh => by
      have e := leads_comb (n := n) hq hR (digs_row hq k i) (by rw [digs_len, lP])
      have e2 := congrArg (fun l : List Int => l.getD j 0) e
      have e2 : (atLeads Ps (comb q n (digs q.toNat k i) (Ps.map (·.2)))).getD j 0 = (digs q.toNat k i).getD j 0 := e2
      rw [← e2]
      unfold atLeads
      have ex : (Ps.map (·.1))[j]? = some h := by rw [eP]; exact hh
      rw [List.getElem?_map] at ex
      rw [List.getD_eq_getElem?_getD, List.getD_eq_getElem?_getD, List.getElem?_map]
      cases eq : Ps[j]? with
      | none =>
        rw [eq] at ex
        cases ex
      | some x =>
        rw [eq] at ex
        obtain rfl := Option.some.inj ex
        show _ = (comb q n (digs q.toNat k i) (Ps.map (·.2))).getD x.1 0
        rw [List.getD_eq_getElem?_getD]
    refine (seq_cutF (fun σ' G => ∃ o8 o11 o12 o13 : Option V, σ' = [some (.ref d), some (.int q), some (.int (k : Int)), some (.int (n : Int)), some (.ref C), some (.ref R0), some (.ref L), o7, o8, o9, some (.ref fz), o11, o12, o13, none, none, some (.ref b), some (.int (q ^ k)), none] ∧ Same H9 G) (fun D' go => ?_) ?_)
    · refine ⟨_, rfl, fz, ws, rfl, hfz, for_it (walk_enumT (K := K) (a := fz) (xs := ws))
        (fun i σ' G => ∃ o8 o11 o12 o13 : Option V, σ' = [some (.ref d), some (.int q), some (.int (k : Int)), some (.int (n : Int)), some (.ref C), some (.ref R0), some (.ref L), o7, o8, o9, some (.ref fz), o11, o12, o13, none, none, some (.ref b), some (.int (q ^ k)), none] ∧ Same H9 G)
        ⟨o8, none, none, none, rfl, Same.refl _⟩ (fun i σ G _ ⟨_, _, _, _, _, s⟩ => s.tup hfz) ?_ (fun σ G h => go σ G h)⟩
      rintro i z _ G G' hi ⟨o8, o11, o12, o13, rfl, e⟩ ⟨T0, x, y, rfl, hT0, rfl, hx, hy⟩
      obtain rfl : x = V.int (i : Nat) := (Option.some.inj hx).symm
      have hi' : i < q.toNat ^ k := by rw [← lws]; exact hi
      obtain ⟨u, eu, tu⟩ := word_i i y hi' hy
      have sT := same_upd (o := .tup [.int (i : Nat), y]) hT0
      have e1 := e.trans sT
      refine ⟨T0, _, rfl, SqT.of upd_same, rfl, _, _, rfl, _, _, rfl, rfl, ?_⟩
      generalize upd G T0 (.tup [.int (i : Nat), y]) = G1 at e1 ⊢
      have hu := tu G1 (rows_same e1 pws)
      have lu : u.length = n := by rw [eu]; exact comb_len fun r hr => (aR r hr).2
      obtain ⟨ay, rfl, hay⟩ := id hu
      refine ⟨_, rfl, _, _, _, _, _, rfl, .ty "tuple", tyx_tup hay, kit_ty (r := true) (by decide +kernel), true, rfl, iteF ?_⟩
      refine ⟨_, rfl, ay, _, rfl, .inr hay, _, rfl, rfl, _, rfl, ?_⟩
      rw [List.length_map, lu, decide_eq_true rfl]
      refine iteF ?_
      refine ⟨_, rfl, C, rfl, ⟨_, SqL.of (e1 _ _ hC9)⟩, for_it (walk_list (K := K) (a := C) (xs := (nats hs).map V.int))
        (fun j σ' G2 => ∃ o8 : Option V, σ' = [some (.ref d), some (.int q), some (.int (k : Int)), some (.int (n : Int)), some (.ref C), some (.ref R0), some (.ref L), o7, o8, o9, some (.ref fz), some (.int (i : Nat)), some (.ref ay), some (.int (((digs q.toNat k i).take j).foldl (fun t c => t * (q.toNat : Int) + c) 0)), none, none, some (.ref b), some (.int (q ^ k)), none] ∧ Same G1 G2 ∧ (((digs q.toNat k i).take j).foldl (fun t c => t * (q.toNat : Int) + c) 0).natAbs < 2 ^ (3 * j + 3))
        ⟨o8, rfl, Same.refl _, show (0 : Int).natAbs < 2 ^ (3 * 0 + 3) by decide⟩ (fun j σ G2 _ ⟨_, _, s, _⟩ => SqL.of ((e1.trans s) _ _ hC9)) ?_ ?_⟩
      · rintro j v _ _ G2 hj ⟨o8, rfl, e2, bd⟩ ⟨rfl, hv⟩
        obtain ⟨m, hm, rfl⟩ := int_at hv
        obtain ⟨h, hh, rfl⟩ : ∃ h, hs[j]? = some h ∧ m = (h : Int) := by
          unfold nats at hm
          rw [List.getElem?_map] at hm
          cases e : hs[j]? with
          | none =>
            rw [e] at hm
            cases hm
          | some x =>
            rw [e] at hm
            exact ⟨x, rfl, (Option.some.inj hm).symm⟩
        have hjk : j < k := by rw [← lnh]; exact hj
        have hn' : h < n := bh h (List.mem_of_getElem? hh)
        have gv := lead_at i j h hi' hh
        rw [← eu] at gv
        have lj : IsLet q ((digs q.toNat k i).getD j 0) := row_getD hq (digs_row hq k i) j
        have nx : ((digs q.toNat k i).take (j + 1)).foldl (fun t c => t * (q.toNat : Int) + c) 0 = ((digs q.toNat k i).take j).foldl (fun t c => t * (q.toNat : Int) + c) 0 * q + (digs q.toNat k i).getD j 0 := by
          have hjd : j < (digs q.toNat k i).length := by rw [digs_len]; exact hjk
          rw [List.take_succ_eq_append_getElem hjd, List.foldl_append, List.foldl_cons, List.foldl_nil, eQ, List.getD_eq_getElem?_getD, List.getElem?_eq_getElem hjd]
          rfl
        generalize ((digs q.toNat k i).take j).foldl (fun t c => t * (q.toNat : Int) + c) 0 = tot at bd nx ⊢
        refine ⟨_, rfl, _, rfl, _, _, rfl, rfl, wide_mul (a := 3 * j + 3) (b := 3) bd (by omega) (by omega) (by decide) (by omega), _, rfl, _, rfl, ixT_rd (hu.same e2) (by rw [lu]; exact hn') rfl ⟨_, _, rfl, rfl, ?_⟩⟩
        rw [gv]
        refine ⟨_, by rw [nx]; rfl, e2, ?_⟩
        rw [nx]
        have q8 : tot * q ≤ tot.natAbs * 5 := by
          have := Int.le_natAbs (a := tot)
          calc tot * q ≤ tot.natAbs * q := Int.mul_le_mul_of_nonneg_right this (by omega)
            _ ≤ tot.natAbs * 5 := Int.mul_le_mul_of_nonneg_left q5 (by omega)
        have q9 : -(tot.natAbs * 5 : Int) ≤ tot * q := by
          have h1 : -(tot.natAbs : Int) ≤ tot := by omega
          have h2 : -(tot.natAbs : Int) * q ≤ tot * q := Int.mul_le_mul_of_nonneg_right h1 (by omega)
          have h3 : (tot.natAbs : Int) * q ≤ tot.natAbs * 5 := Int.mul_le_mul_of_nonneg_left q5 (by omega)
          rw [Int.neg_mul] at h2
          omega
        obtain ⟨j0, j1⟩ := lj
        have ep : 2 ^ (3 * (j + 1) + 3) = 2 ^ (3 * j + 3) * 8 := by
          rw [show 3 * (j + 1) + 3 = 3 * j + 3 + 3 by omega, Nat.pow_add]
        rw [ep]
        have eb : 8 ≤ 2 ^ (3 * j + 3) := by
          have : 2 ^ 3 ≤ 2 ^ (3 * j + 3) := Nat.pow_le_pow_right (by decide) (by omega)
          exact this
        generalize 2 ^ (3 * j + 3) = Z at bd eb ⊢
        omega
      · rintro _ G2 ⟨o8, rfl, e2, bd⟩
        have ev : ((digs q.toNat k i).take ((nats hs).map V.int).length).foldl (fun t c => t * (q.toNat : Int) + c) 0 = (i : Int) := by
          rw [lnh, List.take_of_length_le (by rw [digs_len]; exact Nat.le_refl _)]
          exact digs_value k i hi'
        rw [ev]
        refine ⟨_, rfl, _, rfl, rfl, _, rfl, ?_⟩
        rw [decide_eq_true rfl]
        exact iteF ⟨_, _, _, _, rfl, e1.trans e2⟩
    rintro _ H10 ⟨o8', o11, o12, o13, rfl, s10⟩
    have D10 := D9.same s10
    have T10 := T9.ext s10
    have C10 := s10 _ _ hC9
    have R10 := s10 _ _ hR9
    have p10 := rows_same s10 pz9
    have f10 := s10.tup hfz
    have w10 := rows_same s10 pws
    clear D9 T9 hC9 hR9 pz9 hfz pws s10
    have eP4 : q.toNat ^ k ≤ 4096 := by
      have : ((q.toNat ^ k : Nat) : Int) ≤ 4096 := by
        rw [Int.natCast_pow, eQ]
        exact m4
      omega
    refine ⟨_, rfl, by decide, by decide, for_range (lo := 0) (n := 24)
      (fun i σ' G => ∃ o7 o8 o11 o14 o15 : Option V, σ' = [some (.ref d), some (.int q), some (.int (k : Int)), some (.int (n : Int)), some (.ref C), some (.ref R0), some (.ref L), o7, o8, o9, some (.ref fz), o11, o12, o13, o14, o15, some (.ref b), some (.int (q ^ k)), none] ∧ Deck kL G d l ∧ Tabs (TL T) G ∧ G C = some (.lst ((nats hs).map V.int)) ∧ G R0 = some (.lst zs) ∧ Paired (TI K G) zs (Ps.map (·.2)) ∧ SqT K G fz ws ∧ Paired (TI K G) ws (wordsL q n (Ps.map (·.2))))
      ⟨o7, o8', o11, none, none, rfl, D10, T10, C10, R10, p10, f10, w10⟩ ?_ ?_⟩
    · clear D10 T10 C10 R10 p10 f10 w10
      rintro i _ G hi ⟨o7, o8, o11, o14, o15, rfl, DG, TG, hC, hR', pz, hfz, pws⟩
      refine ⟨_, rfl, _, rfl, d, l, q ^ k, rfl, pw0, small_bits (by omega) (by omega), DG, fun r G2 r0 r1 e2 D2 => ?_⟩
      obtain ⟨m, rfl⟩ : ∃ m : Nat, r = (m : Int) := ⟨r.toNat, by omega⟩
      have hm : m < q.toNat ^ k := by omega
      have T2 := tabs_but DG e2 TG
      have hC2 := e2 _ _ hC C1 C2
      have hR2 := e2 _ _ hR' R1 R2
      have pz2 := paired_ti DG e2 pz
      have f2 := e2.tup DG hfz
      have pw2 := paired_ti DG e2 pws
      clear DG TG hC hR' pz hfz pws e2
      refine ⟨line_s (Nat.zero_le _), fun A hA => ⟨_, rfl, _, _, rfl, ?_⟩⟩
      have sA := same_upd (o := .lst []) hA
      have hA3 : (upd G2 A (.lst [])) A = some (.lst []) := upd_same
      generalize upd G2 A (.lst []) = G3 at sA hA3 ⊢
      dsimp only
      refine (seq_cutF (fun σ' G' => ∃ (A : Addr) (o8 o15 : Option V), σ' = [some (.ref d), some (.int q), some (.int (k : Int)), some (.int (n : Int)), some (.ref C), some (.ref R0), some (.ref L), some (.int (0 + (i : Int))), o8, o9, some (.ref fz), some (.int (m : Int)), o12, o13, some (.ref A), o15, some (.ref b), some (.int (q ^ k)), none] ∧ Same G2 G' ∧ G' A = some (.lst ((digs q.toNat k m).map V.int))) (fun D' go => ?_) ?_)
      · refine ⟨_, rfl, C, rfl, ⟨_, SqL.of (sA _ _ hC2)⟩, for_it (walk_list (K := K) (a := C) (xs := (nats hs).map V.int))
          (fun j σ' G' => ∃ (A : Addr) (o8 : Option V), σ' = [some (.ref d), some (.int q), some (.int (k : Int)), some (.int (n : Int)), some (.ref C), some (.ref R0), some (.ref L), some (.int (0 + (i : Int))), o8, o9, some (.ref fz), some (.int (m : Int)), o12, o13, some (.ref A), some (.int ((m / q.toNat ^ j : Nat) : Int)), some (.ref b), some (.int (q ^ k)), none] ∧ Same G2 G' ∧ G' A = some (.lst ((digs q.toNat j m).map V.int)))
          ⟨A, o8, by rw [Nat.pow_zero, Nat.div_one]; rfl, sA, hA3⟩ (fun j σ G' _ ⟨_, _, _, s, _⟩ => SqL.of (s _ _ hC2)) ?_ ?_⟩
        · rintro j v _ _ G' hj ⟨A, o8, rfl, e, hA⟩ ⟨rfl, hv⟩
          have hjk : j < k := by rw [← lnh]; exact hj
          have mq : (m / q.toNat ^ j : Nat) ≤ 4096 := Nat.le_trans (Nat.div_le_self _ _) (by omega)
          have dz := digs_len (Q := q.toNat) j m
          have lA : ((digs q.toNat j m).map V.int).length = j := by rw [List.length_map, dz]
          refine ⟨_, rfl, .inl ⟨_, rfl, _, rfl, _, _, rfl, rfl, by omega, line_s (Nat.le_of_ble_eq_true rfl), fun P hP => ⟨_, rfl, P, A, _, _, rfl, rfl, upd_same, (same_upd hP) _ _ hA, by rw [lA]; exact line_s (by simp; omega), fun c hc => ⟨_, rfl, _, rfl, _, _, rfl, rfl, wide_div (b := 3) (by omega) (by omega) (by decide) (by decide), _, _, rfl, ?_⟩⟩⟩⟩
          have sP := (same_upd (o := .lst [.int (((m / q.toNat ^ j : Nat) : Int).fmod q)]) hP)
          have e3 := e.trans (sP.trans (same_upd (o := .lst ([.int (((m / q.toNat ^ j : Nat) : Int).fmod q)] ++ (digs q.toNat j m).map V.int)) hc))
          have ed : ((m / q.toNat ^ j : Nat) : Int) / q = ((m / q.toNat ^ (j + 1) : Nat) : Int) := by
            rw [div_digit (show 0 < q by omega), Nat.div_div_eq_div_mul, ← Nat.pow_succ]
          refine ⟨c, some v, ?_, e3, ?_⟩
          · rw [← ed]
            rfl
          · rw [upd_same, digs_first hQ, ← fmod_digit (show 0 < q by omega)]
            rfl
        · rintro _ G' ⟨A, o8, rfl, e, hA⟩
          rw [lnh] at hA ⊢
          exact go _ _ ⟨A, o8, _, rfl, e, hA⟩
      rintro _ G' ⟨A, o8, o15, rfl, e, hA⟩
      have D4 := D2.same e
      have T4 := T2.ext e
      have C4 := e _ _ hC2
      have R4 := e _ _ hR2
      have p4 := rows_same e pz2
      have f4 := e.tup f2
      have w4 := rows_same e pw2
      have hml : m < ws.length := by rw [lws]; exact hm
      obtain ⟨u, eu, tu⟩ := word_i m ws[m] hm (List.getElem?_eq_getElem hml)
      have hu := tu G' w4
      obtain ⟨ur, ul⟩ : IsRow q u ∧ u.length = n := by
        rw [eu]
        exact ⟨comb_row hq (digs_row hq k m) fun r hr => (aR r hr).1, comb_len fun r hr => (aR r hr).2⟩
      have tw := (zw (ns := u) (by omega) fun c hc => let_nat hq (ur c hc)).told (by decide) (by decide)
      refine ⟨_, rfl, _, rfl, fz, ws, (m : Int), ws[m], rfl, rfl, f4, atI_nat (j := m) (List.getElem?_eq_getElem hml), _, _, rfl, ti_dq hu, tw, ?_⟩
      refine ⟨_, rfl, _, rfl, _, rfl, _, rfl, q, n, .ref R0, .ref A, digs q.toNat k m, Ps.map (·.2), rfl, hq, n8, .inr ⟨R0, A, zs, rfl, rfl, SqL.of R4, p4, SqL.of hA⟩, digs_row hq k m, aR, fun z G5 s5 hz => ?_⟩
      rw [← eu] at hz
      refine ⟨_, _, rfl, ti_dq hz, tw, rfl, _, rfl, ?_⟩
      rw [decide_eq_true rfl]
      exact iteF ⟨_, _, _, _, _, rfl, D4.same s5, T4.ext s5, s5 _ _ C4, s5 _ _ R4, rows_same s5 p4, s5.tup f4, rows_same s5 w4⟩
    · rintro _ G ⟨o7, o8, o11, o14, o15, rfl, DG, TG, _⟩
      exact kk G DG TG
end
end K11
end
section
set_option maxRecDepth 100000
set_option maxHeartbeats 8000000
set_option exponentiation.threshold 9000
namespace K11
open PySem PySem.Spec PyProof.Rows L2 MB LM
open LamX hiding takes0
theorem dq_rowsAll {K : PySem.W.Frag} {H : Hp} {vs : List V} {Ls : List (List Int)} (h : Paired (TI K H) vs Ls) : DqAll K H vs (Ls.map fun r => PyData.tuple (r.map PyData.int)) := by
  induction h with
  | nil => exact .nil
  | cons r _ ih => exact .cons (ti_dq r) ih
theorem bulk_mem : ∀ {ds : List PyData} {d : PyData}, d ∈ ds → d.bulk ≤ PyData.bulkAll ds
  | [], _, h => by cases h
  | e :: r, d, h => by
    simp only [PyData.bulkAll]
    rcases List.mem_cons.mp h with rfl | h
    · omega
    · have := bulk_mem h
      omega
theorem len_bulk : ∀ ds : List PyData, ds.length ≤ PyData.bulkAll ds
  | [] => Nat.zero_le _
  | d :: r => by
    have := len_bulk r
    simp only [PyData.bulkAll, List.length_cons]
    omega
theorem stack_any {b k : Nat} {dd : PyData} (h : Sz b k dd) (hb : b ≤ 1000) : StackOk dd := fun ds e => by
  subst e
  have h1 := h.bu
  simp only [PyData.bulk] at h1
  have h2 := len_bulk ds
  refine ⟨by omega, fun d hd es e => ?_⟩
  have h3 := bulk_mem hd
  subst e
  simp only [PyData.bulk] at h3
  have h4 := len_bulk es
  omega
theorem stack_no {dd : PyData} (h : asTuple dd = none) : StackOk dd := fun ds e => by
  subst e
  cases h
theorem stack_rows {Ls : List (List Int)} (hl : Ls.length ≤ 1000) (h : ∀ r ∈ Ls, r.length ≤ 1000) : StackOk (rowsD Ls) := fun ds e => by
  cases e
  refine ⟨by rw [List.length_map]; exact hl, fun d hd es e => ?_⟩
  obtain ⟨r, hr, rfl⟩ := List.mem_map.mp hd
  cases e
  rw [List.length_map]
  exact h r hr
theorem stack_ints {ns : List Int} (h : ns.length ≤ 1000) : StackOk (.tuple (ns.map PyData.int)) := fun ds e => by
  cases e
  refine ⟨by rw [List.length_map]; exact h, fun d hd es e => ?_⟩
  obtain ⟨c, _, rfl⟩ := List.mem_map.mp hd
  cases e
section
variable {w : World} {K : PySem.W.Frag} {mg : Str → Option Value} {base : Heap}
theorem ok_law (T : Txt K mg) (sm : SM base) (tb__law_are_words : TabB base mg T.c__law_are_words T.tP__law_are_words) (tb__law_is_covered : TabB base mg T.c__law_is_covered T.tP__law_is_covered) (tb__law_are_many : TabB base mg T.c__law_are_many T.tP__law_are_many) : FnG P w K mg base 12 T.a_law T.d_law P_law (spLaw K (TL T)) := by
  refine fnG T.F_law sc_law (fun vs H Q E h => ?_) (fun cdv A outer s H vs Q E hr hgu h => ?_)
  · obtain ⟨a, ns, rfl, _⟩ := h
    rfl
  · obtain ⟨a, ns, rfl, ha, hl, hT, qq⟩ := h
    refine ⟨_, 
      (pss_cons (ps_set (i := 1) sc_law.nd rfl (Or.inl rfl) (pe_call (ok__law_deck T) (hr.mono (by decide)) rfl T.m__law_deck T.F__law_deck.kp T.b__law_deck .nil pass0 (pa_cons (pv 0) pa_nil)))
      (pss_cons (ps_if (PW.pt (pw_and (pt_cmpR op_eq (pe_call (ok__law_draw T) (hr.mono (by decide)) rfl T.m__law_draw T.F__law_draw.kp T.b__law_draw .nil pass0 (pa_cons (pv 1) (pa_cons pe_int pa_nil))) pe_int (nomark _)) (pw_and1 (pt_not (pt_val (pe_callG (ok__law_are_many T sm tb__law_are_many) (hr.mono (by decide)) hgu rfl T.m__law_are_many T.F__law_are_many.kp T.b__law_are_many (pa_cons (pv 1) pa_nil))))))) (pss_one (ps_ret pe_bl)) pss_nil)
      (pss_cons (ps_par (i := 2) (j := 3) (by rfl) sc_law.nd rfl rfl (by decide) rfl rfl (pa_cons (pe_op op_add pe_int (pe_call (ok__law_draw T) (hr.mono (by decide)) rfl T.m__law_draw T.F__law_draw.kp T.b__law_draw .nil pass0 (pa_cons (pv 1) (pa_cons pe_int pa_nil)))) (pa_cons (pe_op op_add pe_int (pe_call (ok__law_draw T) (hr.mono (by decide)) rfl T.m__law_draw T.F__law_draw.kp T.b__law_draw .nil pass0 (pa_cons (pv 1) (pa_cons pe_int pa_nil)))) pa_nil)) (by rfl))
      (pss_cons (ps_set (i := 4) sc_law.nd rfl (Or.inl rfl) (pe_call (ok__law_drawn T) (hr.mono (by decide)) rfl T.m__law_drawn T.F__law_drawn.kp T.b__law_drawn .nil pass0 (pa_cons (pv 1) (pa_cons (pv 2) (pa_cons (pv 3) pa_nil)))))
      (pss_cons (ps_set (i := 5) sc_law.nd rfl (Or.inl rfl) (pe_make T.mk_Book (ok_Book___init__ T) (hr.mono (by decide)) rfl T.g_Book T.b_Book___init__ .nil pass0 (pa_cons (pv 2) (pa_cons (pv 3) (pa_cons (pe_revT (pv 4)) pa_nil)))))
      (pss_cons (ps_if (pt_not (pt_val (pe_callG (ok__law_are_words T sm tb__law_are_words) (hr.mono (by decide)) hgu rfl T.m__law_are_words T.F__law_are_words.kp T.b__law_are_words (pa_cons (pv 1) (pa_cons (pv 5) (pa_cons (pv 2) (pa_cons (pv 3) (pa_cons (pv 4) pa_nil)))))))) (pss_one (ps_ret pe_bl)) pss_nil)
      (pss_cons (ps_for PassesOwn.never rfl (pi_range1 rfl T.m_range (pa_cons pe_int pa_nil)) (pg_name (i := 6) sc_law.nd rfl (Or.inl rfl)) (pss_cons (ps_set (i := 7) sc_law.nd rfl (Or.inl rfl) (pe_call (ok__law_stack T) (hr.mono (by decide)) rfl T.m__law_stack T.F__law_stack.kp T.b__law_stack .nil pass0 (pa_cons (pv 1) (pa_cons (pv 2) (pa_cons (pv 3) (pa_cons (pv 4) pa_nil))))))
      (pss_one (ps_if (pt_not (pt_val (pe_callG (ok__law_is_covered T sm tb__law_is_covered) (hr.mono (by decide)) hgu rfl T.m__law_is_covered T.F__law_is_covered.kp T.b__law_is_covered (pa_cons (pv 5) (pa_cons (pv 2) (pa_cons (pv 3) (pa_cons (pv 4) (pa_cons (pv 7) pa_nil)))))))) (pss_one (ps_ret pe_bl)) pss_nil))))
      (pss_cons (ps_for PassesOwn.never rfl (pi_tup (pe_tup (pa_cons (pe_callTy call_list_of (by rfl) T.m_list (by decide +kernel) (pa_cons (pv 4) pa_nil)) (pa_cons (pv 4) (pa_cons (pe_call (ok__law_any T) (hr.mono (by decide)) rfl T.m__law_any T.F__law_any.kp T.b__law_any .nil pass0 (pa_cons (pv 1) (pa_cons pe_int pa_nil))) (pa_cons pe_non (pa_cons pe_str (pa_cons (pe_tup pa_nil) (pa_cons (pe_tup (pa_cons (pe_op op_repA (pe_tup (pa_cons pe_int pa_nil)) (pv 3)) pa_nil)) (pa_cons (pe_op op_repA (pe_tup (pa_cons pe_int pa_nil)) (pv 3)) (pa_cons pe_dnewK pa_nil))))))))))) (pg_name (i := 8) sc_law.nd rfl (Or.inl rfl)) (pss_one (ps_if (pt_not (pt_val (pe_callG (ok__law_is_covered T sm tb__law_is_covered) (hr.mono (by decide)) hgu rfl T.m__law_is_covered T.F__law_is_covered.kp T.b__law_is_covered (pa_cons (pv 5) (pa_cons (pv 2) (pa_cons (pv 3) (pa_cons (pv 4) (pa_cons (pv 8) pa_nil)))))))) (pss_one (ps_ret pe_bl)) pss_nil)))
      (pss_one (ps_ret (pe_cmpR op_eq (pe_callB (call_tell sm hgu hr.units) (by rfl) T.m_repr (by decide +kernel) (pa_cons (pe_fld (pv 5) rfl) pa_nil)) (pe_callB (call_tell sm hgu hr.units) (by rfl) T.m_repr (by decide +kernel) (pa_cons (pv 4) pa_nil)) (nomark _)))))))))))), ?_⟩
    refine ⟨_, rfl, a, ns, rfl, ha, hl, fun d l H1 s1 D1 => ?_⟩
    have T1 := hT.ext s1
    dsimp only [gName]
    refine (seq_cutI (fun σ' G => σ' = [some (.ref a), some (.ref d), none, none, none, none, none, none, none] ∧ Deck kL G d l ∧ Tabs (TL T) G) (fun D' go => ?_) ?_)
    · refine ⟨_, rfl, d, l, 16, rfl, by decide, by decide, D1, fun r H2 r0 r1 e2 D2 => ⟨rfl, _, rfl, ?_⟩⟩
      have T2 := tabs_but D1 e2 T1
      refine ite2 (fun _ => ?_) (fun _ => ?_)
      · exact ⟨_, rfl, d, l, rfl, D2, T2, fun H' D' T' => ⟨true, rfl, iteF (go _ _ ⟨rfl, D', T'⟩)⟩⟩
      · exact go _ _ ⟨rfl, D2, T2⟩
    clear D1 T1
    rintro _ H2 ⟨rfl, D2, T2⟩
    refine (seq_cut (fun σ' G => ∃ (q : Int) (n : Nat), σ' = [some (.ref a), some (.ref d), some (.int q), some (.int (n : Int)), none, none, none, none, none] ∧ LetQ q ∧ 1 ≤ n ∧ n ≤ 8 ∧ Deck kL G d l ∧ Tabs (TL T) G) (fun D' go => ?_) ?_)
    · refine ⟨_, rfl, d, l, 4, rfl, by decide, by decide, D2, fun r H3 r0 r1 e3 D3 => ⟨_, _, rfl, rfl, _, rfl, d, l, 8, rfl, by decide, by decide, D3, fun m H4 m0 m1 e4 D4 => ⟨_, _, rfl, rfl, _, _, rfl, go _ _ ⟨2 + r, (1 + m).toNat, ?_, ⟨by omega, by omega⟩, by omega, by omega, D4, tabs_but D3 e4 (tabs_but D2 e3 T2)⟩⟩⟩⟩
      rw [Int.toNat_of_nonneg (by omega)]
      rfl
    clear D2 T2
    rintro _ H4 ⟨q, n, rfl, hq, n1, n8, D4, T4⟩
    refine ⟨_, rfl, _, rfl, _, rfl, d, l, q, n, rfl, D4, hq, n8, fun u Ps H5 e5 D5 hRF hR => ?_⟩
    have T5 := tabs_but D4 e5 T4
    have lR := rr_len hR
    have hRF0 := hRF
    obtain ⟨ar, vs, rfl, har, hpr⟩ := hRF
    refine ⟨_, rfl, _, rfl, _, rfl, ar, vs, rfl, har, fun p6 hp6 => fun b dx hb hdx hne => ?_⟩
    have s6 := same_upd (o := .tup vs.reverse) hp6
    have g6 : SqT K (upd H5 p6 (.tup vs.reverse)) p6 vs.reverse := SqT.of upd_same
    generalize upd H5 p6 (.tup vs.reverse) = H6 at s6 g6 hb hdx ⊢
    have hb2 : (upd H6 dx (.own b)) b = none := by rw [upd_ne hne.symm]; exact hb
    have aR : AllR q n (Ps.map (·.2)) := hR.rows
    refine ⟨H6, b, dx, q, n, .ref p6, (Ps.map (·.2)).reverse, rfl, (same_upd hdx).trans (same_upd hb2), hb, upd_same, hq, ⟨n1, n8⟩, ⟨p6, _, rfl, g6, paired_rev (rows_same s6 (pairedF hpr))⟩, fun r hr => aR r (List.mem_reverse.mp hr), by rw [List.length_reverse, List.length_map]; omega, fun H7 s7 hbk => ⟨rfl, ?_⟩⟩
    rw [← List.map_reverse, gauss_red hq hR (Qs := Ps.reverse) (fun x => List.mem_reverse)] at hbk
    have E7 : Env6 T d l b q n Ps (.ref ar) H7 := ⟨D5.same (s6.trans s7), T5.ext (s6.trans s7), ⟨hbk, hR, hq, n8⟩, hRF0.same (s6.trans s7)⟩
    clear hbk s7 hb2 hb hdx hne g6 s6 hp6 har hpr hRF0 T5 D5 e5 T4 D4
    dsimp only [gName]
    refine (seq_cutI (fun σ' G => σ' = [some (.ref a), some (.ref d), some (.int q), some (.int (n : Int)), some (.ref ar), some (.ref b), none, none, none] ∧ Env6 T d l b q n Ps (.ref ar) G) (fun D' go => ?_) ?_)
    · exact ⟨_, rfl, _, rfl, _, rfl, _, rfl, _, rfl, d, l, b, q, n, .ref ar, Ps, rfl, n1, E7, fun H' E' => ⟨true, rfl, iteF (go _ _ ⟨rfl, E'⟩)⟩⟩
    clear E7
    rintro _ H8 ⟨rfl, E8⟩
    refine (seq_cutF (fun σ' G => ∃ o6 o7 : Option V, σ' = [some (.ref a), some (.ref d), some (.int q), some (.int (n : Int)), some (.ref ar), some (.ref b), o6, o7, none] ∧ Env6 T d l b q n Ps (.ref ar) G) (fun D' go => ?_) ?_)
    · refine ⟨_, rfl, by decide, by decide, for_range (lo := 0) (n := 6)
        (fun i σ' G => ∃ o6 o7 : Option V, σ' = [some (.ref a), some (.ref d), some (.int q), some (.int (n : Int)), some (.ref ar), some (.ref b), o6, o7, none] ∧ Env6 T d l b q n Ps (.ref ar) G) ⟨none, none, rfl, E8⟩ ?_ (fun σ' G h => go σ' G h)⟩
      rintro i _ G hi ⟨o6, o7, rfl, EG⟩
      refine ⟨_, rfl, _, rfl, _, rfl, _, rfl, d, l, q, n, .ref ar, Ps, rfl, EG.D, hq, n1, n8, EG.R, hR, fun v dd G2 e2 D2 hv hok => ?_⟩
      have E2 := EG.but e2 D2
      refine ⟨_, rfl, _, rfl, _, rfl, _, rfl, _, rfl, b, q, n, .ref ar, v, Ps, dd, rfl, E2.B, E2.R, E2.t, hv, hok, fun G3 e3 T3 => ⟨true, rfl, iteF ⟨_, _, rfl, E2.ext e3 T3⟩⟩⟩
    clear E8
    rintro _ H9 ⟨o6, o7, rfl, E9⟩
    obtain ⟨ar', vs, ear, har, hpr⟩ := id E9.R
    obtain rfl : ar = ar' := V.ref.inj ear
    refine ⟨_, rfl, ar, vs, rfl, .inr har, fun a1 h1 => ?_⟩
    obtain ⟨A1, A2⟩ := E9.D.off h1
    have t1 := same_upd (o := .lst vs) h1
    have Ea := E9.same t1
    have k1 : (upd H9 a1 (.lst vs)) a1 = some (.lst vs) := upd_same
    have p1 := rows_same t1 (pairedF hpr)
    generalize upd H9 a1 (.lst vs) = Ga at Ea k1 p1 ⊢
    refine ⟨_, rfl, _, rfl, d, l, rfl, Ea.D, fun x dx G3 e3 D3 hx sx => ?_⟩
    have E3 := Ea.but e3 D3
    have k3 := e3 _ _ k1 A1 A2
    have p3 := paired_ti Ea.D e3 p1
    have x3 := Dq.same newer_sub _ _ hx
    clear hx p1 k1 Ea e3 D3 t1 h1 har hpr E9
    refine ⟨line_s (Nat.zero_le _), fun a6 h6 => ⟨line_s (Nat.le_of_ble_eq_true rfl), fun p7 hp7 => ⟨_, rfl, rep_rd (c := 0) ⟨p7, rfl, SqT.of upd_same⟩ (by omega) (by omega) fun z7 G7 s7 hz7 => ⟨line_s (Nat.le_of_ble_eq_true rfl), fun a7 h7 => ⟨line_s (Nat.le_of_ble_eq_true rfl), fun p8 hp8 => ⟨_, rfl, rep_rd (c := 0) ⟨p8, rfl, SqT.of upd_same⟩ (by omega) (by omega) fun z8 G8 s8 hz8 => fun a9 h9 => ⟨line_s (Nat.le_of_ble_eq_true rfl), fun L hL => ?_⟩⟩⟩⟩⟩⟩⟩
    have u6 := same_upd (o := .tup []) h6
    have u7 := same_upd (o := .tup [.int 0]) hp7
    have v7 := same_upd (o := .tup [z7]) h7
    have u8 := same_upd (o := .tup [.int 0]) hp8
    have u9 := same_upd (o := .dK []) h9
    have uL := same_upd (o := .tup [.ref a1, .ref ar, x, .non, .str "", .ref a6, .ref a7, z8, .ref a9]) hL
    have q9 := u9.trans uL
    have q8 := s8.trans q9
    have q8' := u8.trans q8
    have q7 := v7.trans q8'
    have q7' := s7.trans q7
    have q6 := u7.trans q7'
    have S := u6.trans q6
    have EL := E3.same S
    have kL := SqT.of (K := K) (upd_same (H := upd G8 a9 (.dK [])) (a := L) (o := .tup [.ref a1, .ref ar, x, .non, .str "", .ref a6, .ref a7, z8, .ref a9]))
    have items : ∀ y ∈ [V.ref a1, .ref ar, x, .non, .str "", .ref a6, .ref a7, z8, .ref a9], ∃ dd, Dq K (upd (upd G8 a9 (.dK [])) L (.tup [.ref a1, .ref ar, x, .non, .str "", .ref a6, .ref a7, z8, .ref a9])) y dd ∧ StackOk dd := by
      intro y hy
      simp only [List.mem_cons, List.not_mem_nil, or_false] at hy
      have ln : (List.replicate (n : Int).toNat (0 : Int)).length ≤ 1000 := by
        rw [List.length_replicate]
        omega
      rcases hy with rfl | rfl | rfl | rfl | rfl | rfl | rfl | rfl | rfl
      · exact ⟨_, .lst (SqL.of (S _ _ k3)) (dq_rowsAll (rows_same S p3)), stack_no rfl⟩
      · refine ⟨_, dq_rows EL.R.red, stack_rows (by rw [List.length_map]; omega) fun r hr => ?_⟩
        have := (aR r hr).2
        omega
      · exact ⟨_, Dq.same S _ _ x3, stack_any sx (by decide)⟩
      · exact ⟨_, .non, stack_no rfl⟩
      · exact ⟨_, .str _, stack_no rfl⟩
      · exact ⟨.tuple [], .tup (SqT.of (q6 _ _ upd_same)) .nil, stack_ints (ns := []) (by decide)⟩
      · refine ⟨.tuple [.tuple ((List.replicate (n : Int).toNat 0).map PyData.int)], .tup (SqT.of (q8' _ _ upd_same)) (.cons (ti_dq (hz7.same q7)) .nil), fun ds e => ?_⟩
        cases e
        refine ⟨Nat.le_of_ble_eq_true rfl, fun d hd es e => ?_⟩
        rw [List.mem_singleton.mp hd] at e
        cases e
        rw [List.length_map]
        exact ln
      · exact ⟨_, ti_dq (hz8.same q9), stack_ints ln⟩
      · exact ⟨.dict [], .dic (uL _ _ upd_same) .nil, stack_no rfl⟩
    generalize [V.ref a1, .ref ar, x, .non, .str "", .ref a6, .ref a7, z8, .ref a9] = its at kL items EL ⊢
    generalize upd (upd G8 a9 (.dK [])) L (.tup its) = GL at kL items EL ⊢
    clear S q6 q7' q7 q8' q8 q9 uL u9 u8 v7 u7 u6 hL h9 hz8 s8 hp8 h7 hz7 s7 hp7 h6 x3 p3 k3 E3
    refine ⟨L, rfl, ⟨its, kL⟩, for_it (walk_tup (K := K) (a := L) (xs := its))
      (fun i σ' G => ∃ o8 : Option V, σ' = [some (.ref a), some (.ref d), some (.int q), some (.int (n : Int)), some (.ref ar), some (.ref b), o6, o7, o8] ∧ Env6 T d l b q n Ps (.ref ar) G ∧ SqT K G L its ∧ ∀ y ∈ its, ∃ dd, Dq K G y dd ∧ StackOk dd)
      ⟨none, rfl, EL, kL, items⟩ (fun i σ G _ ⟨_, _, _, h, _⟩ => h) ?_ ?_⟩
    · rintro i y _ _ G hi ⟨o8, rfl, EG, kG, iG⟩ ⟨rfl, hy⟩
      obtain ⟨dd, hd, hok⟩ := iG y (List.mem_of_getElem? hy)
      refine ⟨_, rfl, _, rfl, _, rfl, _, rfl, _, rfl, b, q, n, .ref ar, y, Ps, dd, rfl, EG.B, EG.R, EG.t, hd, hok, fun G3 e3 T3 => ⟨true, rfl, iteF ⟨_, rfl, EG.ext e3 T3, (ground e3).tup (sqT_noT kG), fun y hy => ?_⟩⟩⟩
      obtain ⟨dd, hd, hok⟩ := iG y hy
      exact ⟨dd, dq_ext hd e3, hok⟩
    · rintro _ G ⟨o8, rfl, EG, _⟩
      have rows8 : ∀ r ∈ Ps.map (·.2), IsRow q r ∧ r.length ≤ 8 := fun r hr => ⟨(aR r hr).1, by have := (aR r hr).2; omega⟩
      have tR := told_rows hq rows8 (by rw [List.length_map]; omega)
      obtain ⟨dx', fs, z, hb', bq, bn, br, bd, hz'⟩ := EG.B.at_
      have dR := dq_rows EG.R.red
      refine ⟨_, rfl, b, _, dx', fs, _, rfl, hb', T.cl_Book, T.no_Book_rows, br, _, rowsD _, rfl, dq_rows hz', tR, _, rfl, _, rowsD _, rfl, dR, tR, rfl, ?_⟩
      rw [decide_eq_true rfl]
      exact qq _
end
end K11
end
section
set_option maxRecDepth 100000
set_option maxHeartbeats 4000000
namespace K11
open PySem PySem.Spec PyProof.Rows L2 MB
open LamX hiding takes0
theorem tabIn_of {K : PySem.W.Frag} {x : Str} {f c Pt : Addr} {oc cc : Value} {od cd : Option Addr} {fd : FuncData} {sl cs : Array (Option Value)} {vs : Array Value} (a : PySem.W.nsIn K mainGlobals x = some (some (.ref f)))
    (l : K.lookup f = some ⟨oc, od, .func fd, sl⟩) (hc : fd.code = .ref c) (lc : K.lookup c = some ⟨cc, cd, .fields vs, cs⟩) (hv : (vs[11]? : Option Value) = some (.ref Pt)) : PySem.W.tabIn K x = some (c, Pt) := by
  unfold PySem.W.tabIn
  rw [a]
  dsimp only
  rw [l]
  dsimp only
  rw [hc]
  dsimp only
  rw [lc]
  dsimp only
  rw [hv]
theorem kit_sub {K : PySem.W.Frag} {C : Addr} {T : String} {r : Bool} (m : PySem.W.kitMeta T = true) (h : PySem.W.subIn K (.ref C) (.type T) = some r) : PySem.W.kitOne K (.ref C) (.type T) = some r := by
  unfold PySem.W.kitOne
  rw [if_neg (by intro z; cases (eq_of_beq z))]
  show (if PySem.W.kitMeta T = true then PySem.W.subIn K (.ref C) (.type T) else none) = some r
  rw [if_pos m]
  exact h
theorem kit_clsR {K : PySem.W.Frag} {C D : Addr} {r : Bool} (c : PySem.W.isClsIn K D = true) (ty : PySem.W.typeIn K (.ref D) = some (.type "type")) (s : PySem.W.subIn K (.ref C) (.ref D) = some r) : PySem.W.kitCls K (.ref C) (.ref D) = some r := by
  have c' : (PySem.W.clsIn K D).isSome = true := c
  have e2 : ((PySem.W.clsIn K D).isSome && PySem.W.typeIn K (.ref D) == some (.type "type")) = true := by
    rw [c', ty] <;> rfl
  show (if ((PySem.W.clsIn K D).isSome && PySem.W.typeIn K (.ref D) == some (.type "type")) = true then PySem.W.subIn K (.ref C) (.ref D) else none) = some r
  rw [if_pos e2]
  exact s
theorem kit_refT {K : PySem.W.Frag} {C D : Addr} (c : PySem.W.isClsIn K D = true) (ty : PySem.W.typeIn K (.ref D) = some (.type "type")) (s : PySem.W.subIn K (.ref C) (.ref D) = some true) : PySem.W.kitOne K (.ref C) (.ref D) = some true := by
  show (if (Value.ref C == Value.ref D) = true then some true else _) = some true
  split
  · rfl
  · exact kit_clsR c ty s
theorem kit_refF {K : PySem.W.Frag} {C D : Addr} (n : C ≠ D) (c : PySem.W.isClsIn K D = true) (ty : PySem.W.typeIn K (.ref D) = some (.type "type")) (s : PySem.W.subIn K (.ref C) (.ref D) = some false) : PySem.W.kitOne K (.ref C) (.ref D) = some false := by
  show (if (Value.ref C == Value.ref D) = true then some true else _) = some false
  rw [if_neg (fun z => n (Value.ref.inj (eq_of_beq z)))]
  exact kit_clsR c ty s
theorem four_mk {K : PySem.W.Frag} {t r0 r1 r2 r3 : Addr} {d d0 d1 d2 d3 : Option Addr} {n n0 n1 n2 n3 : Nat} {sl sl0 sl1 sl2 sl3 : Array (Option Value)}
    {a0 a1 a2 a3 b0 b1 b2 b3 c0 c1 c2 c3 e0 e1 e2 e3 : Tok}
    (lt : K.lookup t = some ⟨.type "tuple", d, .seq #[.ref r0, .ref r1, .ref r2, .ref r3] n, sl⟩)
    (l0 : K.lookup r0 = some ⟨.type "tuple", d0, .seq #[.int 0 a0, .int 0 a1, .int 0 a2, .int 0 a3] n0, sl0⟩)
    (l1 : K.lookup r1 = some ⟨.type "tuple", d1, .seq #[.int 0 b0, .int 1 b1, .int 2 b2, .int 3 b3] n1, sl1⟩)
    (l2 : K.lookup r2 = some ⟨.type "tuple", d2, .seq #[.int 0 c0, .int 2 c1, .int 3 c2, .int 1 c3] n2, sl2⟩)
    (l3 : K.lookup r3 = some ⟨.type "tuple", d3, .seq #[.int 0 e0, .int 3 e1, .int 1 e2, .int 2 e3] n3, sl3⟩) : FourTab K t := by
  refine ⟨[r0, r1, r2, r3], rfl, fun H => .inr ⟨_, _, _, lt, rfl, rfl, by rw [sizeLine_eq]; exact (by decide : 4 ≤ 16777216), .cons rfl (.cons rfl (.cons rfl (.cons rfl .nil)))⟩, fun i r H e => ?_⟩
  have z : (4 : Nat) ≤ sizeLine := by rw [sizeLine_eq]; decide
  match i, e with
  | 0, e =>
    cases e
    exact .inr ⟨_, _, _, l0, rfl, rfl, z, .cons ⟨_, rfl⟩ (.cons ⟨_, rfl⟩ (.cons ⟨_, rfl⟩ (.cons ⟨_, rfl⟩ .nil)))⟩
  | 1, e =>
    cases e
    exact .inr ⟨_, _, _, l1, rfl, rfl, z, .cons ⟨_, rfl⟩ (.cons ⟨_, rfl⟩ (.cons ⟨_, rfl⟩ (.cons ⟨_, rfl⟩ .nil)))⟩
  | 2, e =>
    cases e
    exact .inr ⟨_, _, _, l2, rfl, rfl, z, .cons ⟨_, rfl⟩ (.cons ⟨_, rfl⟩ (.cons ⟨_, rfl⟩ (.cons ⟨_, rfl⟩ .nil)))⟩
  | 3, e =>
    cases e
    exact .inr ⟨_, _, _, l3, rfl, rfl, z, .cons ⟨_, rfl⟩ (.cons ⟨_, rfl⟩ (.cons ⟨_, rfl⟩ (.cons ⟨_, rfl⟩ .nil)))⟩
theorem all_mk {w : World} {K : PySem.W.Frag} {h : Heap} {mg : Str → Option Value} {fa : Addr} (X : K.In h) (G : h.Ns mainGlobals mg) (hfa : mg "law" = some (.ref fa))
    {q : Program} (tq : ∀ (x : Str) (r : DefRec) (c P : Addr), (recsOf q).find? (fun e => e.name == x) = some r → PySem.W.tabIn K x = some (c, P) → PySem.W.CodeHd h c P ∧ h.get? P = some (PySem.W.tabObj #[])) (nK : PySem.W.noTabs K = true)
    {f0 : Addr} {od0 an0 : Option Addr} {sl0 : Array (Option Value)} {oc0 kV0 dc0 pm0 cd0 ct0 : Value}
    {f1 : Addr} {od1 an1 : Option Addr} {sl1 : Array (Option Value)} {oc1 kV1 dc1 pm1 cd1 ct1 : Value}
    {f2 : Addr} {od2 an2 : Option Addr} {sl2 : Array (Option Value)} {oc2 kV2 dc2 pm2 cd2 ct2 : Value}
    {f3 : Addr} {od3 an3 : Option Addr} {sl3 : Array (Option Value)} {oc3 kV3 dc3 pm3 cd3 ct3 : Value}
    {f4 : Addr} {od4 an4 : Option Addr} {sl4 : Array (Option Value)} {oc4 kV4 dc4 pm4 cd4 ct4 : Value}
    {f5 : Addr} {od5 an5 : Option Addr} {sl5 : Array (Option Value)} {oc5 kV5 dc5 pm5 cd5 ct5 : Value}
    {f6 : Addr} {od6 an6 : Option Addr} {sl6 : Array (Option Value)} {oc6 kV6 dc6 pm6 cd6 ct6 : Value}
    {f7 : Addr} {od7 an7 : Option Addr} {sl7 : Array (Option Value)} {oc7 kV7 dc7 pm7 cd7 ct7 : Value}
    {f8 : Addr} {od8 an8 : Option Addr} {sl8 : Array (Option Value)} {oc8 kV8 dc8 pm8 cd8 ct8 : Value}
    {f9 : Addr} {od9 an9 : Option Addr} {sl9 : Array (Option Value)} {oc9 kV9 dc9 pm9 cd9 ct9 : Value}
    {f10 : Addr} {od10 an10 : Option Addr} {sl10 : Array (Option Value)} {oc10 kV10 dc10 pm10 cd10 ct10 : Value}
    {f11 : Addr} {od11 an11 : Option Addr} {sl11 : Array (Option Value)} {oc11 kV11 dc11 pm11 cd11 ct11 : Value}
    {f12 : Addr} {od12 an12 : Option Addr} {sl12 : Array (Option Value)} {oc12 kV12 dc12 pm12 cd12 ct12 : Value}
    {f13 : Addr} {od13 an13 : Option Addr} {sl13 : Array (Option Value)} {oc13 kV13 dc13 pm13 cd13 ct13 : Value}
    {f14 : Addr} {od14 an14 : Option Addr} {sl14 : Array (Option Value)} {oc14 kV14 dc14 pm14 cd14 ct14 : Value}
    {f15 : Addr} {od15 an15 : Option Addr} {sl15 : Array (Option Value)} {oc15 kV15 dc15 pm15 cd15 ct15 : Value}
    {f16 : Addr} {od16 an16 : Option Addr} {sl16 : Array (Option Value)} {oc16 kV16 dc16 pm16 cd16 ct16 : Value}
    {f17 : Addr} {od17 an17 : Option Addr} {sl17 : Array (Option Value)} {oc17 kV17 dc17 pm17 cd17 ct17 : Value}
    {f18 : Addr} {od18 an18 : Option Addr} {sl18 : Array (Option Value)} {oc18 kV18 dc18 pm18 cd18 ct18 : Value}
    {f19 : Addr} {od19 an19 : Option Addr} {sl19 : Array (Option Value)} {oc19 kV19 dc19 pm19 cd19 ct19 : Value}
    {f20 : Addr} {od20 an20 : Option Addr} {sl20 : Array (Option Value)} {oc20 kV20 dc20 pm20 cd20 ct20 : Value}
    {f21 : Addr} {od21 an21 : Option Addr} {sl21 : Array (Option Value)} {oc21 kV21 dc21 pm21 cd21 ct21 : Value}
    {f22 : Addr} {od22 an22 : Option Addr} {sl22 : Array (Option Value)} {oc22 kV22 dc22 pm22 cd22 ct22 : Value}
    {f23 : Addr} {od23 an23 : Option Addr} {sl23 : Array (Option Value)} {oc23 kV23 dc23 pm23 cd23 ct23 : Value}
    {f24 : Addr} {od24 an24 : Option Addr} {sl24 : Array (Option Value)} {oc24 kV24 dc24 pm24 cd24 ct24 : Value}
    {f25 : Addr} {od25 an25 : Option Addr} {sl25 : Array (Option Value)} {oc25 kV25 dc25 pm25 cd25 ct25 : Value}
    {f26 : Addr} {od26 an26 : Option Addr} {sl26 : Array (Option Value)} {oc26 kV26 dc26 pm26 cd26 ct26 : Value}
    {f27 : Addr} {od27 an27 : Option Addr} {sl27 : Array (Option Value)} {oc27 kV27 dc27 pm27 cd27 ct27 : Value}
    {f28 : Addr} {od28 an28 : Option Addr} {sl28 : Array (Option Value)} {oc28 kV28 dc28 pm28 cd28 ct28 : Value}
    {f29 : Addr} {od29 an29 : Option Addr} {sl29 : Array (Option Value)} {oc29 kV29 dc29 pm29 cd29 ct29 : Value}
    {f30 : Addr} {od30 an30 : Option Addr} {sl30 : Array (Option Value)} {oc30 kV30 dc30 pm30 cd30 ct30 : Value}
    {f31 : Addr} {od31 an31 : Option Addr} {sl31 : Array (Option Value)} {oc31 kV31 dc31 pm31 cd31 ct31 : Value}
    {f32 : Addr} {od32 an32 : Option Addr} {sl32 : Array (Option Value)} {oc32 kV32 dc32 pm32 cd32 ct32 : Value}
    {f33 : Addr} {od33 an33 : Option Addr} {sl33 : Array (Option Value)} {oc33 kV33 dc33 pm33 cd33 ct33 : Value}
    {f34 : Addr} {od34 an34 : Option Addr} {sl34 : Array (Option Value)} {oc34 kV34 dc34 pm34 cd34 ct34 : Value}
    {f35 : Addr} {od35 an35 : Option Addr} {sl35 : Array (Option Value)} {oc35 kV35 dc35 pm35 cd35 ct35 : Value}
    {f36 : Addr} {od36 an36 : Option Addr} {sl36 : Array (Option Value)} {oc36 kV36 dc36 pm36 ct36 : Value}
    {f37 : Addr} {od37 an37 : Option Addr} {sl37 : Array (Option Value)} {oc37 kV37 dc37 pm37 cd37 ct37 : Value}
    {f38 : Addr} {od38 an38 : Option Addr} {sl38 : Array (Option Value)} {oc38 kV38 dc38 pm38 ct38 : Value}
    {f39 : Addr} {od39 an39 : Option Addr} {sl39 : Array (Option Value)} {oc39 kV39 dc39 pm39 ct39 : Value}
    {f40 : Addr} {od40 an40 : Option Addr} {sl40 : Array (Option Value)} {oc40 kV40 dc40 pm40 cd40 ct40 : Value}
    {c__law_are_words tP__law_are_words : Addr}
    {c__law_is_covered tP__law_is_covered : Addr}
    {c__law_are_many tP__law_are_many : Addr}
    {B0 : Addr} (gB : PySem.W.nsIn K mainGlobals "BookError" = some (some (.ref B0)))
    {C_BadField I_BadField : Addr} (e_BadField : Er.Txt P K mg B0 C_BadField I_BadField "BadField" "thing")
    {C_BadWord I_BadWord : Addr} (e_BadWord : Er.Txt P K mg B0 C_BadWord I_BadWord "BadWord" "thing")
    {C_TooMany I_TooMany : Addr} (e_TooMany : Er.Txt P K mg B0 C_TooMany I_TooMany "TooMany" "most")
    {C_BadStack I_BadStack : Addr} (e_BadStack : Er.Txt P K mg B0 C_BadStack I_BadStack "BadStack" "number")
    {C_Book : Addr} (aC_Book : PySem.W.nsIn K mainGlobals "Book" = some (some (.ref C_Book)))
    (a0 : PySem.W.nsIn K mainGlobals "letter_sum" = some (some (.ref f0))) (l0 : K.lookup f0 = some ⟨oc0, od0, .func (PySem.W.fnOf "letter_sum" "letter_sum" (defArgs s_letter_sum) (defBody s_letter_sum) (defScope s_letter_sum) .none kV0 dc0 pm0 an0 cd0 ct0), sl0⟩) (c0 : PySem.W.codeIn K cd0 "letter_sum" = true) (k0 : PySem.W.keepIn K (.ref f0) = true)
    (a1 : PySem.W.nsIn K mainGlobals "letter_negative" = some (some (.ref f1))) (l1 : K.lookup f1 = some ⟨oc1, od1, .func (PySem.W.fnOf "letter_negative" "letter_negative" (defArgs s_letter_negative) (defBody s_letter_negative) (defScope s_letter_negative) .none kV1 dc1 pm1 an1 cd1 ct1), sl1⟩) (c1 : PySem.W.codeIn K cd1 "letter_negative" = true) (k1 : PySem.W.keepIn K (.ref f1) = true)
    (a2 : PySem.W.nsIn K mainGlobals "letter_times" = some (some (.ref f2))) (l2 : K.lookup f2 = some ⟨oc2, od2, .func (PySem.W.fnOf "letter_times" "letter_times" (defArgs s_letter_times) (defBody s_letter_times) (defScope s_letter_times) .none kV2 dc2 pm2 an2 cd2 ct2), sl2⟩) (c2 : PySem.W.codeIn K cd2 "letter_times" = true) (k2 : PySem.W.keepIn K (.ref f2) = true)
    (a3 : PySem.W.nsIn K mainGlobals "letter_inverse" = some (some (.ref f3))) (l3 : K.lookup f3 = some ⟨oc3, od3, .func (PySem.W.fnOf "letter_inverse" "letter_inverse" (defArgs s_letter_inverse) (defBody s_letter_inverse) (defScope s_letter_inverse) .none kV3 dc3 pm3 an3 cd3 ct3), sl3⟩) (c3 : PySem.W.codeIn K cd3 "letter_inverse" = true) (k3 : PySem.W.keepIn K (.ref f3) = true)
    (a4 : PySem.W.nsIn K mainGlobals "row_sum" = some (some (.ref f4))) (l4 : K.lookup f4 = some ⟨oc4, od4, .func (PySem.W.fnOf "row_sum" "row_sum" (defArgs s_row_sum) (defBody s_row_sum) (defScope s_row_sum) .none kV4 dc4 pm4 an4 cd4 ct4), sl4⟩) (c4 : PySem.W.codeIn K cd4 "row_sum" = true) (k4 : PySem.W.keepIn K (.ref f4) = true)
    (a5 : PySem.W.nsIn K mainGlobals "row_times" = some (some (.ref f5))) (l5 : K.lookup f5 = some ⟨oc5, od5, .func (PySem.W.fnOf "row_times" "row_times" (defArgs s_row_times) (defBody s_row_times) (defScope s_row_times) .none kV5 dc5 pm5 an5 cd5 ct5), sl5⟩) (c5 : PySem.W.codeIn K cd5 "row_times" = true) (k5 : PySem.W.keepIn K (.ref f5) = true)
    (a6 : PySem.W.nsIn K mainGlobals "row_support" = some (some (.ref f6))) (l6 : K.lookup f6 = some ⟨oc6, od6, .func (PySem.W.fnOf "row_support" "row_support" (defArgs s_row_support) (defBody s_row_support) (defScope s_row_support) .none kV6 dc6 pm6 an6 cd6 ct6), sl6⟩) (c6 : PySem.W.codeIn K cd6 "row_support" = true) (k6 : PySem.W.keepIn K (.ref f6) = true)
    (a7 : PySem.W.nsIn K mainGlobals "is_integer" = some (some (.ref f7))) (l7 : K.lookup f7 = some ⟨oc7, od7, .func (PySem.W.fnOf "is_integer" "is_integer" (defArgs s_is_integer) (defBody s_is_integer) (defScope s_is_integer) .none kV7 dc7 pm7 an7 cd7 ct7), sl7⟩) (c7 : PySem.W.codeIn K cd7 "is_integer" = true) (k7 : PySem.W.keepIn K (.ref f7) = true)
    (a8 : PySem.W.nsIn K mainGlobals "is_integer_from" = some (some (.ref f8))) (l8 : K.lookup f8 = some ⟨oc8, od8, .func (PySem.W.fnOf "is_integer_from" "is_integer_from" (defArgs s_is_integer_from) (defBody s_is_integer_from) (defScope s_is_integer_from) .none kV8 dc8 pm8 an8 cd8 ct8), sl8⟩) (c8 : PySem.W.codeIn K cd8 "is_integer_from" = true) (k8 : PySem.W.keepIn K (.ref f8) = true)
    (a9 : PySem.W.nsIn K mainGlobals "are_integers_from" = some (some (.ref f9))) (l9 : K.lookup f9 = some ⟨oc9, od9, .func (PySem.W.fnOf "are_integers_from" "are_integers_from" (defArgs s_are_integers_from) (defBody s_are_integers_from) (defScope s_are_integers_from) .none kV9 dc9 pm9 an9 cd9 ct9), sl9⟩) (c9 : PySem.W.codeIn K cd9 "are_integers_from" = true) (k9 : PySem.W.keepIn K (.ref f9) = true)
    (a10 : PySem.W.nsIn K mainGlobals "are_letters" = some (some (.ref f10))) (l10 : K.lookup f10 = some ⟨oc10, od10, .func (PySem.W.fnOf "are_letters" "are_letters" (defArgs s_are_letters) (defBody s_are_letters) (defScope s_are_letters) .none kV10 dc10 pm10 an10 cd10 ct10), sl10⟩) (c10 : PySem.W.codeIn K cd10 "are_letters" = true) (k10 : PySem.W.keepIn K (.ref f10) = true)
    (a11 : PySem.W.nsIn K mainGlobals "is_row" = some (some (.ref f11))) (l11 : K.lookup f11 = some ⟨oc11, od11, .func (PySem.W.fnOf "is_row" "is_row" (defArgs s_is_row) (defBody s_is_row) (defScope s_is_row) .none kV11 dc11 pm11 an11 cd11 ct11), sl11⟩) (c11 : PySem.W.codeIn K cd11 "is_row" = true) (k11 : PySem.W.keepIn K (.ref f11) = true)
    (a12 : PySem.W.nsIn K mainGlobals "check_field" = some (some (.ref f12))) (l12 : K.lookup f12 = some ⟨oc12, od12, .func (PySem.W.fnOf "check_field" "check_field" (defArgs s_check_field) (defBody s_check_field) (defScope s_check_field) .none kV12 dc12 pm12 an12 cd12 ct12), sl12⟩) (c12 : PySem.W.codeIn K cd12 "check_field" = true) (k12 : PySem.W.keepIn K (.ref f12) = true)
    (a13 : PySem.W.nsIn K mainGlobals "lead_of" = some (some (.ref f13))) (l13 : K.lookup f13 = some ⟨oc13, od13, .func (PySem.W.fnOf "lead_of" "lead_of" (defArgs s_lead_of) (defBody s_lead_of) (defScope s_lead_of) .none kV13 dc13 pm13 an13 cd13 ct13), sl13⟩) (c13 : PySem.W.codeIn K cd13 "lead_of" = true) (k13 : PySem.W.keepIn K (.ref f13) = true)
    (a14 : PySem.W.nsIn K mainGlobals "with_zero_at" = some (some (.ref f14))) (l14 : K.lookup f14 = some ⟨oc14, od14, .func (PySem.W.fnOf "with_zero_at" "with_zero_at" (defArgs s_with_zero_at) (defBody s_with_zero_at) (defScope s_with_zero_at) .none kV14 dc14 pm14 an14 cd14 ct14), sl14⟩) (c14 : PySem.W.codeIn K cd14 "with_zero_at" = true) (k14 : PySem.W.keepIn K (.ref f14) = true)
    (a15 : PySem.W.nsIn K mainGlobals "reduced_rows" = some (some (.ref f15))) (l15 : K.lookup f15 = some ⟨oc15, od15, .func (PySem.W.fnOf "reduced_rows" "reduced_rows" (defArgs s_reduced_rows) (defBody s_reduced_rows) (defScope s_reduced_rows) .none kV15 dc15 pm15 an15 cd15 ct15), sl15⟩) (c15 : PySem.W.codeIn K cd15 "reduced_rows" = true) (k15 : PySem.W.keepIn K (.ref f15) = true)
    (a16 : PySem.W.nsIn K mainGlobals "sum_of_rows" = some (some (.ref f16))) (l16 : K.lookup f16 = some ⟨oc16, od16, .func (PySem.W.fnOf "sum_of_rows" "sum_of_rows" (defArgs s_sum_of_rows) (defBody s_sum_of_rows) (defScope s_sum_of_rows) .none kV16 dc16 pm16 an16 cd16 ct16), sl16⟩) (c16 : PySem.W.codeIn K cd16 "sum_of_rows" = true) (k16 : PySem.W.keepIn K (.ref f16) = true)
    (a17 : PySem.W.findIn K (.ref C_Book) "__init__" = some (some (.ref f17))) (l17 : K.lookup f17 = some ⟨oc17, od17, .func (PySem.W.fnOf "__init__" "Book.__init__" (defArgs s_Book___init__) (defBody s_Book___init__) (defScope s_Book___init__) .none kV17 dc17 pm17 an17 cd17 ct17), sl17⟩) (c17 : PySem.W.codeIn K cd17 "Book.__init__" = true) (k17 : PySem.W.keepIn K (.ref f17) = true)
    (a18 : PySem.W.nsIn K mainGlobals "leads" = some (some (.ref f18))) (l18 : K.lookup f18 = some ⟨oc18, od18, .func (PySem.W.fnOf "leads" "leads" (defArgs s_leads) (defBody s_leads) (defScope s_leads) .none kV18 dc18 pm18 an18 cd18 ct18), sl18⟩) (c18 : PySem.W.codeIn K cd18 "leads" = true) (k18 : PySem.W.keepIn K (.ref f18) = true)
    (a19 : PySem.W.nsIn K mainGlobals "made" = some (some (.ref f19))) (l19 : K.lookup f19 = some ⟨oc19, od19, .func (PySem.W.fnOf "made" "made" (defArgs s_made) (defBody s_made) (defScope s_made) .none kV19 dc19 pm19 an19 cd19 ct19), sl19⟩) (c19 : PySem.W.codeIn K cd19 "made" = true) (k19 : PySem.W.keepIn K (.ref f19) = true)
    (a20 : PySem.W.nsIn K mainGlobals "count_words" = some (some (.ref f20))) (l20 : K.lookup f20 = some ⟨oc20, od20, .func (PySem.W.fnOf "count_words" "count_words" (defArgs s_count_words) (defBody s_count_words) (defScope s_count_words) .none kV20 dc20 pm20 an20 cd20 ct20), sl20⟩) (c20 : PySem.W.codeIn K cd20 "count_words" = true) (k20 : PySem.W.keepIn K (.ref f20) = true)
    (a21 : PySem.W.nsIn K mainGlobals "words" = some (some (.ref f21))) (l21 : K.lookup f21 = some ⟨oc21, od21, .func (PySem.W.fnOf "words" "words" (defArgs s_words) (defBody s_words) (defScope s_words) .none kV21 dc21 pm21 an21 cd21 ct21), sl21⟩) (c21 : PySem.W.codeIn K cd21 "words" = true) (k21 : PySem.W.keepIn K (.ref f21) = true)
    (a22 : PySem.W.nsIn K mainGlobals "amounts_at_leads" = some (some (.ref f22))) (l22 : K.lookup f22 = some ⟨oc22, od22, .func (PySem.W.fnOf "amounts_at_leads" "amounts_at_leads" (defArgs s_amounts_at_leads) (defBody s_amounts_at_leads) (defScope s_amounts_at_leads) .none kV22 dc22 pm22 an22 cd22 ct22), sl22⟩) (c22 : PySem.W.codeIn K cd22 "amounts_at_leads" = true) (k22 : PySem.W.keepIn K (.ref f22) = true)
    (a23 : PySem.W.nsIn K mainGlobals "is_word" = some (some (.ref f23))) (l23 : K.lookup f23 = some ⟨oc23, od23, .func (PySem.W.fnOf "is_word" "is_word" (defArgs s_is_word) (defBody s_is_word) (defScope s_is_word) .none kV23 dc23 pm23 an23 cd23 ct23), sl23⟩) (c23 : PySem.W.codeIn K cd23 "is_word" = true) (k23 : PySem.W.keepIn K (.ref f23) = true)
    (a24 : PySem.W.nsIn K mainGlobals "stack_support" = some (some (.ref f24))) (l24 : K.lookup f24 = some ⟨oc24, od24, .func (PySem.W.fnOf "stack_support" "stack_support" (defArgs s_stack_support) (defBody s_stack_support) (defScope s_stack_support) .none kV24 dc24 pm24 an24 cd24 ct24), sl24⟩) (c24 : PySem.W.codeIn K cd24 "stack_support" = true) (k24 : PySem.W.keepIn K (.ref f24) = true)
    (a25 : PySem.W.nsIn K mainGlobals "_law_deck" = some (some (.ref f25))) (l25 : K.lookup f25 = some ⟨oc25, od25, .func (PySem.W.fnOf "_law_deck" "_law_deck" (defArgs s__law_deck) (defBody s__law_deck) (defScope s__law_deck) .none kV25 dc25 pm25 an25 cd25 ct25), sl25⟩) (c25 : PySem.W.codeIn K cd25 "_law_deck" = true) (k25 : PySem.W.keepIn K (.ref f25) = true)
    (a26 : PySem.W.nsIn K mainGlobals "_law_draw" = some (some (.ref f26))) (l26 : K.lookup f26 = some ⟨oc26, od26, .func (PySem.W.fnOf "_law_draw" "_law_draw" (defArgs s__law_draw) (defBody s__law_draw) (defScope s__law_draw) .none kV26 dc26 pm26 an26 cd26 ct26), sl26⟩) (c26 : PySem.W.codeIn K cd26 "_law_draw" = true) (k26 : PySem.W.keepIn K (.ref f26) = true)
    (a27 : PySem.W.nsIn K mainGlobals "_law_pick" = some (some (.ref f27))) (l27 : K.lookup f27 = some ⟨oc27, od27, .func (PySem.W.fnOf "_law_pick" "_law_pick" (defArgs s__law_pick) (defBody s__law_pick) (defScope s__law_pick) .none kV27 dc27 pm27 an27 cd27 ct27), sl27⟩) (c27 : PySem.W.codeIn K cd27 "_law_pick" = true) (k27 : PySem.W.keepIn K (.ref f27) = true)
    (a28 : PySem.W.nsIn K mainGlobals "_law_any" = some (some (.ref f28))) (l28 : K.lookup f28 = some ⟨oc28, od28, .func (PySem.W.fnOf "_law_any" "_law_any" (defArgs s__law_any) (defBody s__law_any) (defScope s__law_any) .none kV28 dc28 pm28 an28 cd28 ct28), sl28⟩) (c28 : PySem.W.codeIn K cd28 "_law_any" = true) (k28 : PySem.W.keepIn K (.ref f28) = true)
    (a29 : PySem.W.nsIn K mainGlobals "_law_by" = some (some (.ref f29))) (l29 : K.lookup f29 = some ⟨oc29, od29, .func (PySem.W.fnOf "_law_by" "_law_by" (defArgs s__law_by) (defBody s__law_by) (defScope s__law_by) .none kV29 dc29 pm29 an29 cd29 ct29), sl29⟩) (c29 : PySem.W.codeIn K cd29 "_law_by" = true) (k29 : PySem.W.keepIn K (.ref f29) = true)
    (a30 : PySem.W.nsIn K mainGlobals "_law_plus" = some (some (.ref f30))) (l30 : K.lookup f30 = some ⟨oc30, od30, .func (PySem.W.fnOf "_law_plus" "_law_plus" (defArgs s__law_plus) (defBody s__law_plus) (defScope s__law_plus) .none kV30 dc30 pm30 an30 cd30 ct30), sl30⟩) (c30 : PySem.W.codeIn K cd30 "_law_plus" = true) (k30 : PySem.W.keepIn K (.ref f30) = true)
    (a31 : PySem.W.nsIn K mainGlobals "_law_drawn" = some (some (.ref f31))) (l31 : K.lookup f31 = some ⟨oc31, od31, .func (PySem.W.fnOf "_law_drawn" "_law_drawn" (defArgs s__law_drawn) (defBody s__law_drawn) (defScope s__law_drawn) .none kV31 dc31 pm31 an31 cd31 ct31), sl31⟩) (c31 : PySem.W.codeIn K cd31 "_law_drawn" = true) (k31 : PySem.W.keepIn K (.ref f31) = true)
    (a32 : PySem.W.nsIn K mainGlobals "_law_sum" = some (some (.ref f32))) (l32 : K.lookup f32 = some ⟨oc32, od32, .func (PySem.W.fnOf "_law_sum" "_law_sum" (defArgs s__law_sum) (defBody s__law_sum) (defScope s__law_sum) .none kV32 dc32 pm32 an32 cd32 ct32), sl32⟩) (c32 : PySem.W.codeIn K cd32 "_law_sum" = true) (k32 : PySem.W.keepIn K (.ref f32) = true)
    (a33 : PySem.W.nsIn K mainGlobals "_law_is_word" = some (some (.ref f33))) (l33 : K.lookup f33 = some ⟨oc33, od33, .func (PySem.W.fnOf "_law_is_word" "_law_is_word" (defArgs s__law_is_word) (defBody s__law_is_word) (defScope s__law_is_word) .none kV33 dc33 pm33 an33 cd33 ct33), sl33⟩) (c33 : PySem.W.codeIn K cd33 "_law_is_word" = true) (k33 : PySem.W.keepIn K (.ref f33) = true)
    (a34 : PySem.W.nsIn K mainGlobals "_law_listed" = some (some (.ref f34))) (l34 : K.lookup f34 = some ⟨oc34, od34, .func (PySem.W.fnOf "_law_listed" "_law_listed" (defArgs s__law_listed) (defBody s__law_listed) (defScope s__law_listed) .none kV34 dc34 pm34 an34 cd34 ct34), sl34⟩) (c34 : PySem.W.codeIn K cd34 "_law_listed" = true) (k34 : PySem.W.keepIn K (.ref f34) = true)
    (a35 : PySem.W.nsIn K mainGlobals "_law_told" = some (some (.ref f35))) (l35 : K.lookup f35 = some ⟨oc35, od35, .func (PySem.W.fnOf "_law_told" "_law_told" (defArgs s__law_told) (defBody s__law_told) (defScope s__law_told) .none kV35 dc35 pm35 an35 cd35 ct35), sl35⟩) (c35 : PySem.W.codeIn K cd35 "_law_told" = true) (k35 : PySem.W.keepIn K (.ref f35) = true)
    (a36 : PySem.W.nsIn K mainGlobals "_law_are_words" = some (some (.ref f36))) (l36 : K.lookup f36 = some ⟨oc36, od36, .func (PySem.W.fnOf "_law_are_words" "_law_are_words" (defArgs s__law_are_words) (defBody s__law_are_words) (defScope s__law_are_words) .none kV36 dc36 pm36 an36 (.ref c__law_are_words) ct36), sl36⟩) (c36 : PySem.W.codeIn K (.ref c__law_are_words) "_law_are_words" = true) (k36 : PySem.W.keepIn K (.ref f36) = true) {occ__law_are_words : Value} {ocd__law_are_words : Option Addr} {vsc__law_are_words : Array Value} {ocs__law_are_words : Array (Option Value)} (lc__law_are_words : K.lookup c__law_are_words = some ⟨occ__law_are_words, ocd__law_are_words, .fields vsc__law_are_words, ocs__law_are_words⟩) (vp__law_are_words : (vsc__law_are_words[11]? : Option Value) = some (.ref tP__law_are_words)) (rc__law_are_words : ((recsOf q).find? (fun e => e.name == ("_law_are_words" : Str))).isSome = true)
    (a37 : PySem.W.nsIn K mainGlobals "_law_stack" = some (some (.ref f37))) (l37 : K.lookup f37 = some ⟨oc37, od37, .func (PySem.W.fnOf "_law_stack" "_law_stack" (defArgs s__law_stack) (defBody s__law_stack) (defScope s__law_stack) .none kV37 dc37 pm37 an37 cd37 ct37), sl37⟩) (c37 : PySem.W.codeIn K cd37 "_law_stack" = true) (k37 : PySem.W.keepIn K (.ref f37) = true)
    (a38 : PySem.W.nsIn K mainGlobals "_law_is_covered" = some (some (.ref f38))) (l38 : K.lookup f38 = some ⟨oc38, od38, .func (PySem.W.fnOf "_law_is_covered" "_law_is_covered" (defArgs s__law_is_covered) (defBody s__law_is_covered) (defScope s__law_is_covered) .none kV38 dc38 pm38 an38 (.ref c__law_is_covered) ct38), sl38⟩) (c38 : PySem.W.codeIn K (.ref c__law_is_covered) "_law_is_covered" = true) (k38 : PySem.W.keepIn K (.ref f38) = true) {occ__law_is_covered : Value} {ocd__law_is_covered : Option Addr} {vsc__law_is_covered : Array Value} {ocs__law_is_covered : Array (Option Value)} (lc__law_is_covered : K.lookup c__law_is_covered = some ⟨occ__law_is_covered, ocd__law_is_covered, .fields vsc__law_is_covered, ocs__law_is_covered⟩) (vp__law_is_covered : (vsc__law_is_covered[11]? : Option Value) = some (.ref tP__law_is_covered)) (rc__law_is_covered : ((recsOf q).find? (fun e => e.name == ("_law_is_covered" : Str))).isSome = true)
    (a39 : PySem.W.nsIn K mainGlobals "_law_are_many" = some (some (.ref f39))) (l39 : K.lookup f39 = some ⟨oc39, od39, .func (PySem.W.fnOf "_law_are_many" "_law_are_many" (defArgs s__law_are_many) (defBody s__law_are_many) (defScope s__law_are_many) .none kV39 dc39 pm39 an39 (.ref c__law_are_many) ct39), sl39⟩) (c39 : PySem.W.codeIn K (.ref c__law_are_many) "_law_are_many" = true) (k39 : PySem.W.keepIn K (.ref f39) = true) {occ__law_are_many : Value} {ocd__law_are_many : Option Addr} {vsc__law_are_many : Array Value} {ocs__law_are_many : Array (Option Value)} (lc__law_are_many : K.lookup c__law_are_many = some ⟨occ__law_are_many, ocd__law_are_many, .fields vsc__law_are_many, ocs__law_are_many⟩) (vp__law_are_many : (vsc__law_are_many[11]? : Option Value) = some (.ref tP__law_are_many)) (rc__law_are_many : ((recsOf q).find? (fun e => e.name == ("_law_are_many" : Str))).isSome = true)
    (a40 : PySem.W.nsIn K mainGlobals "law" = some (some (.ref f40))) (l40 : K.lookup f40 = some ⟨oc40, od40, .func (PySem.W.fnOf "law" "law" (defArgs s_law) (defBody s_law) (defScope s_law) .none kV40 dc40 pm40 an40 cd40 ct40), sl40⟩) (c40 : PySem.W.codeIn K cd40 "law" = true) (k40 : PySem.W.keepIn K (.ref f40) = true)
    (pg_Book : PySem.W.plainGet K C_Book Str.empty = true) (hd_Book : PySem.W.hasDictIn K C_Book = true) (po_Book : PySem.W.plainOver K C_Book = true) (sa_Book : PySem.W.findIn K (.ref C_Book) "__setattr__" = some (some (.builtin "object.__setattr__")))
    (ma_Book : PySem.W.makesIn K C_Book = true) (kp_Book : PySem.W.keepIn K (.ref C_Book) = true) (fn_Book : PySem.W.isFn K (.ref f17) = true)
    (ha_Book : PySem.W.findIn K (.ref C_Book) "__class__" = some (some (.builtin "object.__class__"))) (hn_Book : PySem.W.specialIn K (.builtin "object.__class__") "__get__" = some (some (.builtin "getset_descriptor.__get__"))) (ht_Book : PySem.W.takesIn K (.builtin "object.__class__") = some true) (hm_Book : PySem.W.mroIn K C_Book (.type "object") = some true) (nt_Book : PySem.W.subIn K (.ref C_Book) (.type "tuple") = some false) (ni_Book : PySem.W.subIn K (.ref C_Book) (.type "int") = some false)
    (no_Book_q : PySem.W.findIn K (.ref C_Book) "q" = some none)
    (no_Book_n : PySem.W.findIn K (.ref C_Book) "n" = some none)
    (no_Book_rows : PySem.W.findIn K (.ref C_Book) "rows" = some none)
    (no_Book_dimension : PySem.W.findIn K (.ref C_Book) "dimension" = some none)
    {t_MOST_PLACES : Tok} (m_MOST_PLACES : PySem.W.nsIn K mainGlobals "MOST_PLACES" = some (some (.int 8 t_MOST_PLACES)))
    {t_MOST_ROWS : Tok} (m_MOST_ROWS : PySem.W.nsIn K mainGlobals "MOST_ROWS" = some (some (.int 16 t_MOST_ROWS)))
    {tk_words : Tok} (pk_words : ∀ (S : Setting) (u : Value), PySem.W.peek K S (bindArgs (PySem.W.fnOf "words" "words" (defArgs s_words) (defBody s_words) (defScope s_words) .none kV21 dc21 pm21 an21 cd21 ct21) ⟨[u], []⟩) = some [(("book" : Str), u), (("most" : Str), .int 4096 tk_words)]) (pkb_words : ∀ (S : Setting) (u : Value), PySem.W.peek K S (bindArgs (PySem.W.fnOf "words" "words" (defArgs s_words) (defBody s_words) (defScope s_words) .none kV21 dc21 pm21 an21 cd21 ct21) ⟨[], [(("book" : Str), u)]⟩) = some [(("book" : Str), u), (("most" : Str), .int 4096 tk_words)])
    {t_four : Addr} (aF : PySem.W.nsIn K mainGlobals "FOUR_TIMES" = some (some (.ref t_four))) (fF : FourTab K t_four)
    (x_st : PySem.W.subIn K (.ref C_BadStack) (.ref C_TooMany) = some false)
    (tnd : [tP__law_are_words, tP__law_is_covered, tP__law_are_many].Nodup)
    (z_all : PySem.W.nsIn K mainGlobals "all" = some none)
    (z_any : PySem.W.nsIn K mainGlobals "any" = some none)
    (z_bool : PySem.W.nsIn K mainGlobals "bool" = some none)
    (z_enumerate : PySem.W.nsIn K mainGlobals "enumerate" = some none)
    (z_int : PySem.W.nsIn K mainGlobals "int" = some none)
    (z_isinstance : PySem.W.nsIn K mainGlobals "isinstance" = some none)
    (z_len : PySem.W.nsIn K mainGlobals "len" = some none)
    (z_list : PySem.W.nsIn K mainGlobals "list" = some none)
    (z_max : PySem.W.nsIn K mainGlobals "max" = some none)
    (z_range : PySem.W.nsIn K mainGlobals "range" = some none)
    (z_repr : PySem.W.nsIn K mainGlobals "repr" = some none)
    (z_sorted : PySem.W.nsIn K mainGlobals "sorted" = some none)
    (z_tuple : PySem.W.nsIn K mainGlobals "tuple" = some none)
    (z_zip : PySem.W.nsIn K mainGlobals "zip" = some none) :
    ∃ (fd : FuncData) (tabs : List Tb), (∀ t ∈ tabs, TabAt h t) ∧ PySem.W.noTabs K = true ∧ (∀ (s : Shared) (v : Value), BindsTo s fd ⟨[v], []⟩ [("_law_script", v)]) ∧ ∀ base : Heap, K.In base → base.Ns mainGlobals mg → SM base → (∀ t ∈ tabs, TabB base mg t.1 t.2.1) → FnG P w K mg base 12 fa fd ["_law_script"] (spLaw K (tbs tabs)) := by
  obtain rfl : f40 = fa := PySem.Value.ref.inj (Option.some.inj ((PySem.W.mg_of X G a40).symm.trans hfa))
  have F0 := fun_mk (st := s_letter_sum) l0 c0 k0
  have F1 := fun_mk (st := s_letter_negative) l1 c1 k1
  have F2 := fun_mk (st := s_letter_times) l2 c2 k2
  have F3 := fun_mk (st := s_letter_inverse) l3 c3 k3
  have F4 := fun_mk (st := s_row_sum) l4 c4 k4
  have F5 := fun_mk (st := s_row_times) l5 c5 k5
  have F6 := fun_mk (st := s_row_support) l6 c6 k6
  have F7 := fun_mk (st := s_is_integer) l7 c7 k7
  have F8 := fun_mk (st := s_is_integer_from) l8 c8 k8
  have F9 := fun_mk (st := s_are_integers_from) l9 c9 k9
  have F10 := fun_mk (st := s_are_letters) l10 c10 k10
  have F11 := fun_mk (st := s_is_row) l11 c11 k11
  have F12 := fun_mk (st := s_check_field) l12 c12 k12
  have F13 := fun_mk (st := s_lead_of) l13 c13 k13
  have F14 := fun_mk (st := s_with_zero_at) l14 c14 k14
  have F15 := fun_mk (st := s_reduced_rows) l15 c15 k15
  have F16 := fun_mk (st := s_sum_of_rows) l16 c16 k16
  have F17 := fun_mk (st := s_Book___init__) l17 c17 k17
  have F18 := fun_mk (st := s_leads) l18 c18 k18
  have F19 := fun_mk (st := s_made) l19 c19 k19
  have F20 := fun_mk (st := s_count_words) l20 c20 k20
  have F21 := fun_mk (st := s_words) l21 c21 k21
  have F22 := fun_mk (st := s_amounts_at_leads) l22 c22 k22
  have F23 := fun_mk (st := s_is_word) l23 c23 k23
  have F24 := fun_mk (st := s_stack_support) l24 c24 k24
  have F25 := fun_mk (st := s__law_deck) l25 c25 k25
  have F26 := fun_mk (st := s__law_draw) l26 c26 k26
  have F27 := fun_mk (st := s__law_pick) l27 c27 k27
  have F28 := fun_mk (st := s__law_any) l28 c28 k28
  have F29 := fun_mk (st := s__law_by) l29 c29 k29
  have F30 := fun_mk (st := s__law_plus) l30 c30 k30
  have F31 := fun_mk (st := s__law_drawn) l31 c31 k31
  have F32 := fun_mk (st := s__law_sum) l32 c32 k32
  have F33 := fun_mk (st := s__law_is_word) l33 c33 k33
  have F34 := fun_mk (st := s__law_listed) l34 c34 k34
  have F35 := fun_mk (st := s__law_told) l35 c35 k35
  have F36 := funL_mk (st := s__law_are_words) l36 c36 k36
  have F37 := fun_mk (st := s__law_stack) l37 c37 k37
  have F38 := funL_mk (st := s__law_is_covered) l38 c38 k38
  have F39 := funL_mk (st := s__law_are_many) l39 c39 k39
  have F40 := fun_mk (st := s_law) l40 c40 k40
  let T : Txt K mg := {
    a_letter_sum := f0, d_letter_sum := _, F_letter_sum := F0, m_letter_sum := PySem.W.mg_of X G a0,
    b_letter_sum := F0.binds (ps := P_letter_sum) fun _ _ _ _ _ _ us hl => match us, hl with | [_, _, _], _ => rfl,
    a_letter_negative := f1, d_letter_negative := _, F_letter_negative := F1, m_letter_negative := PySem.W.mg_of X G a1,
    b_letter_negative := F1.binds (ps := P_letter_negative) fun _ _ _ _ _ _ us hl => match us, hl with | [_, _], _ => rfl,
    a_letter_times := f2, d_letter_times := _, F_letter_times := F2, m_letter_times := PySem.W.mg_of X G a2,
    b_letter_times := F2.binds (ps := P_letter_times) fun _ _ _ _ _ _ us hl => match us, hl with | [_, _, _], _ => rfl,
    a_letter_inverse := f3, d_letter_inverse := _, F_letter_inverse := F3, m_letter_inverse := PySem.W.mg_of X G a3,
    b_letter_inverse := F3.binds (ps := P_letter_inverse) fun _ _ _ _ _ _ us hl => match us, hl with | [_, _], _ => rfl,
    a_row_sum := f4, d_row_sum := _, F_row_sum := F4, m_row_sum := PySem.W.mg_of X G a4,
    b_row_sum := F4.binds (ps := P_row_sum) fun _ _ _ _ _ _ us hl => match us, hl with | [_, _, _], _ => rfl,
    a_row_times := f5, d_row_times := _, F_row_times := F5, m_row_times := PySem.W.mg_of X G a5,
    b_row_times := F5.binds (ps := P_row_times) fun _ _ _ _ _ _ us hl => match us, hl with | [_, _, _], _ => rfl,
    a_row_support := f6, d_row_support := _, F_row_support := F6, m_row_support := PySem.W.mg_of X G a6,
    b_row_support := F6.binds (ps := P_row_support) fun _ _ _ _ _ _ us hl => match us, hl with | [_], _ => rfl,
    a_is_integer := f7, d_is_integer := _, F_is_integer := F7, m_is_integer := PySem.W.mg_of X G a7,
    b_is_integer := F7.binds (ps := P_is_integer) fun _ _ _ _ _ _ us hl => match us, hl with | [_], _ => rfl,
    a_is_integer_from := f8, d_is_integer_from := _, F_is_integer_from := F8, m_is_integer_from := PySem.W.mg_of X G a8,
    b_is_integer_from := F8.binds (ps := P_is_integer_from) fun _ _ _ _ _ _ us hl => match us, hl with | [_, _, _], _ => rfl,
    a_are_integers_from := f9, d_are_integers_from := _, F_are_integers_from := F9, m_are_integers_from := PySem.W.mg_of X G a9,
    b_are_integers_from := F9.binds (ps := P_are_integers_from) fun _ _ _ _ _ _ us hl => match us, hl with | [_, _, _], _ => rfl,
    a_are_letters := f10, d_are_letters := _, F_are_letters := F10, m_are_letters := PySem.W.mg_of X G a10,
    b_are_letters := F10.binds (ps := P_are_letters) fun _ _ _ _ _ _ us hl => match us, hl with | [_, _], _ => rfl,
    a_is_row := f11, d_is_row := _, F_is_row := F11, m_is_row := PySem.W.mg_of X G a11,
    b_is_row := F11.binds (ps := P_is_row) fun _ _ _ _ _ _ us hl => match us, hl with | [_, _, _], _ => rfl,
    a_check_field := f12, d_check_field := _, F_check_field := F12, m_check_field := PySem.W.mg_of X G a12,
    b_check_field := F12.binds (ps := P_check_field) fun _ _ _ _ _ _ us hl => match us, hl with | [_], _ => rfl,
    a_lead_of := f13, d_lead_of := _, F_lead_of := F13, m_lead_of := PySem.W.mg_of X G a13,
    b_lead_of := F13.binds (ps := P_lead_of) fun _ _ _ _ _ _ us hl => match us, hl with | [_], _ => rfl,
    a_with_zero_at := f14, d_with_zero_at := _, F_with_zero_at := F14, m_with_zero_at := PySem.W.mg_of X G a14,
    b_with_zero_at := F14.binds (ps := P_with_zero_at) fun _ _ _ _ _ _ us hl => match us, hl with | [_, _, _, _], _ => rfl,
    a_reduced_rows := f15, d_reduced_rows := _, F_reduced_rows := F15, m_reduced_rows := PySem.W.mg_of X G a15,
    b_reduced_rows := F15.binds (ps := P_reduced_rows) fun _ _ _ _ _ _ us hl => match us, hl with | [_, _, _], _ => rfl,
    a_sum_of_rows := f16, d_sum_of_rows := _, F_sum_of_rows := F16, m_sum_of_rows := PySem.W.mg_of X G a16,
    b_sum_of_rows := F16.binds (ps := P_sum_of_rows) fun _ _ _ _ _ _ us hl => match us, hl with | [_, _, _, _], _ => rfl,
    a_Book___init__ := f17, d_Book___init__ := _, F_Book___init__ := F17,
    b_Book___init__ := F17.binds (ps := P_Book___init__) fun _ _ _ _ _ _ us hl => match us, hl with | [_, _, _, _], _ => rfl,
    a_leads := f18, d_leads := _, F_leads := F18, m_leads := PySem.W.mg_of X G a18,
    b_leads := F18.binds (ps := P_leads) fun _ _ _ _ _ _ us hl => match us, hl with | [_], _ => rfl,
    a_made := f19, d_made := _, F_made := F19, m_made := PySem.W.mg_of X G a19,
    b_made := F19.binds (ps := P_made) fun _ _ _ _ _ _ us hl => match us, hl with | [_, _], _ => rfl,
    a_count_words := f20, d_count_words := _, F_count_words := F20, m_count_words := PySem.W.mg_of X G a20,
    b_count_words := F20.binds (ps := P_count_words) fun _ _ _ _ _ _ us hl => match us, hl with | [_], _ => rfl,
    a_words := f21, d_words := _, F_words := F21, m_words := PySem.W.mg_of X G a21,
    b_words := b_def pk_words, tk_words := tk_words,
    q_words_book := kb_def ⟨_, rfl⟩ pkb_words,
    q_words_most := kb_p1k1 fun _ _ => rfl,
    q_words_most_book := kb2s fun _ _ => rfl,
    a_amounts_at_leads := f22, d_amounts_at_leads := _, F_amounts_at_leads := F22, m_amounts_at_leads := PySem.W.mg_of X G a22,
    b_amounts_at_leads := F22.binds (ps := P_amounts_at_leads) fun _ _ _ _ _ _ us hl => match us, hl with | [_, _], _ => rfl,
    a_is_word := f23, d_is_word := _, F_is_word := F23, m_is_word := PySem.W.mg_of X G a23,
    b_is_word := F23.binds (ps := P_is_word) fun _ _ _ _ _ _ us hl => match us, hl with | [_, _], _ => rfl,
    a_stack_support := f24, d_stack_support := _, F_stack_support := F24, m_stack_support := PySem.W.mg_of X G a24,
    b_stack_support := F24.binds (ps := P_stack_support) fun _ _ _ _ _ _ us hl => match us, hl with | [_, _], _ => rfl,
    q_stack_support_stack_book := kb2s fun _ _ => rfl,
    a__law_deck := f25, d__law_deck := _, F__law_deck := F25, m__law_deck := PySem.W.mg_of X G a25,
    b__law_deck := F25.binds (ps := P__law_deck) fun _ _ _ _ _ _ us hl => match us, hl with | [_], _ => rfl,
    a__law_draw := f26, d__law_draw := _, F__law_draw := F26, m__law_draw := PySem.W.mg_of X G a26,
    b__law_draw := F26.binds (ps := P__law_draw) fun _ _ _ _ _ _ us hl => match us, hl with | [_, _], _ => rfl,
    a__law_pick := f27, d__law_pick := _, F__law_pick := F27, m__law_pick := PySem.W.mg_of X G a27,
    b__law_pick := F27.binds (ps := P__law_pick) fun _ _ _ _ _ _ us hl => match us, hl with | [_, _], _ => rfl,
    a__law_any := f28, d__law_any := _, F__law_any := F28, m__law_any := PySem.W.mg_of X G a28,
    b__law_any := F28.binds (ps := P__law_any) fun _ _ _ _ _ _ us hl => match us, hl with | [_, _], _ => rfl,
    a__law_by := f29, d__law_by := _, F__law_by := F29, m__law_by := PySem.W.mg_of X G a29,
    b__law_by := F29.binds (ps := P__law_by) fun _ _ _ _ _ _ us hl => match us, hl with | [_, _, _], _ => rfl,
    a__law_plus := f30, d__law_plus := _, F__law_plus := F30, m__law_plus := PySem.W.mg_of X G a30,
    b__law_plus := F30.binds (ps := P__law_plus) fun _ _ _ _ _ _ us hl => match us, hl with | [_, _, _], _ => rfl,
    a__law_drawn := f31, d__law_drawn := _, F__law_drawn := F31, m__law_drawn := PySem.W.mg_of X G a31,
    b__law_drawn := F31.binds (ps := P__law_drawn) fun _ _ _ _ _ _ us hl => match us, hl with | [_, _, _], _ => rfl,
    a__law_sum := f32, d__law_sum := _, F__law_sum := F32, m__law_sum := PySem.W.mg_of X G a32,
    b__law_sum := F32.binds (ps := P__law_sum) fun _ _ _ _ _ _ us hl => match us, hl with | [_, _, _, _], _ => rfl,
    a__law_is_word := f33, d__law_is_word := _, F__law_is_word := F33, m__law_is_word := PySem.W.mg_of X G a33,
    b__law_is_word := F33.binds (ps := P__law_is_word) fun _ _ _ _ _ _ us hl => match us, hl with | [_, _, _, _], _ => rfl,
    a__law_listed := f34, d__law_listed := _, F__law_listed := F34, m__law_listed := PySem.W.mg_of X G a34,
    b__law_listed := F34.binds (ps := P__law_listed) fun _ _ _ _ _ _ us hl => match us, hl with | [_, _, _], _ => rfl,
    a__law_told := f35, d__law_told := _, F__law_told := F35, m__law_told := PySem.W.mg_of X G a35,
    b__law_told := F35.binds (ps := P__law_told) fun _ _ _ _ _ _ us hl => match us, hl with | [_], _ => rfl,
    c__law_are_words := c__law_are_words, tP__law_are_words := tP__law_are_words,
    a__law_are_words := f36, d__law_are_words := _, F__law_are_words := F36, m__law_are_words := PySem.W.mg_of X G a36,
    b__law_are_words := F36.bindsL (ps := P__law_are_words) fun _ _ _ _ _ _ us hl => match us, hl with | [_, _, _, _, _], _ => rfl,
    a__law_stack := f37, d__law_stack := _, F__law_stack := F37, m__law_stack := PySem.W.mg_of X G a37,
    b__law_stack := F37.binds (ps := P__law_stack) fun _ _ _ _ _ _ us hl => match us, hl with | [_, _, _, _], _ => rfl,
    c__law_is_covered := c__law_is_covered, tP__law_is_covered := tP__law_is_covered,
    a__law_is_covered := f38, d__law_is_covered := _, F__law_is_covered := F38, m__law_is_covered := PySem.W.mg_of X G a38,
    b__law_is_covered := F38.bindsL (ps := P__law_is_covered) fun _ _ _ _ _ _ us hl => match us, hl with | [_, _, _, _, _], _ => rfl,
    c__law_are_many := c__law_are_many, tP__law_are_many := tP__law_are_many,
    a__law_are_many := f39, d__law_are_many := _, F__law_are_many := F39, m__law_are_many := PySem.W.mg_of X G a39,
    b__law_are_many := F39.bindsL (ps := P__law_are_many) fun _ _ _ _ _ _ us hl => match us, hl with | [_], _ => rfl,
    a_law := f40, d_law := _, F_law := F40, m_law := PySem.W.mg_of X G a40,
    b_law := F40.binds (ps := P_law) fun _ _ _ _ _ _ us hl => match us, hl with | [_], _ => rfl,
    B0 := B0, gB := PySem.W.mg_of X G gB,
    C_BadField := C_BadField, I_BadField := I_BadField, e_BadField := e_BadField,
    C_BadWord := C_BadWord, I_BadWord := I_BadWord, e_BadWord := e_BadWord,
    C_TooMany := C_TooMany, I_TooMany := I_TooMany, e_TooMany := e_TooMany,
    C_BadStack := C_BadStack, I_BadStack := I_BadStack, e_BadStack := e_BadStack,
    C_Book := C_Book, g_Book := PySem.W.mg_of X G aC_Book, cl_Book := ⟨pg_Book, hd_Book, po_Book, sa_Book⟩, mk_Book := ⟨ma_Book, a17, fn_Book, kp_Book⟩, is_Book := ⟨ha_Book, hn_Book, ht_Book, hm_Book, kit_sub (by decide +kernel) nt_Book, kit_sub (by decide +kernel) ni_Book⟩,
    no_Book_q := no_Book_q,
    no_Book_n := no_Book_n,
    no_Book_rows := no_Book_rows,
    no_Book_dimension := no_Book_dimension,
    t_MOST_PLACES := t_MOST_PLACES, m_MOST_PLACES := PySem.W.mg_of X G m_MOST_PLACES,
    t_MOST_ROWS := t_MOST_ROWS, m_MOST_ROWS := PySem.W.mg_of X G m_MOST_ROWS,
    t_four := t_four, m_four := PySem.W.mg_of X G aF, four := fF,
    x_st := x_st,
    tnd := tnd,
    m_all := PySem.W.mg_none_of X G z_all,
    m_any := PySem.W.mg_none_of X G z_any,
    m_bool := PySem.W.mg_none_of X G z_bool,
    m_enumerate := PySem.W.mg_none_of X G z_enumerate,
    m_int := PySem.W.mg_none_of X G z_int,
    m_isinstance := PySem.W.mg_none_of X G z_isinstance,
    m_len := PySem.W.mg_none_of X G z_len,
    m_list := PySem.W.mg_none_of X G z_list,
    m_max := PySem.W.mg_none_of X G z_max,
    m_range := PySem.W.mg_none_of X G z_range,
    m_repr := PySem.W.mg_none_of X G z_repr,
    m_sorted := PySem.W.mg_none_of X G z_sorted,
    m_tuple := PySem.W.mg_none_of X G z_tuple,
    m_zip := PySem.W.mg_none_of X G z_zip }
  obtain ⟨r__law_are_words, hr__law_are_words⟩ := Option.isSome_iff_exists.mp rc__law_are_words
  have ta__law_are_words := tq _ _ _ _ hr__law_are_words (tabIn_of a36 l36 rfl lc__law_are_words vp__law_are_words)
  obtain ⟨r__law_is_covered, hr__law_is_covered⟩ := Option.isSome_iff_exists.mp rc__law_is_covered
  have ta__law_is_covered := tq _ _ _ _ hr__law_is_covered (tabIn_of a38 l38 rfl lc__law_is_covered vp__law_is_covered)
  obtain ⟨r__law_are_many, hr__law_are_many⟩ := Option.isSome_iff_exists.mp rc__law_are_many
  have ta__law_are_many := tq _ _ _ _ hr__law_are_many (tabIn_of a39 l39 rfl lc__law_are_many vp__law_are_many)
  exact ⟨_, [(c__law_are_words, tP__law_are_words, qL__law_are_words), (c__law_is_covered, tP__law_is_covered, qL__law_is_covered), (c__law_are_many, tP__law_are_many, qL__law_are_many)], fun t ht => ((List.mem_cons.mp ht).elim (fun e => by rw [e]; exact ⟨ta__law_are_words.1, ta__law_are_words.2⟩) fun ht => ((List.mem_cons.mp ht).elim (fun e => by rw [e]; exact ⟨ta__law_is_covered.1, ta__law_is_covered.2⟩) fun ht => ((List.mem_cons.mp ht).elim (fun e => by rw [e]; exact ⟨ta__law_are_many.1, ta__law_are_many.2⟩) fun ht => (nomatch ht)))), nK, fun s v => .of_eq rfl, fun base _ _ sm hTB => ok_law T sm (hTB _ (.head _)) (hTB _ (.tail _ (.head _))) (hTB _ (.tail _ (.tail _ (.head _))))⟩
end K11
end
section
set_option maxRecDepth 100000
open PySem PySem.W PyProof.Rows in
set_option maxRecDepth 100000 in
set_option maxHeartbeats 0 in
theorem PySem.Challenge.cw_mirrorbook_k11_all_words_and_stacks_holds : PySem.Challenge.rw_mirrorbook_k11_all_words_and_stacks.Holds := by
  w_on; o_law; k_head; (case hw => w_witness2)
  k_fill
  refine MB.walkT (l := PySem.Challenge.rw_mirrorbook_k11_all_words_and_stacks) (n := 63) (k := 12) (x := "_law_script") (sp := K11.spLaw) rfl (by decide) rfl (by decide +kernel) ⟨rfl, by decide, by decide⟩ (fun w h Y => PySem.W.km_in_of Y) ?F ?S
  case S =>
    exact fun K H a ns _ hl hT hS => ⟨a, ns, rfl, hS, hl, hT, fun _ => rfl⟩
  case F =>
    intro w mg fa h KX G tq hmg
    refine' K11.all_mk KX G hmg tq ?nK ?gB ?e_BadField ?e_BadWord ?e_TooMany ?e_BadStack ?aC_Book ?a0 ?l0 ?c0 ?k0 ?a1 ?l1 ?c1 ?k1 ?a2 ?l2 ?c2 ?k2 ?a3 ?l3 ?c3 ?k3 ?a4 ?l4 ?c4 ?k4 ?a5 ?l5 ?c5 ?k5 ?a6 ?l6 ?c6 ?k6 ?a7 ?l7 ?c7 ?k7 ?a8 ?l8 ?c8 ?k8 ?a9 ?l9 ?c9 ?k9 ?a10 ?l10 ?c10 ?k10 ?a11 ?l11 ?c11 ?k11 ?a12 ?l12 ?c12 ?k12 ?a13 ?l13 ?c13 ?k13 ?a14 ?l14 ?c14 ?k14 ?a15 ?l15 ?c15 ?k15 ?a16 ?l16 ?c16 ?k16 ?a17 ?l17 ?c17 ?k17 ?a18 ?l18 ?c18 ?k18 ?a19 ?l19 ?c19 ?k19 ?a20 ?l20 ?c20 ?k20 ?a21 ?l21 ?c21 ?k21 ?a22 ?l22 ?c22 ?k22 ?a23 ?l23 ?c23 ?k23 ?a24 ?l24 ?c24 ?k24 ?a25 ?l25 ?c25 ?k25 ?a26 ?l26 ?c26 ?k26 ?a27 ?l27 ?c27 ?k27 ?a28 ?l28 ?c28 ?k28 ?a29 ?l29 ?c29 ?k29 ?a30 ?l30 ?c30 ?k30 ?a31 ?l31 ?c31 ?k31 ?a32 ?l32 ?c32 ?k32 ?a33 ?l33 ?c33 ?k33 ?a34 ?l34 ?c34 ?k34 ?a35 ?l35 ?c35 ?k35 ?a36 ?l36 ?c36 ?k36 ?lc__law_are_words ?vp__law_are_words ?rc__law_are_words ?a37 ?l37 ?c37 ?k37 ?a38 ?l38 ?c38 ?k38 ?lc__law_is_covered ?vp__law_is_covered ?rc__law_is_covered ?a39 ?l39 ?c39 ?k39 ?lc__law_are_many ?vp__law_are_many ?rc__law_are_many ?a40 ?l40 ?c40 ?k40 ?pg_Book ?hd_Book ?po_Book ?sa_Book ?ma_Book ?kp_Book ?fn_Book ?ha_Book ?hn_Book ?ht_Book ?hm_Book ?nt_Book ?ni_Book ?no_Book_q ?no_Book_n ?no_Book_rows ?no_Book_dimension ?m_MOST_PLACES ?m_MOST_ROWS ?pk_words ?pkb_words ?aF ?fF ?x_st ?tnd ?z_all ?z_any ?z_bool ?z_enumerate ?z_int ?z_isinstance ?z_len ?z_list ?z_max ?z_range ?z_repr ?z_sorted ?z_tuple ?z_zip
    (case nK => rfl)
    (case gB => k_is)
    (case e_BadField =>
      refine' MB.Er.of KX G ?aC ?lB ?fB ?lC ?sa ?ga ?gg ?noF ?iC ?tC ?kC ?exC ?exE ?suC ?ssC ?isC ?tyC ?hdC ?op ?su ?lI ?cI ?lc ?lcc ?top ?line ?fl ?fi ?fok ?bi
      (case aC => k_is)
      (case iC => k_is)
      (case lC => k_is)
      (case lB => k_is)
      (case fB => k_is)
      (case sa => k_is)
      (case ga => k_is)
      (case gg => k_is)
      (case noF => k_is)
      (case tC => k_is)
      (case kC => k_is)
      (case exC => k_is)
      (case exE => k_is)
      (case suC => k_is)
      (case ssC => k_is)
      (case isC => k_is)
      (case tyC => k_is)
      (case hdC => k_is)
      (case op => k_is)
      (case su => k_is)
      (case lI => k_is)
      (case cI => k_is)
      (case lc => k_is)
      (case lcc => k_is)
      (case top => rfl)
      (case line => rfl)
      (case fl => rfl)
      (case fi => rfl)
      (case fok => exact ⟨by decide, by decide, by decide, by decide⟩)
      (case bi => exact fun s a b => .of_eq rfl))
    (case e_BadWord =>
      refine' MB.Er.of KX G ?aC ?lB ?fB ?lC ?sa ?ga ?gg ?noF ?iC ?tC ?kC ?exC ?exE ?suC ?ssC ?isC ?tyC ?hdC ?op ?su ?lI ?cI ?lc ?lcc ?top ?line ?fl ?fi ?fok ?bi
      (case aC => k_is)
      (case iC => k_is)
      (case lC => k_is)
      (case lB => k_is)
      (case fB => k_is)
      (case sa => k_is)
      (case ga => k_is)
      (case gg => k_is)
      (case noF => k_is)
      (case tC => k_is)
      (case kC => k_is)
      (case exC => k_is)
      (case exE => k_is)
      (case suC => k_is)
      (case ssC => k_is)
      (case isC => k_is)
      (case tyC => k_is)
      (case hdC => k_is)
      (case op => k_is)
      (case su => k_is)
      (case lI => k_is)
      (case cI => k_is)
      (case lc => k_is)
      (case lcc => k_is)
      (case top => rfl)
      (case line => rfl)
      (case fl => rfl)
      (case fi => rfl)
      (case fok => exact ⟨by decide, by decide, by decide, by decide⟩)
      (case bi => exact fun s a b => .of_eq rfl))
    (case e_TooMany =>
      refine' MB.Er.of KX G ?aC ?lB ?fB ?lC ?sa ?ga ?gg ?noF ?iC ?tC ?kC ?exC ?exE ?suC ?ssC ?isC ?tyC ?hdC ?op ?su ?lI ?cI ?lc ?lcc ?top ?line ?fl ?fi ?fok ?bi
      (case aC => k_is)
      (case iC => k_is)
      (case lC => k_is)
      (case lB => k_is)
      (case fB => k_is)
      (case sa => k_is)
      (case ga => k_is)
      (case gg => k_is)
      (case noF => k_is)
      (case tC => k_is)
      (case kC => k_is)
      (case exC => k_is)
      (case exE => k_is)
      (case suC => k_is)
      (case ssC => k_is)
      (case isC => k_is)
      (case tyC => k_is)
      (case hdC => k_is)
      (case op => k_is)
      (case su => k_is)
      (case lI => k_is)
      (case cI => k_is)
      (case lc => k_is)
      (case lcc => k_is)
      (case top => rfl)
      (case line => rfl)
      (case fl => rfl)
      (case fi => rfl)
      (case fok => exact ⟨by decide, by decide, by decide, by decide⟩)
      (case bi => exact fun s a b => .of_eq rfl))
    (case e_BadStack =>
      refine' MB.Er.of KX G ?aC ?lB ?fB ?lC ?sa ?ga ?gg ?noF ?iC ?tC ?kC ?exC ?exE ?suC ?ssC ?isC ?tyC ?hdC ?op ?su ?lI ?cI ?lc ?lcc ?top ?line ?fl ?fi ?fok ?bi
      (case aC => k_is)
      (case iC => k_is)
      (case lC => k_is)
      (case lB => k_is)
      (case fB => k_is)
      (case sa => k_is)
      (case ga => k_is)
      (case gg => k_is)
      (case noF => k_is)
      (case tC => k_is)
      (case kC => k_is)
      (case exC => k_is)
      (case exE => k_is)
      (case suC => k_is)
      (case ssC => k_is)
      (case isC => k_is)
      (case tyC => k_is)
      (case hdC => k_is)
      (case op => k_is)
      (case su => k_is)
      (case lI => k_is)
      (case cI => k_is)
      (case lc => k_is)
      (case lcc => k_is)
      (case top => rfl)
      (case line => rfl)
      (case fl => rfl)
      (case fi => rfl)
      (case fok => exact ⟨by decide, by decide, by decide, by decide⟩)
      (case bi => exact fun s a b => .of_eq rfl))
    (case aC_Book => k_is)
    (case a0 => k_is)
    (case l0 => k_is)
    (case c0 => k_is)
    (case k0 => k_is)
    (case a1 => k_is)
    (case l1 => k_is)
    (case c1 => k_is)
    (case k1 => k_is)
    (case a2 => k_is)
    (case l2 => k_is)
    (case c2 => k_is)
    (case k2 => k_is)
    (case a3 => k_is)
    (case l3 => k_is)
    (case c3 => k_is)
    (case k3 => k_is)
    (case a4 => k_is)
    (case l4 => k_is)
    (case c4 => k_is)
    (case k4 => k_is)
    (case a5 => k_is)
    (case l5 => k_is)
    (case c5 => k_is)
    (case k5 => k_is)
    (case a6 => k_is)
    (case l6 => k_is)
    (case c6 => k_is)
    (case k6 => k_is)
    (case a7 => k_is)
    (case l7 => k_is)
    (case c7 => k_is)
    (case k7 => k_is)
    (case a8 => k_is)
    (case l8 => k_is)
    (case c8 => k_is)
    (case k8 => k_is)
    (case a9 => k_is)
    (case l9 => k_is)
    (case c9 => k_is)
    (case k9 => k_is)
    (case a10 => k_is)
    (case l10 => k_is)
    (case c10 => k_is)
    (case k10 => k_is)
    (case a11 => k_is)
    (case l11 => k_is)
    (case c11 => k_is)
    (case k11 => k_is)
    (case a12 => k_is)
    (case l12 => k_is)
    (case c12 => k_is)
    (case k12 => k_is)
    (case a13 => k_is)
    (case l13 => k_is)
    (case c13 => k_is)
    (case k13 => k_is)
    (case a14 => k_is)
    (case l14 => k_is)
    (case c14 => k_is)
    (case k14 => k_is)
    (case a15 => k_is)
    (case l15 => k_is)
    (case c15 => k_is)
    (case k15 => k_is)
    (case a16 => k_is)
    (case l16 => k_is)
    (case c16 => k_is)
    (case k16 => k_is)
    (case a17 => k_is)
    (case l17 => k_is)
    (case c17 => k_is)
    (case k17 => k_is)
    (case a18 => k_is)
    (case l18 => k_is)
    (case c18 => k_is)
    (case k18 => k_is)
    (case a19 => k_is)
    (case l19 => k_is)
    (case c19 => k_is)
    (case k19 => k_is)
    (case a20 => k_is)
    (case l20 => k_is)
    (case c20 => k_is)
    (case k20 => k_is)
    (case a21 => k_is)
    (case l21 => k_is)
    (case c21 => k_is)
    (case k21 => k_is)
    (case a22 => k_is)
    (case l22 => k_is)
    (case c22 => k_is)
    (case k22 => k_is)
    (case a23 => k_is)
    (case l23 => k_is)
    (case c23 => k_is)
    (case k23 => k_is)
    (case a24 => k_is)
    (case l24 => k_is)
    (case c24 => k_is)
    (case k24 => k_is)
    (case a25 => k_is)
    (case l25 => k_is)
    (case c25 => k_is)
    (case k25 => k_is)
    (case a26 => k_is)
    (case l26 => k_is)
    (case c26 => k_is)
    (case k26 => k_is)
    (case a27 => k_is)
    (case l27 => k_is)
    (case c27 => k_is)
    (case k27 => k_is)
    (case a28 => k_is)
    (case l28 => k_is)
    (case c28 => k_is)
    (case k28 => k_is)
    (case a29 => k_is)
    (case l29 => k_is)
    (case c29 => k_is)
    (case k29 => k_is)
    (case a30 => k_is)
    (case l30 => k_is)
    (case c30 => k_is)
    (case k30 => k_is)
    (case a31 => k_is)
    (case l31 => k_is)
    (case c31 => k_is)
    (case k31 => k_is)
    (case a32 => k_is)
    (case l32 => k_is)
    (case c32 => k_is)
    (case k32 => k_is)
    (case a33 => k_is)
    (case l33 => k_is)
    (case c33 => k_is)
    (case k33 => k_is)
    (case a34 => k_is)
    (case l34 => k_is)
    (case c34 => k_is)
    (case k34 => k_is)
    (case a35 => k_is)
    (case l35 => k_is)
    (case c35 => k_is)
    (case k35 => k_is)
    (case a36 => k_is)
    (case l36 => k_is)
    (case c36 => k_is)
    (case k36 => k_is)
    (case lc__law_are_words => k_is)
    (case vp__law_are_words => rfl)
    (case rc__law_are_words => rfl)
    (case a37 => k_is)
    (case l37 => k_is)
    (case c37 => k_is)
    (case k37 => k_is)
    (case a38 => k_is)
    (case l38 => k_is)
    (case c38 => k_is)
    (case k38 => k_is)
    (case lc__law_is_covered => k_is)
    (case vp__law_is_covered => rfl)
    (case rc__law_is_covered => rfl)
    (case a39 => k_is)
    (case l39 => k_is)
    (case c39 => k_is)
    (case k39 => k_is)
    (case lc__law_are_many => k_is)
    (case vp__law_are_many => rfl)
    (case rc__law_are_many => rfl)
    (case a40 => k_is)
    (case l40 => k_is)
    (case c40 => k_is)
    (case k40 => k_is)
    (case pg_Book => k_is)
    (case hd_Book => k_is)
    (case po_Book => k_is)
    (case sa_Book => k_is)
    (case ma_Book => k_is)
    (case kp_Book => k_is)
    (case fn_Book => k_is)
    (case ha_Book => k_is)
    (case hn_Book => k_is)
    (case ht_Book => k_is)
    (case hm_Book => k_is)
    (case nt_Book => k_is)
    (case ni_Book => k_is)
    (case no_Book_q => k_is)
    (case no_Book_n => k_is)
    (case no_Book_rows => k_is)
    (case no_Book_dimension => k_is)
    (case m_MOST_PLACES => k_is)
    (case m_MOST_ROWS => k_is)
    (case pk_words => exact fun _ _ => rfl)
    (case pkb_words => exact fun _ _ => rfl)
    (case aF => k_is)
    (case fF => 
      refine' K11.four_mk ?lt ?lr0 ?lr1 ?lr2 ?lr3
      (case lt => k_is)
      (case lr0 => k_is)
      (case lr1 => k_is)
      (case lr2 => k_is)
      (case lr3 => k_is))
    (case x_st => k_is)
    (case tnd => decide)
    (case z_all => k_is)
    (case z_any => k_is)
    (case z_bool => k_is)
    (case z_enumerate => k_is)
    (case z_int => k_is)
    (case z_isinstance => k_is)
    (case z_len => k_is)
    (case z_list => k_is)
    (case z_max => k_is)
    (case z_range => k_is)
    (case z_repr => k_is)
    (case z_sorted => k_is)
    (case z_tuple => k_is)
    (case z_zip => k_is)
end
