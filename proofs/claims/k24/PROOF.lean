import PyProof.Rows.All
import Wide.All
import OpenK.AllK
import Wide.FinOn
import HandS.ForMost
import HandS.Ends
import HandS.Style
import HandS.TupAny
import HandS.TupMul
import HandS.Zip
import HandS.Rev
import HandS.Walk
import KE.GoesMore
import KE.KSuper
import KE.KExcInit
import HandS.ExcSuper
import HandS.ExcOwn
import HandS.ExcField
import HandS.TryMany
import HandS.WordsExc
import HandS.IsInst
import PyProof.ReprBulk
import HandS.Lambda
import KE.KNest
import PyProof.ReprLen
import HandS.ExcIs
import KE.KExcIs
import HandS.Gcd
import HandS.Wide
import HandS.OwnEq
import HandS.RevTup
import PySem.Challenge.RW_mirrorbook_k24_refusals_of_polynomials
set_option Elab.async false
set_option linter.all false
section
set_option maxRecDepth 100000
set_option maxHeartbeats 4000000
namespace MB
open PySem PySem.Spec PyProof.Rows L2
mutual
theorem Dp.flat {K : PySem.W.Frag} {H : Hp} : ∀ (d : PyData) (v : V), Dp K H v d → d.hasDict = false
  | .none, _, _ => by simp only [PyData.hasDict]
  | .bool _, _, _ => by simp only [PyData.hasDict]
  | .int _, _, _ => by simp only [PyData.hasDict]
  | .str _, _, _ => by simp only [PyData.hasDict]
  | .list ds, _, h => by
    cases h with
    | lst _ ha =>
      simp only [PyData.hasDict]
      exact Dp.flats ds _ ha
  | .tuple ds, _, h => by
    cases h with
    | tup _ ha =>
      simp only [PyData.hasDict]
      exact Dp.flats ds _ ha
  | .dict _, _, h => by cases h
theorem Dp.flats {K : PySem.W.Frag} {H : Hp} : ∀ (ds : List PyData) (vs : List V), DpAll K H vs ds → PyData.hasDictAll ds = false
  | [], _, _ => by simp only [PyData.hasDictAll]
  | d :: ds, _, h => by
    cases h with
    | cons h1 h2 =>
      simp only [PyData.hasDictAll]
      rw [Dp.flat d _ h1, Dp.flats ds _ h2]
      rfl
end
def rRepr (K : PySem.W.Frag) : List V → Hp → VK → Prop := fun xs H Q => ∃ x d, xs = [x] ∧ Dp K H x d ∧
  d.showable = true ∧ d.depth ≤ 60 ∧ d.shown.length ≤ sizeLine ∧ Q (.str d.shown) H
theorem call_repr {X : Cx} (hgu : X.A.guards = some []) (hu : X.A.units + 64 < cLine) : CallR X (.builtin "repr") (rRepr X.K) := by
  intro pins s σ H xs us Q I r h
  obtain ⟨x, d, rfl, hd, hs, hz, hl, q⟩ := h
  obtain ⟨u, rfl, ru⟩ := vals1 r
  have hu1 : X.A.units + 1 < cLine := by omega
  cases hd with
  | non =>
    cases ru
    simp only [PyData.shown] at q
    exact PySem.P.repr_of_none ⟨.str _, H, I.tok _, ⟨_, rfl⟩, q⟩
  | bl b =>
    cases ru
    simp only [PyData.shown] at q
    exact PySem.P.repr_of_bool ⟨.str _, H, I.tok _, ⟨_, rfl⟩, q⟩
  | int i =>
    obtain ⟨t, rfl⟩ := ru
    simp only [PyData.shown] at q
    simp only [PyData.showable, decide_eq_true_eq] at hs
    exact PySem.P.repr_of_int hs ⟨.str _, H, I.tok _, ⟨_, rfl⟩, q⟩
  | str z =>
    obtain ⟨t, rfl⟩ := ru
    simp only [PyData.shown] at q hl
    exact PySem.P.repr_of_str ⟨.str _, H, I.tok _, ⟨_, rfl⟩, q⟩ hl
  | @lst a ys ds h1 h2 =>
    obtain ⟨as, rd⟩ := Dp.reads I _ _ _ (Dp.lst h1 h2) ru
    cases ru
    refine repr_of_reads' rd hs (PyData.noDict_hsm (Dp.flat _ _ (Dp.lst h1 h2))) hgu (by omega) (fun _ _ e => e) (fun h' u tk k => ?_) hl
    exact ⟨.str _, H, I.kept (t' := tk) k, ⟨_, rfl⟩, q⟩
  | @tup a ys ds h1 h2 =>
    obtain ⟨as, rd⟩ := Dp.reads I _ _ _ (Dp.tup h1 h2) ru
    cases ru
    refine repr_of_reads' rd hs (PyData.noDict_hsm (Dp.flat _ _ (Dp.tup h1 h2))) hgu (by omega) (fun _ _ e => e) (fun h' u tk k => ?_) hl
    exact ⟨.str _, H, I.kept (t' := tk) k, ⟨_, rfl⟩, q⟩
theorem adj_back (n : Nat) : Builtin.Slice.sliceAdjust none none (-1) (n : Int) = ((n : Int) - 1, -1) := rfl
theorem places_back (n : Nat) : Builtin.Slice.slicePlaces ((n : Int) - 1) (-1) (-1) = n := by
  unfold Builtin.Slice.slicePlaces
  rw [if_neg (by decide)]
  split
  · have e : (-(-1) : Int) = 1 := rfl
    rw [e, Int.ediv_one]
    omega
  · omega
theorem picked_back (xs : Array Value) :
    ((List.range xs.size).filterMap fun (k : Nat) => xs[(((xs.size : Nat) : Int) - 1 + (k : Int) * (-1)).toNat]?) = xs.toList.reverse := by
  have e : ∀ k ∈ List.range xs.size, xs[(((xs.size : Nat) : Int) - 1 + (k : Int) * (-1)).toNat]? = xs[xs.size - 1 - k]? := by
    intro k hk
    have := List.mem_range.mp hk
    have z : (((xs.size : Nat) : Int) - 1 + (k : Int) * (-1)).toNat = xs.size - 1 - k := by omega
    rw [z]
  have fc : ∀ (l : List Nat) (f g : Nat → Option Value), (∀ k ∈ l, f k = g k) → l.filterMap f = l.filterMap g := by
    intro l f g
    induction l with
    | nil => intro _; rfl
    | cons z r ih =>
      intro hh
      rw [List.filterMap_cons, List.filterMap_cons, hh z List.mem_cons_self, ih fun k hk => hh k (List.mem_cons_of_mem _ hk)]
  rw [fc _ _ _ e]
  have e2 : (List.range xs.size).filterMap (fun k => xs[xs.size - 1 - k]?) = ((List.range xs.size).map fun k => xs.size - 1 - k).filterMap (fun k => xs[k]?) := by
    rw [List.filterMap_map]
    rfl
  rw [e2, PySem.W.krv_range, List.filterMap_reverse]
  have := PySem.W.krv_all xs
  rw [this]
section
variable {prog : Program} {w : World} {A : Around} {E : Value → Shared → Prop} {s : Shared}
theorem getItem_tup_back {t sl : Addr} {items : Array Value} {vl vu vk : Value} {Q : Value → Shared → Prop} (ht : IsTup s.heap t items)
    (hs : s.heap.IsSliceOf sl vl vu vk) (pl : IsPart vl none) (pu : IsPart vu none) (pk : IsPart vk (some (-1))) (hz : items.size ≤ sizeLine)
    (h : Q (.ref s.heap.objs.size) { s with heap := s.heap.push { cls := .type "tuple", data := .seq items.toList.reverse.toArray } }) :
    wpAny (model prog w) A (getItem (.ref t) (.ref sl)) Q E s := by
  have okz : sizeOk (.seq items.toList.reverse.toArray) := by
    show items.toList.reverse.toArray.size ≤ sizeLine
    rw [List.size_toArray, List.length_reverse, Array.length_toList]
    exact hz
  obtain ⟨os, hos, hcs, hds⟩ := id hs
  have hT : s.TypeIs (.ref sl) "slice" := ⟨os, hos, hcs⟩
  unfold getItem
  try with_reducible refine wpAny_holding ?_
  first
    | refine wpAny_bind (wpAny_pure ?_)
    | skip
  refine wpAny_bind (wpAny_sequenceKey ht.typeIs (by decide) ?_)
  refine wpAny_bind (wpAny_callSpecial?_slot (name := Str.ofString "__getitem__") ht.typeIs slot_tuple_getitem
    (wpAny_call_entry slot_tuple_getitem ht.typeIs PyProof.Rows.entry_tuple_getitem ?_ (PyProof.Rows.args_tuple_getitem _ _)))
  show wpAny _ _ (Builtin.Tuple.tupleItemsOf (.ref t) >>= _) _ _ s
  refine wpAny_bind (PyProof.Rows.tupleItemsOf_ ht ?_)
  refine wpAny_bind (wpAny_typeOf hT ?_)
  rw [if_pos (by decide)]
  have sa : ∀ {Q' : Int × Int × Nat → Shared → Prop} {E' : Value → Shared → Prop} {A' : Around}, Q' (((items.size : Nat) : Int) - 1, -1, items.size) s →
      wpAny (model prog w) A' (Builtin.Slice.sliceApplied (.ref sl) (pure ((items.size : Nat) : Int))) Q' E' s := by
    intro Q' E' A' q
    unfold Builtin.Slice.sliceApplied Builtin.Slice.sliceFields
    refine wpAny_bind (wpAny_bind (wpAny_field hos hds (x := vl) rfl (wpAny_bind
      (wpAny_field hos hds (x := vu) rfl (wpAny_bind (wpAny_field hos hds (x := vk) rfl (wpAny_pure ?_)))))))
    refine wpAny_bind (HT.slicePart_ pk ?_)
    show wpAny _ _ (if ((-1 : Int) == 0) = true then _ else _) _ _ s
    rw [if_neg (by decide)]
    refine wpAny_bind (HT.slicePart_ pl (wpAny_bind (HT.slicePart_ pu (wpAny_bind (wpAny_pure ?_)))))
    show wpAny _ _ (match Builtin.Slice.sliceAdjust none none (-1) ((items.size : Nat) : Int) with
      | (lo, hi) => pure (lo, (-1 : Int), Builtin.Slice.slicePlaces lo hi (-1))) _ _ s
    rw [adj_back]
    show wpAny _ _ (pure (((items.size : Nat) : Int) - 1, (-1 : Int), Builtin.Slice.slicePlaces (((items.size : Nat) : Int) - 1) (-1) (-1))) _ _ s
    rw [places_back]
    exact wpAny_pure q
  refine wpAny_bind (sa ?_)
  have hno : ¬ (((((items.size : Nat) : Int) - 1 == 0) && ((-1 : Int) == 1) && (items.size == items.size)) = true) := by
    intro q
    rw [Bool.and_eq_true, Bool.and_eq_true] at q
    exact absurd (eq_of_beq q.1.2) (by decide)
  show wpAny _ _ (if ((((items.size : Nat) : Int) - 1 == 0) && ((-1 : Int) == 1) && (items.size == items.size)) = true then _ else _) _ _ s
  rw [if_neg hno, picked_back]
  first
    | exact wpAny_bind (m := Builtin.Tuple.tupleExact _) (wpAny_newObj_type (wpAny_pure ⟨_, rfl, wpAny_pure h⟩) okz)
    | exact wpAny_bind (m := Builtin.Tuple.tupleExact _) (wpAny_newObj_type (wpAny_bind (wpAny_pure (wpAny_pure ⟨_, rfl, wpAny_pure h⟩))) okz)
    | exact wpAny_bind (wpAny_bind (m := Builtin.Tuple.tupleExact _) (wpAny_newObj_type (wpAny_pure (wpAny_pure ⟨_, rfl, wpAny_pure h⟩)) okz))
    | exact wpAny_bind (wpAny_bind (m := Builtin.Tuple.tupleExact _) (wpAny_newObj_type (wpAny_pure ⟨_, rfl, wpAny_pure h⟩) okz))
end
def tRevT (K : PySem.W.Frag) (te : TE) : TE := fun σ H Q => te σ H fun x H1 => ∃ a xs, x = .ref a ∧ SqT K H1 a xs ∧
  ∀ p, H1 p = none → Q (.ref p) (upd H1 p (.tup xs.reverse))
theorem pe_revT {X : Cx} {e : Expr} {te : TE} {k : Nat} {p1 p2 p3 pos : Pos} (he : PE X e te) :
    PE X (.Subscript e (.Slice none none (some (.UnaryOp .USub (.Constant (.int 1) k p1) p2)) p3) pos) (tRevT X.K te) := by
  refine ⟨fun pins s σ H Q I h => ?_⟩
  refine Subscript_ (thn (he.run pins s σ H _ I h) fun v s1 ⟨x, H1, I1, r1, q1⟩ => ?_)
  obtain ⟨a, xs, rfl, hx, q⟩ := q1
  cases r1
  have back : PO X (some (.UnaryOp .USub (.Constant (.int 1) k p1) p2)) (tPart (tUn (rU fun i => .int (-i)) (tC (.int 1)))) :=
    po_some (pe_un un_neg pe_int)
  refine wpAny_Slice (thn (po_none.run pins s1 σ H1 (fun o H2 => o = none ∧ H2 = H1) I1 ⟨rfl, rfl⟩) fun vl s2 ⟨l, H2, I2, pl, el, e2⟩ => ?_)
  subst el e2
  refine thn (po_none.run pins s2 σ H2 (fun o H3 => o = none ∧ H3 = H2) I2 ⟨rfl, rfl⟩) fun vu s3 ⟨u, H3, I3, pu, eu, e3⟩ => ?_
  subst eu e3
  refine thn (back.run pins s3 σ H3 (fun o H4 => o = some (-1) ∧ H4 = H3) I3 ⟨1, rfl, -1, rfl, rfl, rfl⟩) fun vk s4 ⟨o, H4, I4, pk, eo, e4⟩ => ?_
  subst eo e4
  have I5 : Inv X pins σ H4 { s4 with heap := s4.heap.push { cls := .type "slice", data := .fields #[vl, vu, vk] } } :=
    I4.kept (t' := s4.toks) fun b ob z => Heap.get?_push_of_some _ z
  obtain ⟨its, r, ht, hz⟩ := I5.tuple hx
  have hlen := r.length
  show wpAny (model X.prog X.w) X.A (subscriptTail e (.Slice none none (some (.UnaryOp .USub (.Constant (.int 1) k p1) p2)) p3)
    (.ref a) (.ref s4.heap.objs.size)) (EP X pins σ Q) X.xe { s4 with heap := s4.heap.push { cls := .type "slice", data := .fields #[vl, vu, vk] } }
  refine tail_any (ops := [.ref a, .ref s4.heap.objs.size]) ht.typeIs slot_tuple_getitem.lookup ?_ (by with_unfolding_all rfl)
  refine getItem_tup_back ht (Heap.IsSliceOf.new _ vl vu vk) pl pu pk (by rw [List.size_toArray]; omega) ?_
  refine ⟨.ref _, _, I5.laid (t' := s4.toks) (o := .tup xs.reverse) (fun b ob z => Heap.get?_push_of_some _ z) (Nat.le_refl _) ?_, rfl,
    q _ (I5.hok.fresh (Nat.le_refl _))⟩
  exact ⟨by rw [List.length_reverse]; omega, _, r.reverse, IsTup.new _ _⟩
section
variable {K : PySem.W.Frag} {a b : Addr} {xs ys : List V}
theorem walk_zipT {n : Nat} (hn : n = min xs.length ys.length) :
    Walk (RZ.ItzT K a b) n (fun H => SqT K H a xs ∧ SqT K H b ys) (YPair (fun i => xs[i]?) (fun i => ys[i]?)) := by
  subst hn
  refine ⟨fun i _ hi q => ?_, fun _ q => ⟨xs, ys, q.1, q.2, by omega⟩, fun i H v H' _ q y => ?_⟩
  · have h1 : i < xs.length := by omega
    have h2 : i < ys.length := by omega
    exact ⟨xs, ys, xs[i], ys[i], q.1, q.2, by simp [h1], by simp [h2]⟩
  · obtain ⟨T, x, z, h1, h2, h3, h4, h5⟩ := y
    exact ⟨T, x, z, h1, h2, h3, h4 xs q.1, h5 ys q.2⟩
theorem walk_revT : Walk (RT.ItvT K a xs.length) xs.length (fun H => SqT K H a xs) (fun i H x H' => H' = H ∧ xs[xs.length - 1 - i]? = some x) := by
  refine ⟨fun i _ hi q => ⟨hi, xs, xs[xs.length - 1 - i]'(by omega), q, by simp [show xs.length - 1 - i < xs.length by omega]⟩, fun _ _ => Nat.le_refl _, ?_⟩
  intro i H x H' _ q y
  exact ⟨y.1, y.2 xs q⟩
end
end MB
end
section
set_option maxRecDepth 100000
set_option maxHeartbeats 4000000
namespace MB
open PySem PySem.Spec PyProof.Rows L2
theorem mul_once (l : Addr) (items : Array Value) (n : Nat) (dd : Option Addr) (sl : Array (Option Value)) (u : Tok) :
    Meets (Builtin.«tuple.__mul__» ⟨[.ref l, .int 1 u], []⟩) (fun _ R s =>
      s.heap.get? l = some { cls := .type "tuple", dict := dd, data := .seq items n, slots := sl } ∧ R (.ok (.ret (.ref l))) s) :=
  .of_wp fun prog w A R s h => by
    obtain ⟨hp, g, d, tk, os⟩ := s
    obtain ⟨hl, h⟩ := h
    have f1 := AutoSeq1.idx_int
    wp_walk using wpAny_loadPart' hl
    repeat (first
      | (refine wpAny_ite_false (by decide) ?_; wp_walk using wpAny_loadPart' hl)
      | (refine wpAny_ite_true (by simp) ?_; wp_walk using wpAny_loadPart' hl))
    all_goals exact ⟨_, rfl, h⟩
theorem mul_none (l : Addr) (items : Array Value) (n : Nat) (dd : Option Addr) (sl : Array (Option Value)) (x : Int) (u : Tok)
    (c0 : (decide (x < -(2 ^ 63)) || decide (x ≥ 2 ^ 63)) = false) (c1 : (items.isEmpty || x == 1) = false) (c2 : (decide (x ≤ 0) || items.isEmpty) = true) :
    Meets (Builtin.«tuple.__mul__» ⟨[.ref l, .int x u], []⟩) (fun _ R s =>
      s.heap.get? l = some { cls := .type "tuple", dict := dd, data := .seq items n, slots := sl } ∧
      R (.ok (.ret (Value.ref s.heap.objs.size))) { s with heap := s.heap.push { cls := Value.type "tuple", data := Data.seq #[] }, toks := s.toks }) :=
  .of_wp fun prog w A R s h => by
    obtain ⟨hp, g, d, tk, os⟩ := s
    obtain ⟨hl, h⟩ := h
    have f1 := AutoSeq1.idx_int
    wp_walk using wpAny_loadPart' hl
    repeat (first
      | (refine wpAny_ite_false (decide_eq_false (by rw [c0]; exact Bool.false_ne_true)) ?_; wp_walk using wpAny_loadPart' hl)
      | (refine wpAny_ite_false (decide_eq_false (by rw [c1]; exact Bool.false_ne_true)) ?_; wp_walk using wpAny_loadPart' hl)
      | (refine wpAny_ite_true (decide_eq_true c2) ?_; wp_walk using wpAny_loadPart' hl))
    exact ⟨_, rfl, h⟩
def rRepA (K : PySem.W.Frag) : R2 := fun x y H Q => ∃ l k xs, x = .ref l ∧ y = .int k ∧ SqT K H l xs ∧ xs ≠ [] ∧ -(2 ^ 63) ≤ k ∧ k ≤ 1000 ∧ xs.length ≤ 1000 ∧
  (k = 1 → Q (.ref l) H) ∧ (k ≠ 1 → ∀ p, H p = none → Q (.ref p) (upd H p (.tup (List.replicate k.toNat xs).flatten)))
theorem op_repA {X : Cx} : OpR X (binaryOp .Mult) (rRepA X.K) := by
  intro pins s σ H x y v u Q I rx ry h
  obtain ⟨l, k, xs, rfl, rfl, hT, hne, h0, h2, hz, q1, qn⟩ := h
  by_cases hbig : 2 ≤ k
  · exact op_repT pins s σ H _ _ v u Q I rx ry ⟨l, k, xs, rfl, rfl, hT, hne, hbig, h2, hz, qn (by omega)⟩
  · cases rx
    obtain ⟨t, rfl⟩ := ry
    obtain ⟨its, r, ⟨⟨cls, dd, data, sl⟩, ho, hc, n, hd⟩, hs⟩ := I.tuple hT
    simp only at hc hd
    subst hc hd
    have hle : its.length = xs.length := r.length.symm
    have hi : its.toArray.isEmpty = false := by
      cases its with
      | nil => exact absurd (List.eq_nil_of_length_eq_zero hle.symm) hne
      | cons _ _ => rfl
    refine wpAny_binaryOp_repeat_ref (T := "tuple") (U := "int") (by decide) ⟨_, ho, rfl⟩ (fun s' => typeIs_int s' k t) noFill_tuple_mul
      F.fills_int_mul F.slot_int_rmul repeat_tuple F.slot_int_index.lookup (call_meets F.slot_int_rmul (typeIs_int s k t) F.entry_int_rmul
        (F.args_int_rmul_2 _ _) (int_rmul_tuple k t l its.toArray n dd sl) ⟨ho, rfl, ⟨_, ho, rfl⟩, ?_⟩)
    by_cases h1 : k = 1
    · subst h1
      exact call_meets F.slot_tuple_mul ⟨_, ho, rfl⟩ F.entry_tuple_mul (F.args_tuple_mul_2 _ _) (mul_once l its.toArray n dd sl t)
        ⟨ho, .ref l, H, I, rfl, q1 rfl⟩
    · have c0 : (decide (k < -(2 ^ 63)) || decide (k ≥ 2 ^ 63)) = false := by
        rw [decide_eq_false (by omega), decide_eq_false (by omega)]
        rfl
      have c1 : (its.toArray.isEmpty || k == 1) = false := by
        rw [hi, Bool.false_or]
        exact beq_eq_false_iff_ne.mpr h1
      have c2 : (decide (k ≤ 0) || its.toArray.isEmpty) = true := by
        rw [decide_eq_true (by omega)]
        rfl
      refine call_meets F.slot_tuple_mul ⟨_, ho, rfl⟩ F.entry_tuple_mul (F.args_tuple_mul_2 _ _) (mul_none l its.toArray n dd sl k t c0 c1 c2) ⟨ho, ?_⟩
      have e0 : (List.replicate k.toNat xs).flatten = [] := by
        rw [show k.toNat = 0 by omega]
        rfl
      have q := qn h1
      rw [e0] at q
      refine ⟨.ref s.heap.objs.size, _, I.laid (t' := s.toks) (o := .tup []) (fun b ob z => Heap.get?_push_of_some _ z) (Nat.le_refl _) ?_, rfl,
        q _ (I.hok.fresh (Nat.le_refl _))⟩
      exact ⟨Nat.zero_le _, [], .nil, IsTup.new _ _⟩
end MB
end
section
set_option maxRecDepth 100000
set_option maxHeartbeats 4000000
namespace MB
open PySem PySem.Spec PyProof.Rows L2
open AutoSeq1 (wpAny_loadPart')
abbrev tupIt (t : Addr) : Obj := { cls := .type "tuple_iterator", data := .fields #[.ref t, .int 0 0] }
abbrev enumObj (it : Addr) : Obj := { cls := .type "enumerate", data := .fields #[.none, .bool false, .ref it, rawInt 0, .none, .none] }
theorem new_enum_tup (l : Addr) (items : Array Value) (n : Nat) (dct : Option Addr) (sl : Array (Option Value)) :
    Meets (Builtin.«enumerate.__new__» ⟨[.type "enumerate", .ref l], []⟩) (fun _ R s =>
      s.heap.get? l = some { cls := .type "tuple", dict := dct, data := .seq items n, slots := sl } ∧
      R (.ok (.ret (.ref (s.heap.push (tupIt l)).objs.size))) { s with heap := (s.heap.push (tupIt l)).push (enumObj s.heap.objs.size) }) :=
  .of_wp fun prog w A R s h => by
    obtain ⟨hp, g, d, tk, os⟩ := s
    obtain ⟨hl, h⟩ := h
    have hsub := sub_enumerate
    have hL : Heap.IsTuple (Shared.heap ⟨hp, g, d, tk, os⟩) l items := ⟨_, hl, rfl, n, rfl⟩
    wp_walk using wpAny_loadPart' hl
    refine wpAny_stack_any fun st => wpAny_pure ?_
    split
    · rename_i c _ _ _ _ _
      cases (c == Value.type "enumerate") <;>
      · wp_walk using wpAny_loadPart' hl, wpAny_pyIter_tuple hL
        exact ⟨_, rfl, h⟩
    · wp_walk using wpAny_loadPart' hl, wpAny_pyIter_tuple hL
      exact ⟨_, rfl, h⟩
section
variable {prog : Program} {w : World} {A : Around} {E : Value → Shared → Prop} {s : Shared}
theorem call_enum_tup {l : Addr} {items : Array Value} {Q : Value → Shared → Prop} (hL : s.heap.IsTuple l items)
    (h : ∀ h', IsEnum h' (s.heap.objs.size + 1) s.heap.objs.size 0 .none → h'.IsTupleIter s.heap.objs.size l 0 →
      (∀ b o, s.heap.get? b = some o → h'.get? b = some o) → Q (.ref (s.heap.objs.size + 1)) { s with heap := h' }) :
    wpAny (model prog w) A (call (.type "enumerate") [.ref l]) Q E s := by
  obtain ⟨⟨c, dct, dt, sl⟩, hl, hc, n, hd⟩ := hL
  replace hc : c = .type "tuple" := hc
  replace hd : dt = .seq items n := hd
  subst hc hd
  refine callType_new F.called_enumerate (by decide) (F.typeCall_enumerate_1 _) (F.newCall_enumerate_1 _)
    (fun obj => F.args_object_init_2 obj _) F.entry_enumerate_new (new_enum_tup l items n dct sl) ⟨hl, ?_⟩
  have hz : (s.heap.push (tupIt l)).objs.size = s.heap.objs.size + 1 := Heap.size_push ..
  show _ ∧ _
  rw [hz]
  have he : IsEnum ((s.heap.push (tupIt l)).push (enumObj s.heap.objs.size)) (s.heap.objs.size + 1) s.heap.objs.size 0 .none := by
    have q := Heap.get?_push_size (s.heap.push (tupIt l)) (o := enumObj s.heap.objs.size) rfl
    rw [hz] at q
    exact q
  exact ⟨⟨_, he, rfl⟩, h _ he ⟨_, Heap.get?_push_of_some _ (Heap.get?_push_size _ rfl), rfl, rfl⟩
    fun b o x => Heap.get?_push_of_some _ (Heap.get?_push_of_some _ x)⟩
end
def IteT (K : PySem.W.Frag) (a : Addr) : It :=
  ⟨fun i H => ∃ (xs : List V) (x : V), SqT K H a xs ∧ xs[i]? = some x,
   fun i H v H' => ∃ T x, v = .ref T ∧ H T = none ∧ H' = upd H T (.tup [.int (i : Nat), x]) ∧ ∀ xs, SqT K H a xs → xs[i]? = some x,
   fun i H => ∃ xs : List V, SqT K H a xs ∧ xs.length = i⟩
theorem turn_enumT {P : Program} {w : World} {K : PySem.W.Frag} {elts : List Expr} {kk : Nat} {tpos : Pos} (a e it : Addr) (hai : a ≠ it) (hae : a ≠ e) :
    Turn P w K (.Tuple elts kk tpos) (IteT K a) [e, it] e
      (fun i h => (∃ old, IsEnum h e it ((i : Nat) : Int) old) ∧ h.IsTupleIter it a i ∧ e ≠ it) where
  mem := by simp
  obj := fun i h st b hb => by
    obtain ⟨⟨old, he⟩, ⟨o, ho, hc, hd⟩, _⟩ := st
    have hb' : b = e ∨ b = it := by simpa using hb
    rcases hb' with z | z
    · subst z
      exact ⟨_, he, fun v q => nomatch q⟩
    · subst z
      exact ⟨o, ho, fun v q => by rw [hd] at q; cases q⟩
  keep := fun i h h' st k => by
    obtain ⟨⟨old, he⟩, hi, hne⟩ := st
    exact ⟨⟨old, k e (by simp) _ he⟩, hi.at fun o q => k it (by simp) o q, hne⟩
  item := by
    intro X hP hw hK hc i pins s σ H E I hf st hg
    subst hP hw hK
    obtain ⟨⟨old, he⟩, hit, hne⟩ := st
    obtain ⟨xs, x, hq, hx⟩ := hg
    obtain ⟨its, rv, p, hz⟩ := I.tuple hq
    obtain ⟨u, hu, ru⟩ := rv.get hx
    have hel : e < s.heap.objs.size := Heap.lt_size he
    have hil : it < s.heap.objs.size := by
      obtain ⟨_, q, _⟩ := hit
      exact Heap.lt_size q
    have hlt : i < its.toArray.size := by
      rw [List.size_toArray]
      exact (List.getElem?_eq_some_iff.mp hu).1
    have hh : X.A.in1.handled = none := I.ok.hd hc
    refine wpAny_pyNext_enum_itemD (Draws.tuple hh it a hai its.toArray) he ⟨hit, p⟩ hlt hne (by simp [hne, Ne.symm hae]) fun y h' tk hy ho hst hT hsz hk => ?_
    have eyu : y = u := by
      have z : its.toArray[i]? = some u := by simpa using hu
      rw [z] at hy
      exact (Option.some.inj hy).symm
    subst eyu
    refine ⟨_, rfl, wpAny_letOwnedTupleGo_enum (s := { s with heap := h', toks := tk + 1 }) ho fun h'' he' sb => ?_⟩
    have hT2 : h''.get? s.heap.objs.size = some { cls := .type "tuple", data := .seq #[.int i tk, y] } :=
      (sb.2 _ (Nat.ne_of_gt hel)).trans hT
    have new : ObjOk X.prog X.w (upd H s.heap.objs.size (.tup [.int (i : Nat), x])) h'' s.heap.objs.size (.tup [.int (i : Nat), x]) :=
      ⟨(by decide : 2 ≤ sizeLine), [.int i tk, y], .cons ⟨_, rfl⟩ (.cons ru .nil), ⟨_, hT2, rfl, _, rfl⟩⟩
    have I1 : Inv X pins σ (upd H s.heap.objs.size (.tup [.int (i : Nat), x])) { s with heap := h'', toks := tk + 1 } :=
      I.turnedNew (ch := [e, it]) (fun b ob hb q => (sb.2 b (fun z => hb (by simp [z]))).trans
        (hk b ob (fun z => hb (by simp [z])) (fun z => hb (by simp [z])) q)) hf (Nat.le_refl _) new
    refine ⟨.ref s.heap.objs.size, _, I1, rfl, ⟨_, x, rfl, I.hok.fresh (Nat.le_refl _), rfl, fun ys hy => by rw [I.tuple_inj hy hq]; exact hx⟩,
      ⟨⟨y, ?_⟩, hst.1.at fun o q => (sb.2 it (Ne.symm hne)).trans q, hne⟩, fun b hb => ?_⟩
    · have e1 : ((i + 1 : Nat) : Int) = (i : Int) + 1 := by omega
      rw [e1]
      exact he'
    · have hb' : b < s.heap.objs.size := by
        have z : b = e ∨ b = it := by simpa using hb
        rcases z with z | z <;> subst z <;> assumption
      rw [upd_ne (Nat.ne_of_lt hb')]
      exact (hf b hb).1
  done := by
    intro X hP hw hK hc i pins s σ H E I hf st hg
    subst hP hw hK
    obtain ⟨⟨old, he⟩, hit, hne⟩ := st
    obtain ⟨xs, hq, hx⟩ := hg
    obtain ⟨its, rv, p, hz⟩ := I.tuple hq
    obtain ⟨f0, f1, f2, f3, f4, f5⟩ := hf it (by simp)
    have hn : its.toArray.size = i := by
      rw [List.size_toArray, ← rv.length]
      exact hx
    rw [← hn] at hit
    have hh : X.A.in1.handled = none := I.ok.hd hc
    exact wpAny_pyNext_enum_endD (Draws.tuple hh it a hai its.toArray) he ⟨hit, p⟩
      fun h' eb => ⟨rfl, I.turned (t' := s.toks) (fun b o hb q => eb b o hb q) f0 f1 f3 f4 f5⟩
  self := fun A i s Q E st h => by
    obtain ⟨⟨_, he⟩, _⟩ := st
    exact wpAny_pyIter_enum he h
def iEnumT (K : PySem.W.Frag) (ta : TA) : TI := fun σ H R => ta σ H fun vs H1 => ∃ a xs, vs = [.ref a] ∧ SqT K H1 a xs ∧ R (IteT K a) H1
theorem pi_enumT {X : Cx} {e : Expr} {ta : TA} {p pos tpos : Pos} {elts : List Expr} {kk : Nat} (hg : Gl X "enumerate") (hm : X.mg "enumerate" = none)
    (ha : PA X [e] ta) (hs : starEach [e] X.env = [(false, eval e X.env)] := by rfl) :
    PI X (.Tuple elts kk tpos) (.Call (.Name "enumerate" p) [e] [] pos) (iEnumT X.K ta) := by
  refine ⟨fun pins s σ H R I h => ?_⟩
  refine Call_ (ld_blt I hg hm boot_enumerate (callWith_type1 (thn (ha.run pos pins s σ H _ I h) fun us s1 ⟨vs, H1, I1, r1, q1⟩ => ?_) hs rfl))
  obtain ⟨a, xs, ex, hq, q⟩ := q1
  subst ex
  obtain ⟨u, rfl, r⟩ := vals1 r1
  cases r
  obtain ⟨its, rv, p', hz⟩ := I1.tuple hq
  have hal : a < s1.heap.objs.size := p'.lt
  refine call_enum_tup p' fun h' he hit hk => wpAny_pyIter_enum he ?_
  have I2 : Inv X pins σ H1 { s1 with heap := h' } := I1.kept (t' := s1.toks) hk
  refine ⟨s1.heap.objs.size + 1, [s1.heap.objs.size + 1, s1.heap.objs.size], _, _, H1, rfl, I2,
    turn_enumT a (s1.heap.objs.size + 1) s1.heap.objs.size (Nat.ne_of_lt hal) (Nat.ne_of_lt (Nat.lt_succ_of_lt hal)),
    ⟨⟨.none, he⟩, hit, Nat.succ_ne_self _⟩, fun b hb => ?_, q⟩
  have hle : s1.heap.objs.size ≤ b := by
    have z : b = s1.heap.objs.size + 1 ∨ b = s1.heap.objs.size := by simpa using hb
    rcases z with z | z
    · rw [z]
      exact Nat.le_succ _
    · rw [z]
      exact Nat.le_refl _
  exact I1.fpOk hle (I1.hok.fresh hle)
theorem walk_enumT {K : PySem.W.Frag} {a : Addr} {xs : List V} :
    Walk (IteT K a) xs.length (fun H => SqT K H a xs) (YPair (fun i => some (.int (i : Nat))) (fun i => xs[i]?)) := by
  refine ⟨fun i _ hi q => ⟨xs, xs[i], q, by simp [hi]⟩, fun _ q => ⟨xs, q, rfl⟩, fun i H v H' _ q y => ?_⟩
  obtain ⟨T, x, h1, h2, h3, h4⟩ := y
  exact ⟨T, .int (i : Nat), x, h1, h2, h3, rfl, h4 xs q⟩
end MB
end
section
set_option maxRecDepth 100000
set_option maxHeartbeats 4000000
namespace MB
open PySem PySem.Spec PyProof.Rows L2
structure FnG (P : Program) (w : World) (K : PySem.W.Frag) (mg : Str → Option Value)
    (base : Heap) (k : Nat) (f : Addr) (fd : FuncData) (ps : List Str) (sp : Sp) : Prop where
  many : ∀ xs H Q E, sp xs H Q E → xs.length = ps.length
  goes : ∀ (A : Around) (outer : List Env) (s : Shared) (H : Hp) (args : Args)
    (us : List Value) (xs : List V) (Q : VK) (E : XK), Room k A → A.guards = some [] →
    Env0 P w K mg base A outer s H → BindsTo s fd args (ps.zip us) → Vals xs us →
    sp xs H Q E → codeAny (model P w) A (.call (.ref f) args) (CR CX0 outer P w H s Q E) s
section
variable {P : Program} {w : World} {K : PySem.W.Frag} {mg : Str → Option Value} {base : Heap}
variable {k : Nat} {f : Addr} {fd : FuncData} {ps : List Str} {sp : Sp}
theorem FnG.ofOk (F : FnOk P w K mg base CX0 k f fd ps sp) : FnG P w K mg base k f fd ps sp :=
  ⟨F.len, fun A outer s H args us xs Q E hr _ => F.run A outer s H args us xs Q E hr⟩
theorem fnG {x qual : Str} {st : Stmt} {N : List Str} (F : Fun K x qual st f fd)
    (S : FnScope N ps (defScope st)) (many : ∀ xs H Q E, sp xs H Q E → xs.length = ps.length)
    (body : ∀ (cdv : Value) (A : Around) (outer : List Env) (s : Shared) (H : Hp) (xs : List V)
      (Q : VK) (E : XK),
      Room k (A.deeper (envOfC qual (defScope st) s.heap.objs.size f cdv)) → A.guards = some [] →
      sp xs H Q E → ∃ t, PSs (cxOf CX0 P w K mg base N qual (defScope st) f cdv A outer s H E).nox (defBody st) t ∧
        t { nx := fun _ H' => Q .non H', rt := Q } (start N xs) H) :
    FnG P w K mg base (k + 1) f fd ps sp := by
  obtain ⟨oc, od, kV, doc, pm, an, cdv, ct, osl, efd, lk, hcd⟩ := F.ex
  refine ⟨many, fun A outer s H args us xs Q E hr hgu e0 hb r hsp => ?_⟩
  subst efd
  have hlen := many _ _ _ _ hsp
  have KX : K.In s.heap := e0.mod.kin.keeps fun b o e => (e0.bs b o e).1
  have lim : s.heap.NoLimit := e0.mod.nolimit.keeps fun b o e => (e0.bs b o e).1
  have kinds : ∀ y ∈ ps.zip us, (defScope st).names.lookup y.1 = some .local ∨
      ((defScope st).names.lookup y.1 = some .cell ∧
        ((cellsFrom (s.heap.objs.size + 1) (defScope st).names []).lookup y.1).isSome = true) := by
    rintro ⟨n, v⟩ hy
    rcases S.par n (List.of_mem_zip hy).1 with q | q
    · exact Or.inl q
    · exact Or.inr ⟨q, PySem.W.cellsFrom_some _ _ _ (Or.inl q)⟩
  refine codeAny_call_function hr.depth (KX _ _ lk) rfl S.co S.gen rfl
    (PySem.W.codeRec_of KX hcd) (hb _ _ _ _ ?_)
  refine wpAny_newFunctionEnv_cells S.kind kinds fun env he s1 x => ?_
  subst he
  refine ⟨lim.keeps x.toInCall.keep, codeAny_func ?_⟩
  obtain ⟨t, ht, hq⟩ := body cdv A outer s H xs Q E (hr.deeper _) hgu hsp
  have I : Inv (cxOf CX0 P w K mg base N qual (defScope st) f cdv A outer s H E) [] (start N xs) H s1 :=
    inv_start S hr.hd e0 hlen r x
  refine wpAny_mono (ht.nox.run [] s1 (start N xs) H _ I hq) (fun fl s' hs => ?_) fun e s' hs => hs
  cases fl with
  | ret u =>
    obtain ⟨v, σ', H', J, rv, q⟩ := hs
    exact ⟨v, H', J.os, J.bare, J.base, J.hok, rv, q⟩
  | next =>
    obtain ⟨σ', H', J, q⟩ := hs
    exact ⟨V.non, H', J.os, J.bare, J.base, J.hok, rfl, q⟩
  | brk =>
    obtain ⟨_, _, _, q⟩ := hs
    exact False.elim q
  | cont =>
    obtain ⟨_, _, _, q⟩ := hs
    exact False.elim q
end
section
variable {X : Cx} {k : Nat} {f : Addr} {fd : FuncData} {ps ks : List Str} {sp : Sp}
variable {x : Str} {p pos : Pos} {e : Expr} {es : List Expr} {t : TA}
theorem runG {pins : List (Addr × Obj)} {σ : L2.St} {H : Hp} {s : Shared} {Q : VK} {us as : List Value}
    {xs : List V} {kw : List (Str × Value)} (F : FnG X.prog X.w X.K X.mg X.base k f fd ps sp) (hr : Room k X.A) (hgu : X.A.guards = some [])
    (hb : BindsTo s fd ⟨us, kw⟩ (ps.zip as)) (I : Inv X pins σ H s) (r : Vals xs as) (h : sp xs H Q E0) :
    wpAny (model X.prog X.w) X.A (call (.ref f) us kw) (EP X pins σ Q) X.xe s := by
  refine wpAny_call (codeAny_mono (F.goes X.A X.stack s H ⟨us, kw⟩ as xs Q E0 hr hgu I.env0 hb r h)
    fun q s' hq => ?_)
  cases q with
  | error e => exact hq.elim
  | ok fl =>
    cases fl with
    | ret u => exact I.after hq
    | next => exact False.elim hq
    | brk => exact False.elim hq
    | cont => exact False.elim hq
theorem pe_callG (F : FnG X.prog X.w X.K X.mg X.base k f fd ps sp) (hr : Room k X.A) (hgu : X.A.guards = some [])
    (hg : Gl X x) (hm : X.mg x = some (.ref f)) (hk : PySem.W.keepIn X.K (.ref f) = true) (hb : Binds X.K fd ps [])
    (ha : PA X (e :: es) t) (hdb : (x == ("__debug__" : Str)) = false := by decide)
    (he : starEach (e :: es) X.env = (false, eval e X.env) :: starEach es X.env := by rfl)
    (hpl : (backTo pos (starEach es X.env)).any (·.1) = false := by rfl) :
    PE X (.Call (.Name x p) (e :: es) [] pos) (tCall sp [] E0 t) := by
  refine ⟨fun pins s σ H Q I h => ?_⟩
  refine wpAny_Call_Name_kw (ld_glob I hg hm ?_ hdb)
  refine PySem.W.callWith_K (h₀ := X.base) I.ok.mod.kin hk
    (thn (ha.run pos pins s σ H _ I h) fun us s1 ⟨xs, H1, I1, r, q⟩ => ⟨I1.kIn, ?_⟩) he hpl
  have q' : sp (xs ++ []) H1 Q E0 := q
  rw [List.append_nil] at q'
  have hl : (us ++ ([] : List Value)).length = ps.length := by
    rw [List.append_nil, ← r.length]
    exact F.many _ _ _ _ q'
  have bb := hb s1 us I1.kIn hl
  rw [List.append_nil] at bb
  exact runG F hr hgu bb I1 r q'
end
theorem lawG_at {P : Program} {w : World} {K : PySem.W.Frag} {mg mb : Str → Option Value} {k : Nat} {fa a : Addr}
    {fd : FuncData} {x : Str} {sp : Sp} {s₁ : Shared} {us : List Value} {ns : List Int} {H : Hp}
    (KX : K.In s₁.heap) (hns : s₁.heap.Ns mainGlobals mg) (hb : s₁.heap.Ns builtinsNs mb)
    (hbb : ∀ x : Str, x ≠ "__name__" → mb x = bootBuiltins x) (hlim : s₁.heap.NoLimit) (hg : s₁.gens = #[])
    (ha : s₁.heap.get? a = some { cls := .type "list", data := .seq us.toArray }) (hr : Room k callerA)
    (F : ∀ base : Heap, K.In base → base.Ns mainGlobals mg → FnG P w K mg base k fa fd [x] sp)
    (hbind : ∀ (s : Shared) (u : Value), BindsTo s fd ⟨[u], []⟩ [(x, u)])
    (hsp : sp [.ref a] H (fun v _ => v = .bl true) E0) (hO : Only H) (hok : HOk P w H s₁.heap)
    (hA : ∀ b, H b ≠ none → b = a) (hK : H a ≠ none → K.lookup a = none) :
    codeAny (model P w) callerA (.call (.ref fa) ⟨[.ref a], []⟩)
      (fun r s' => r = .ok (.ret (.bool true)) ∧ OldK s₁.heap s'.heap ∧ s'.os = s₁.os ∧ AllBare s'.gens) s₁ := by
  have noA : ∀ {b : Addr} {o : Obj} {es : Array DictEntry} {ep : Nat},
      s₁.heap.get? b = some o → o.data = .dict es ep → H b = none := by
    intro b o es ep e d
    cases q : H b with
    | none => rfl
    | some u =>
      obtain rfl : b = a := hA b (by simp [q])
      rw [ha] at e
      cases e
      exact absurd d (by intro z; cases z)
  have nsK : ∀ {b : Addr} {m : Str → Option Value}, s₁.heap.Ns b m → (hidT s₁.heap H).Ns b m :=
    fun {b m} ⟨o, es, ep, e, d, r⟩ => ⟨o, es, ep, hidT_get e (noA e d), d, r⟩
  have hKb : K.In (hidT s₁.heap H) := by
    intro b o e
    refine hidT_get (KX b o e) ?_
    cases q : H b with
    | none => rfl
    | some u =>
      obtain rfl : b = a := hA b (by simp [q])
      rw [hK (by simp [q])] at e
      cases e
  have hM : Mod K mg (hidT s₁.heap H) :=
    ⟨hKb, nsK hns, ⟨mb, nsK hb, hbb⟩, let ⟨mc, h1, h2⟩ := hlim; ⟨mc, nsK h1, h2⟩⟩
  have e0 : Env0 P w K mg (hidT s₁.heap H) callerA [] s₁ H :=
    ⟨rfl, hM, fun b o e => of_hidT e, Nat.le_of_eq (hidT_size _ _), trivial,
      fun b hb => absurd (show b ∈ ([] : List Addr) from hb) (by simp), hok, .of_eq hg⟩
  refine codeAny_mono ((F _ hKb (nsK hns)).goes callerA [] s₁ H ⟨[.ref a], []⟩ [.ref a] [.ref a] _ _ hr rfl e0
    (hbind s₁ (.ref a)) (.cons rfl .nil) hsp) fun r s' h => ?_
  cases r with
  | error e => exact h.elim
  | ok fl =>
    cases fl with
    | next => exact False.elim h
    | brk => exact False.elim h
    | cont => exact False.elim h
    | ret u =>
      obtain ⟨v, H', os, bare, un, hok', r', q⟩ := h
      have q' : v = .bl true := q
      subst q'
      obtain rfl : u = Value.bool true := r'
      refine ⟨rfl, OldK.of_keep fun b o e => ?_, os, bare⟩
      cases q : H b with
      | none => exact un.keep b o e q (fun z => absurd (show b ∈ ([] : List Addr) from z) (by simp)) (by simp)
      | some u =>
        rcases hO b with z | ⟨ob, xs, z⟩
        · rw [q] at z
          cases z
        · obtain ⟨e1, _⟩ := hok b _ z
          obtain ⟨e2, _⟩ := hok' b _ (un.frzs b ob _ z)
          rw [e] at e1
          cases e1
          exact e2
theorem lawG_call {P : Program} {w : World} {K : PySem.W.Frag} {mg mb : Str → Option Value} {k : Nat} {fa a : Addr}
    {fd : FuncData} {x : Str} {sp : Sp} {s₁ : Shared} {us : List Value} {ns : List Int}
    (KX : K.In s₁.heap) (hns : s₁.heap.Ns mainGlobals mg) (hb : s₁.heap.Ns builtinsNs mb)
    (hbb : ∀ x : Str, x ≠ "__name__" → mb x = bootBuiltins x) (hlim : s₁.heap.NoLimit) (hg : s₁.gens = #[])
    (ha : s₁.heap.get? a = some { cls := .type "list", data := .seq us.toArray }) (hi : IntsAre us ns)
    (hl : ns.length ≤ sizeLine) (hr : Room k callerA)
    (F : ∀ base : Heap, K.In base → base.Ns mainGlobals mg → FnG P w K mg base k fa fd [x] sp)
    (hbind : ∀ (s : Shared) (u : Value), BindsTo s fd ⟨[u], []⟩ [(x, u)])
    (hsp : ∀ H : Hp, Only H → SqL K H a (ns.map V.int) → sp [.ref a] H (fun v _ => v = .bl true) E0) :
    codeAny (model P w) callerA (.call (.ref fa) ⟨[.ref a], []⟩)
      (fun r s' => r = .ok (.ret (.bool true)) ∧ OldK s₁.heap s'.heap ∧ s'.os = s₁.os ∧ AllBare s'.gens) s₁ := by
  have rv := vals_ints hi
  have len1 := hi.length
  cases hk : K.lookup a with
  | some o =>
    have e := KX a o hk
    rw [ha] at e
    cases e
    have hS : SqL K (fun _ => none) a (ns.map V.int) :=
      Or.inr ⟨_, us.toArray, _, hk, rfl, rfl, rfl, by rw [List.size_toArray, len1]; exact hl, by simpa using rv⟩
    exact lawG_at (H := fun _ => none) (ns := ns) KX hns hb hbb hlim hg ha hr F hbind
      (hsp _ (fun _ => Or.inl rfl) hS) (fun _ => Or.inl rfl)
      (fun b u z => by cases (show (none : Option HO) = some u from z)) (fun b z => absurd rfl z) fun z => absurd rfl z
  | none =>
    let ob : Obj := { cls := .type "list", data := .seq us.toArray }
    let H0 : Hp := fun b => if b = a then some (.frz ob (.lst (ns.map V.int))) else none
    have at0 : H0 a = some (.frz ob (.lst (ns.map V.int))) := if_pos rfl
    have off : ∀ b, b ≠ a → H0 b = none := fun b hb => if_neg hb
    have hO : Only H0 := fun b => by
      by_cases hb : b = a
      · subst hb
        exact Or.inr ⟨_, _, at0⟩
      · exact Or.inl (off b hb)
    have hok : HOk P w H0 s₁.heap := fun b u z => by
      by_cases hb : b = a
      · subst hb
        rw [at0] at z
        cases z
        exact ⟨ha, by rw [List.length_map]; exact hl, us, _, rv, ha⟩
      · rw [off b hb] at z
        cases z
    refine lawG_at (H := H0) (ns := ns) KX hns hb hbb hlim hg ha hr F hbind
      (hsp H0 hO (Or.inl (Or.inr ⟨_, at0⟩))) hO hok (fun b z => ?_) fun _ => hk
    by_cases hb : b = a
    · exact hb
    · exact absurd (off b hb) z
theorem walkG {l : PySem.W.OpenLaw} {n k : Nat} {q : Program} {loose : List Str}
    {XP : (Str → Option Value) → Heap → Prop} {YP : World → Heap → Prop} {d : DefRec}
    {K : Params → PySem.W.Frag} {sp : PySem.W.Frag → Sp} {x : Str} (hn : l.most = some n) (hn2 : n ≤ sizeLine)
    (hdf : d.params.defaults = []) (hr : Room k callerA) (hY : ∀ (w : World) (h : Heap), YP w h → (K w.params).In h)
    (F : ∀ (w : World) (mg : Str → Option Value) (fa : Addr) (h : Heap), (K w.params).In h → h.Ns mainGlobals mg →
      mg d.name = some (.ref fa) → ∃ fd : FuncData, (∀ (s : Shared) (u : Value), BindsTo s fd ⟨[u], []⟩ [(x, u)]) ∧
        ∀ base : Heap, (K w.params).In base → base.Ns mainGlobals mg →
          FnG l.prog w (K w.params) mg base k fa fd [x] (sp (K w.params)))
    (hsp : ∀ (K : PySem.W.Frag) (H : Hp) (a : Addr) (ns : List Int), ns.length ≤ n → Only H →
      SqL K H a (ns.map V.int) → sp K [.ref a] H (fun v _ => v = .bl true) E0) :
    PySem.W.WalkO q loose XP YP l.row.toRowW d [] (fun f vs => PySem.call f vs) := by
  refine Att.attach_call hn hdf fun w s₀ s₁ mg mb fa o pm cd doc a vs ns G Y ho hd hcd hmg hobj hints hlen hg => ?_
  have KX := hY w _ Y
  obtain ⟨fd, hb, hF⟩ := F w mg fa _ KX G.T.g hmg
  exact lawG_call KX G.T.g G.T.b G.T.builtins G.T.nolimit hg hobj hints (Nat.le_trans hlen hn2) hr hF hb
    fun H hO hS => hsp _ H a ns hlen hO hS
end MB
end
section
set_option maxRecDepth 100000
set_option maxHeartbeats 4000000
namespace MB
open PySem PySem.Spec PyProof.Rows L2
section
variable {α : Type}
def one1 : List α → List α → List α
  | [], [a] => [a]
  | _, _ => []
def two2 : List α → List α → List α
  | [], [a, b] => [a, b]
  | _, _ => []
def two2s : List α → List α → List α
  | [], [a, b] => [b, a]
  | _, _ => []
end
theorem kb1 {K : PySem.W.Frag} {fd : FuncData} {p : Str} (h : ∀ a : Value, bindArgs fd ⟨[], [(p, a)]⟩ = pure [(p, a)]) :
    KBinds K fd [p] [p] one1 one1 where
  to := fun s us ws _ hl => by
    match us, ws, hl with
    | [], [a], _ => exact .of_eq (h a)
  rel := fun {vs us zs ws} r rz => by
    cases r with
    | nil =>
      cases rz with
      | nil => exact .nil
      | cons r1 r2 =>
        cases r2 with
        | nil => exact .cons r1 .nil
        | cons _ _ => exact .nil
    | cons _ _ => exact .nil
theorem kb2 {K : PySem.W.Frag} {fd : FuncData} {p q : Str} (h : ∀ a b : Value, bindArgs fd ⟨[], [(p, a), (q, b)]⟩ = pure [(p, a), (q, b)]) :
    KBinds K fd [p, q] [p, q] two2 two2 where
  to := fun s us ws _ hl => by
    match us, ws, hl with
    | [], [a, b], _ => exact .of_eq (h a b)
  rel := fun {vs us zs ws} r rz => by
    cases r with
    | nil =>
      cases rz with
      | nil => exact .nil
      | cons r1 r2 =>
        cases r2 with
        | nil => exact .nil
        | cons r2 r3 =>
          cases r3 with
          | nil => exact .cons r1 (.cons r2 .nil)
          | cons _ _ => exact .nil
    | cons _ _ => exact .nil
theorem kb2s {K : PySem.W.Frag} {fd : FuncData} {p q : Str} (h : ∀ a b : Value, bindArgs fd ⟨[], [(q, b), (p, a)]⟩ = pure [(p, a), (q, b)]) :
    KBinds K fd [p, q] [q, p] two2s two2s where
  to := fun s us ws _ hl => by
    match us, ws, hl with
    | [], [a, b], _ => exact .of_eq (h b a)
  rel := fun {vs us zs ws} r rz => by
    cases r with
    | nil =>
      cases rz with
      | nil => exact .nil
      | cons r1 r2 =>
        cases r2 with
        | nil => exact .nil
        | cons r2 r3 =>
          cases r3 with
          | nil => exact .cons r2 (.cons r1 .nil)
          | cons _ _ => exact .nil
    | cons _ _ => exact .nil
section
variable {X : Cx} {k : Nat} {f : Addr} {fd : FuncData} {ps ks : List Str} {sp : Sp} {x : Str} {p pos : Pos} {kws : List Keyword} {tk : TA}
variable {g : List Value → List Value → List Value} {gV : List V → List V → List V}
theorem pe_callK0 (F : FnOk X.prog X.w X.K X.mg X.base CX0 k f fd ps sp) (hr : Room k X.A) (hg : Gl X x) (hm : X.mg x = some (.ref f))
    (hk : PySem.W.keepIn X.K (.ref f) = true) (hb : KBinds X.K fd ps ks g gV) (hkw : PK X kws tk)
    (hall : (backToKw pos (keywordEach kws X.env)).all (·.1.isSome) = true := by rfl)
    (hks : (backToKw pos (keywordEach kws X.env)).filterMap (·.1) = ks := by rfl)
    (hdb : (x == ("__debug__" : Str)) = false := by decide)
    (hpl : ((backTo pos (starEach [] X.env)).any (·.1) || (backToKw pos (keywordEach kws X.env)).any (·.1.isNone)) = false := by rfl) :
    PE X (.Call (.Name x p) [] kws pos) (fun σ H Q => tk σ H fun zs H1 => sp (gV [] zs) H1 Q E0) := by
  refine ⟨fun pins s σ H Q I h => ?_⟩
  refine wpAny_Call_Name_kw (ld_glob I hg hm ?_ hdb)
  refine PySem.W.callWith_KW0 (h₀ := X.base) I.ok.mod.kin hk hall (thn (hkw.run pos pins s σ H _ I h) fun ws s1 ⟨zs, H1, I1, rz, q1⟩ => ⟨I1.kIn, ?_⟩) hpl
  rw [hks]
  exact run_fnk F hr hb pass0 I1 .nil rz q1
end
end MB
end
section
set_option maxRecDepth 100000
set_option maxHeartbeats 4000000
namespace MB
namespace Er
open PySem PySem.W PySem.Calls PyProof.Rows PySem.HandSPX
abbrev above (B0 : Addr) : List Value := .ref B0 :: PySem.ESX.exTail
def eA (f : Str) (p1 p2 : Pos) : Arguments :=
  { posonlyargs := [], args := [{ arg := "self", annotation := none, pos := p1 }, { arg := f, annotation := none, pos := p2 }], vararg := none,
    kwonlyargs := [], kw_defaults := [], kwarg := none, defaults := [] }
def eB (f msg : Str) (q1 q2 q3 q4 q5 q6 q7 q8 q9 q10 : Pos) : List Stmt :=
  [.Expr (.Call (.Attribute (.Call (.Name "super" q1) [] [] q2) "__init__" q3) [.Constant (.str msg) 0 q4] [] q5) q6,
   .Assign [.Attribute (.Name "self" q7) f q8] (.Name f q9) q10]
def eS (f : Str) : Scope :=
  { kind := .function, names := [(PySem.Str.ofString "self", .local), (f, .local), (PySem.Str.ofString "__class__", .free), (PySem.Str.ofString "super", .globalImplicit)],
    isGenerator := false, isCoroutine := false, more := [] }
structure NameOk (f : Str) : Prop where
  self : (f == ("self" : Str)) = false
  cls : (("__class__" : Str) == f) = false
  sup : (("super" : Str) == f) = false
  dbg : (f == ("__debug__" : Str)) = false
structure Txt (P : Program) (K : Frag) (mg : Str → Option Value) (B0 C fI : Addr) (x f : Str) : Prop where
  gC : mg x = some (.ref C)
  cls : ∃ nm q N bs sn sub ab col dd k0 k1 k2 k3 k5, K.lookup C = some (excClassObj nm q C N bs (above B0) true sn sub ab col dd k0 k1 k2 k3 k5 "Exception.__new__")
  sa : findIn K (.ref C) "__setattr__" = some (some (.builtin "object.__setattr__"))
  al : alongIn K "__init__" (above B0) = some (some (.builtin "Exception.__init__"))
  ga : findIn K (.ref C) "__getattribute__" = some (some (.builtin "BaseException.__getattribute__"))
  gg : findIn K (.ref C) "__getattr__" = some none
  noF : findIn K (.ref C) f = some none
  ov : excOver K C PySem.ESX.exTail = true
  iC : findIn K (.ref C) "__init__" = some (some (.ref fI))
  tC : typeIn K (.ref fI) = some (.type "function")
  kC : keepIn K (.ref C) = true
  exC : subIn K (.ref C) (.type "BaseException") = some true
  exE : subIn K (.ref C) (.type "Exception") = some true
  suC : mroIn K C (.ref C) = some true
  tyC : typeIn K (.ref C) = some (.type "type")
  hdC : hasDictIn K C = true
  te : exmOne K (.ref C) (.ref C) = some true
  op : nsIn K cStatics "thirdparty.any" = some none
  su : mg "super" = none
  top : (P.main.scope.names.lookup ("super" : Str)).isSome = false
  fok : NameOk f
  fn : ∃ (qual msg : Str) (oc : Value) (od : Option Addr) (doc pm : Value) (an : Option Addr) (cda : Addr) (ct : Value) (cc : Addr) (osl : Array (Option Value))
      (p1 p2 q1 q2 q3 q4 q5 q6 q7 q8 q9 q10 : Pos),
    K.lookup fI = some ⟨oc, od, .func (ksFn "__init__" qual (eA f p1 p2) (eB f msg q1 q2 q3 q4 q5 q6 q7 q8 q9 q10) (eS f) .none .none doc pm an (.ref cda) ct cc), osl⟩ ∧
    codeIn K (.ref cda) qual = true ∧ (q3.endLine == q5.line) = true ∧
    (∀ (s : Shared) (a b : Value), BindsTo s (ksFn "__init__" qual (eA f p1 p2) (eB f msg q1 q2 q3 q4 q5 q6 q7 q8 q9 q10) (eS f) .none .none doc pm an (.ref cda) ct cc) ⟨[a, b], []⟩ [("self", a), (f, b)]) ∧
    (∃ (ccl : Value) (cdd : Option Addr) (vs : Array Value) (ccs : Array (Option Value)) (file : Str) (tf : Tok),
      K.lookup cda = some ⟨ccl, cdd, .fields vs, ccs⟩ ∧ vs[2]? = some (.str file tf) ∧ ((P.main.file : Str) == file) = true) ∧
    (∃ (cl : Value) (cld : Option Addr) (csl : Array (Option Value)), K.lookup cc = some ⟨cl, cld, .cell (some (.ref C)), csl⟩)
structure InitEnd (h h' : Heap) (x C dx t1 : Addr) (f : Str) (v : Value) : Prop where
  keep : ∀ b o, b ≠ x → h.get? b = some o → h'.get? b = some o
  obj : h'.get? x = some { cls := .ref C, dict := some dx, data := .fields #[.ref t1, .none, .none, .none, .bool false, .none] }
  dbig : h.objs.size ≤ dx
  dne : dx ≠ x
  ns : h'.Ns1 dx (fun y => if y = f then some v else none)
structure OwnMade (h h' : Heap) (e C d : Addr) (f : Str) (v : Value) : Prop where
  keep : ∀ b o, h.get? b = some o → h'.get? b = some o
  new : h.objs.size ≤ e
  obj : ∃ oe vs, h'.get? e = some oe ∧ oe.cls = .ref C ∧ oe.dict = some d ∧ oe.data = .fields vs ∧ vs[1]? = some .none
  dbig : h.objs.size ≤ d
  dne : d ≠ e
  ns : h'.Ns1 d (fun y => if y = f then some v else none)
theorem one_size (v : Value) : [v].length ≤ sizeLine := by
  rw [sizeLine_eq]
  exact (by decide : 1 ≤ 16777216)
theorem above_contains (B0 : Addr) (X : String) : (above B0).contains (.type X) = PySem.ESX.exTail.contains (.type X) := by
  show ((Value.type X == Value.ref B0) || PySem.ESX.exTail.contains (.type X)) = _
  rw [show (Value.type X == Value.ref B0) = false from rfl, Bool.false_or]
section
open Builtin Builtin.ObjectAttr
variable {prog : Program} {w : World} {A : Around} {R : Result → Shared → Prop} {hp : Heap} {gs : Array GenState} {dr : Drawn} {tk : Nat} {os : OsState}
variable {K : Frag} {name : Str} {tn : Tok} {v : Value} {a C u : Addr}
theorem keeps_first (X : K.In hp) (ha : hp.get? a = some (excO C u)) (ov : excOver K C PySem.ESX.exTail = true) (hd : hasDictIn K C = true)
    (no : findIn K (.ref C) name = some none)
    (goal : ∀ (heap : Heap) (toks : Nat) (t : Addr), (∀ b o, b ≠ a → hp.get? b = some o → heap.get? b = some o) → hp.objs.size ≤ t → t ≠ a →
      heap.get? a = some { cls := .ref C, dict := some t, data := .fields #[.ref u, .none, .none, .none, .bool false, .none] } → heap.Ns1 t (fun y => if y = name then some v else none) →
      R (.ok (.ret .none)) ⟨heap, gs, dr, toks, os⟩) :
    codeAny (model prog w) A (.call (.builtin "object.__setattr__") ⟨[.ref a, .str name tn, v], []⟩) R ⟨hp, gs, dr, tk, os⟩ := by
  have tno : takerIn K C name = some none := by
    unfold takerIn
    rw [no]
    rfl
  have far : a ≠ hp.objs.size := Nat.ne_of_lt (Heap.lt_size ha)
  refine osa_openX (od := none) F.store_Exception X ⟨ha, rfl, rfl, trivial⟩ ov tno fun b => ?_
  obtain ⟨cd, hc, hd'⟩ := any_some hd
  refine wpAny_bind (wpAny_pure (wpAny_bind (instanceDict_exc (c2 := .none) (t := u) ha (looks_clsIn X hc) hd' ?_)))
  show wpAny _ _ (storeInDict hp.objs.size (.str name tn) name v) _ _ _
  have hin : ∀ b o, hp.get? b = some o → (hp.push (dictOf [] 0)).get? b = some o := fun b o e => Heap.get?_push_of_some _ e
  refine store_in_new ⟨_, #[], _, (Heap.get?_update_ne _ _ _ _ far.symm).trans (Heap.get?_push_at rfl rfl), rfl, fun e he => absurd he (by simp), fun _ => rfl⟩ fun h' tk' hn' same => ?_
  refine goal h' tk' hp.objs.size (fun b o hb ho => ?_) (Nat.le_refl _) far.symm ?_ hn'
  · rw [same.2 b (Nat.ne_of_lt (Heap.lt_size ho)), Heap.get?_update_ne _ _ _ _ hb]
    exact hin b o ho
  · rw [same.2 a far]
    exact Heap.get?_update_self _ (hin _ _ ha) rfl
end
section
variable {prog : Program} {w : World} {A : Around} {E : Value → Shared → Prop} {R : Result → Shared → Prop} {K : Frag} {mg : Str → Option Value} {B0 C fI : Addr} {x f : Str}
theorem cls_in (T : Txt prog K mg B0 C fI x f) : ∃ cd, clsIn K C = some cd ∧ cd.mro = .ref C :: above B0 ∧ cd.hasDict = true := by
  obtain ⟨nm, q, N, bs, sn, sub, ab, col, dd, k0, k1, k2, k3, k5, hC⟩ := T.cls
  refine ⟨{ name := nm, bases := bs, mro := .ref C :: above B0, ns := N, qualname := q, hasDict := true, slotNames := sn, subclasses := sub, abstract := ab, collection := col, hasDel := false }, ?_, rfl, rfl⟩
  unfold clsIn
  rw [hC] <;> rfl
theorem init (T : Txt prog K mg B0 C fI x f) {s : Shared} {a t0 : Addr} {v : Value} (X : K.In s.heap) (G : s.heap.Ns mainGlobals mg)
    (Bt : ∃ mb, s.heap.Ns builtinsNs mb ∧ ∀ x : Str, x ≠ "__name__" → mb x = bootBuiltins x) (hlim : s.heap.NoLimit)
    (hx : s.heap.get? a = some (excO C t0)) (hnk : K.lookup a = none) (hroom : A.depth < recursionLimit)
    (hq : ∀ h' tk dx t1, InitEnd s.heap h' a C dx t1 f v → R (.ok (.ret .none)) { s with heap := h', toks := tk }) :
    codeAny (model prog w) A (.call (.ref fI) ⟨[.ref a, v], []⟩) R s := by
  obtain ⟨qual, msg, oc, od, doc, pm, an, cda, ct, cc, osl, p1, p2, q1, q2, q3, q4, q5, q6, q7, q8, q9, q10, ho, hcd, hline, hbind, ⟨ccl, cdd, vs, ccs, file, tf, hcode, hvs, hfile⟩, ⟨cl, cld, csl, hcell⟩⟩ := T.fn
  obtain ⟨nm, q, N, bs, sn, sub, ab, col, dd, k0, k1, k2, k3, k5, hC⟩ := T.cls
  obtain ⟨cd, hcl, hmro, hhd⟩ := cls_in T
  have nself : (eS f).names.lookup ("self" : Str) = some .local := rfl
  have nf : (eS f).names.lookup f = some .local := by
    show List.lookup f [(PySem.Str.ofString "self", NameKind.local), (f, .local), (PySem.Str.ofString "__class__", .free), (PySem.Str.ofString "super", .globalImplicit)] = _
    rw [List.lookup_cons, T.fok.self, List.lookup_cons, beq_self_eq_true]
  have nc : (eS f).names.lookup ("__class__" : Str) = some .free := by
    show List.lookup ("__class__" : Str) [(PySem.Str.ofString "self", NameKind.local), (f, .local), (PySem.Str.ofString "__class__", .free), (PySem.Str.ofString "super", .globalImplicit)] = _
    rw [List.lookup_cons, show (("__class__" : Str) == PySem.Str.ofString "self") = false from by decide, List.lookup_cons, T.fok.cls]
    rfl
  have ns : (eS f).names.lookup ("super" : Str) = some .globalImplicit := by
    show List.lookup ("super" : Str) [(PySem.Str.ofString "self", NameKind.local), (f, .local), (PySem.Str.ofString "__class__", .free), (PySem.Str.ofString "super", .globalImplicit)] = _
    rw [List.lookup_cons, show (("super" : Str) == PySem.Str.ofString "self") = false from by decide, List.lookup_cons, T.fok.sup]
    rfl
  obtain ⟨hp, gs, dr, tk, os⟩ := s
  refine ks_codeAny_call_defAt (fd := ksFn "__init__" qual (eA f p1 p2) (eB f msg q1 q2 q3 q4 q5 q6 q7 q8 q9 q10) (eS f) .none .none doc pm an (.ref cda) ct cc)
    (body := eB f msg q1 q2 q3 q4 q5 q6 q7 q8 q9 q10) (binds := [("self", .ref a), (f, v)]) hroom (X _ _ ho) rfl hlim (codeRec_of X hcd) rfl (hbind _ _ _) ?_ ?_ (fun h₁ hns hk₁ => ?_) rfl rfl rfl
  · intro y hy
    have hy' : y ∈ [(PySem.Str.ofString "self", NameKind.local), (f, .local), (PySem.Str.ofString "__class__", .free), (PySem.Str.ofString "super", .globalImplicit)] := hy
    simp only [List.mem_cons, List.not_mem_nil, or_false] at hy'
    rcases hy' with rfl | rfl | rfl | rfl <;> simp
  · intro y hy
    simp only [List.mem_cons, List.not_mem_nil, or_false] at hy
    rcases hy with rfl | rfl
    · exact nself
    · exact nf
  · have hx₁ := hk₁ _ _ hx
    have X₁ : K.In h₁ := X.keeps hk₁
    obtain ⟨mb, hB, hbb⟩ := Bt
    have hD1 : h₁.get? C = _ := hk₁ _ _ (X _ _ hC)
    have hxC : a ≠ C := fun z => by
      rw [z, hC] at hnk
      cases hnk
    have hin : ∀ h' : Heap, (∀ b o, h₁.get? b = some o → h'.get? b = some o) → Looks (model prog w) h' (isInstance (.ref a) (.type "Exception")) true := fun h' k =>
      (show InstAt h' a (excO C t0) C none from ⟨k _ _ hx₁, rfl, rfl, trivial⟩).type.andThen (looks_subIn (X₁.keeps k) T.exE)
    refine ks_wpAt_execs_cons (ks_wpAt_Expr_any ?_ rfl rfl)
    generalize hE : callEnv (ksFn "__init__" qual (eA f p1 p2) (eB f msg q1 q2 q3 q4 q5 q6 q7 q8 q9 q10) (eS f) .none .none doc pm an (.ref cda) ct cc) (⟨hp, gs, dr, tk, os⟩ : Shared).heap.objs.size fI = env
    have ek : env.scope.kind = .function := by rw [← hE]; rfl
    have es : env.kindOf "super" = some .globalImplicit := by rw [← hE]; exact ns
    have ec : env.kindOf "__class__" = some .free := by rw [← hE]; exact nc
    have e0 : env.kindOf "self" = some .local := by rw [← hE]; exact nself
    have ef : env.kindOf f = some .local := by rw [← hE]; exact nf
    have efu : env.func = some fI := by rw [← hE]; rfl
    have eco : env.code = .ref cda := by rw [← hE]; rfl
    have eg : env.globals = mainGlobals := by rw [← hE]; rfl
    have eb : env.builtins = builtinsNs := by rw [← hE]; rfl
    have el : env.locals = hp.objs.size := by rw [← hE]; rfl
    have ecl : env.cells.lookup ("__class__" : Str) = some cc := by rw [← hE]; rfl
    refine ks_wpAt_MethodCall (pl := (do return (← importBound (.Call (.Name "super" q1) [] [] q2) env).getD true)) ?_ ?he
    case he =>
      rw [arm_eval_Call]
      have hform : methodCallForm ([Expr.Constant (Const.str msg) 0 q4].length + ([] : List Keyword).length) (backTo q5 (starEach [Expr.Constant (Const.str msg) 0 q4] env)) (backToKw q5 (keywordEach [] env)) = true := rfl
      have hpos : methodCallPos true (.Call (.Name "super" q1) [] [] q2) env q3 q5 = pure q5 := by unfold methodCallPos; simp [hline]
      unfold methodCall
      rw [hform]
      simp only [hpos, pure_bind, calleeOf, if_true]
      rfl
    refine ks_wpAt_super_base (f := fI) (cc := cda) es ec (by decide) efu (hk₁ _ _ (X _ _ ho)) rfl rfl eco (hk₁ _ _ (X _ _ hcode)) rfl hvs hfile T.top ?_
    refine ks_loadName_global ek es (loadGlobal_builtin (by rw [eg]; exact G.keeps hk₁) T.su (by rw [eb]; exact hB.keeps hk₁) ((hbb _ (by decide)).trans Boot.«super») ⟨rfl, ?_⟩)
    refine wpAny_loadName_free ek ec ecl ⟨_, hk₁ _ _ (X _ _ hcell), rfl⟩ ?_
    have b0 : List.lookup ("self" : Str) [(("self" : Str), Value.ref a), (f, v)].reverse = some (.ref a) := by
      show List.lookup ("self" : Str) [(f, v), (("self" : Str), Value.ref a)] = _
      rw [List.lookup_cons, show (("self" : Str) == f) = false from by rw [BEq.comm]; exact T.fok.self]
      rfl
    have b1 : List.lookup f [(("self" : Str), Value.ref a), (f, v)].reverse = some v := by
      show List.lookup f [(f, v), (("self" : Str), Value.ref a)] = _
      rw [List.lookup_cons, beq_self_eq_true]
    refine wpAny_loadName_local ek e0 (by rw [el]; exact hns) b0 ?_
    refine ks_wpAny_isType_cls hD1 rfl ⟨rfl, ?_⟩
    refine ks_wpAny_call_super hD1 rfl hx₁ rfl (fun c e => by cases e) (looks_mroIn X₁ T.suC) (fun h₂ e₂ k₂ => ?_)
    have X₂ : K.In h₂ := X₁.keeps k₂
    refine PySem.ESX.getMethod_super e₂ (looks_opaque X₂ T.op) (l₀ := cd.mro) ((looks_clsIn X₂ hcl).andThen .now) (by rw [hmro, PySem.ESX.drop_own]) X₂ T.al hxC (by decide) (hin _ k₂) ?_
    have k₃ : ∀ b o, h₁.get? b = some o → (h₂.push (PySem.ESX.bw a)).get? b = some o := fun b o e => Heap.get?_push_of_some _ (k₂ _ _ e)
    show wpAny _ _ (callWith q5 (.ref h₂.objs.size) [] (backTo q5 (starEach [Expr.Constant (Const.str msg) 0 q4] env)) []) _ _ _
    refine PySem.ESX.callWith_bound (x := a) (spliced_cons (Constant_str (k := 0) (pos := q4) (spliced_nil ⟨Heap.get?_push_at rfl rfl, ?_⟩)))
    refine PySem.ESX.call_bw (k₃ _ _ hD1) (k₃ _ _ hx₁) (Heap.get?_push_at rfl rfl) (one_size _) (fun h₄ t1 k₄ e₄ => ?_)
    have k₅ : ∀ b o, b ≠ a → h₁.get? b = some o → h₄.get? b = some o := fun b o hb e => k₄ b o hb (k₃ b o e)
    have X₄ : K.In h₄ := fun b o e => k₅ b o (fun z => by rw [z, hnk] at e; cases e) (X₁ b o e)
    have hxL : hp.objs.size ≠ a := Nat.ne_of_gt (Heap.lt_size hx)
    have hns₄ : h₄.Ns hp.objs.size (fun y => List.lookup y [(("self" : Str), Value.ref a), (f, v)].reverse) := by
      obtain ⟨oL, es', ep, z1, z2, z3⟩ := hns
      exact ⟨oL, es', ep, k₅ _ _ hxL z1, z2, z3⟩
    refine wpAt_of_wpAny ?_
    show wpAny _ _ (execs [.Assign [.Attribute (.Name "self" q7) f q8] (.Name f q9) q10] env) _ _ _
    refine wpAny_execs_cons (plainObj_wpAny_Assign_Attribute ?_)
    refine wpAny_Name (wpAny_loadName_local ek ef (by rw [el]; exact hns₄) b1 ?_) T.fok.dbg
    refine wpAny_Name (wpAny_loadName_local ek e0 (by rw [el]; exact hns₄) b0 ?_) (by decide)
    refine set_plain X₄ (ox := excO C t1) (od := none) ⟨e₄, rfl, rfl, trivial⟩ T.sa ?_
    refine keeps_first X₄ e₄ T.ov T.hdC T.noF (fun h₆ tk₆ dx k₆ dn dne hx₆ hn₆ => ?_)
    show wpAny _ _ (execs [] env) _ _ _
    have z : hp.objs.size ≤ h₄.objs.size := by
      obtain ⟨oL, es', ep, z1, z2, z3⟩ := hns₄
      exact Nat.le_of_lt (Heap.lt_size z1)
    exact wpAny_execs_nil (hq h₆ _ dx t1 ⟨fun b o hb e => k₆ b o hb (k₅ b o hb (hk₁ b o e)), hx₆, Nat.le_trans z dn, dne, hn₆⟩)
theorem made (T : Txt prog K mg B0 C fI x f) {s : Shared} {v : Value} (X : K.In s.heap) (G : s.heap.Ns mainGlobals mg)
    (Bt : ∃ mb, s.heap.Ns builtinsNs mb ∧ ∀ x : Str, x ≠ "__name__" → mb x = bootBuiltins x) (hlim : s.heap.NoLimit) (hroom : A.depth + 1 < recursionLimit)
    (hq : ∀ h' tk e d, OwnMade s.heap h' e C d f v → R (.ok (.ret (.ref e))) { s with heap := h', toks := tk }) :
    codeAny (model prog w) A (.call (.ref C) ⟨[v], []⟩) R s := by
  obtain ⟨nm, q, N, bs, sn, sub, ab, col, dd, k0, k1, k2, k3, k5, hC⟩ := T.cls
  obtain ⟨mb, hB, hbb⟩ := Bt
  obtain ⟨hp, g, dr, tk, os⟩ := s
  have k : ∀ b o, hp.get? b = some o → ((hp.push (kdv_tup [v])).push (excO C hp.objs.size)).get? b = some o := fun b o e => Heap.get?_push_of_some _ (Heap.get?_push_of_some _ e)
  have hget : ((hp.push (kdv_tup [v])).push (excO C hp.objs.size)).get? (hp.objs.size + 1) = some (excO C hp.objs.size) := by heap_get
  have hnx : K.lookup (hp.objs.size + 1) = none := by
    cases e : K.lookup (hp.objs.size + 1) with
    | none => rfl
    | some o =>
      have z : hp.get? (hp.objs.size + 1) = some o := X _ _ e
      exact absurd (Nat.lt_of_succ_lt (Heap.lt_size z)) (Nat.lt_irrefl _)
  refine call_own F.excBase_Exception (fun Y => above_contains B0 Y) (X _ _ hC) (looks_findIn X T.iC) (fun self => bind_fn X self T.tC) (one_size v) ?_
  refine init (s := ⟨(hp.push (kdv_tup [v])).push (excO C hp.objs.size), g, dr, tk, os⟩) T (X.keeps k) (G.keeps k) ⟨mb, hB.keeps k, hbb⟩ (hlim.keeps k) hget hnx ?_ fun h' tk' dx t1 ⟨k', hx, dn, dne, hns⟩ => ?_
  · show A.depth + 1 < recursionLimit
    exact hroom
  · have old : ∀ b o, hp.get? b = some o → h'.get? b = some o := fun b o e => k' b o (Nat.ne_of_lt (Nat.lt_succ_of_lt (Heap.lt_size e))) (k b o e)
    have z : hp.objs.size + 1 + 1 ≤ dx := by
      first
        | (simpa only [Heap.size_push] using dn)
        | exact dn
        | (have q := dn; rw [Heap.size_push, Heap.size_push] at q; exact q)
    exact ⟨rfl, hq h' tk' (hp.objs.size + 1) dx ⟨old, Nat.le_succ _, ⟨_, _, hx, rfl, rfl, rfl, rfl⟩, Nat.le_trans (Nat.le_trans (Nat.le_succ _) (Nat.le_succ _)) z, dne, hns⟩⟩
end
theorem meets_self {K : PySem.W.Frag} {S : Addr} (h1 : PySem.W.subIn K (.ref S) (.type "BaseException") = some true) (h2 : PySem.W.isClsIn K S = true)
    (h3 : PySem.W.typeIn K (.ref S) = some (.type "type")) (h4 : PySem.W.subIn K (.ref S) (.ref S) = some true) : PySem.W.exmOne K (.ref S) (.ref S) = some true := by
  have e1 : (PySem.W.subIn K (.ref S) (.type "BaseException") == some true) = true := by rw [h1] <;> rfl
  have e2 : ((PySem.W.clsIn K S).isSome && PySem.W.typeIn K (.ref S) == some (.type "type")) = true := by
    have h2' : (PySem.W.clsIn K S).isSome = true := h2
    rw [h2', h3] <;> rfl
  show (if (PySem.W.subIn K (.ref S) (.type "BaseException") == some true) = true then (if ((PySem.W.clsIn K S).isSome && PySem.W.typeIn K (.ref S) == some (.type "type")) = true then PySem.W.subIn K (.ref S) (.ref S) else none) else none) = some true
  rw [if_pos e1, if_pos e2]
  exact h4
theorem of {P : Program} {K : Frag} {h : Heap} {mg : Str → Option Value} {B0 C fI : Addr} {x f : Str} (X : K.In h) (G : h.Ns mainGlobals mg)
    {nm q : Str} {N : Addr} {bs : List Value} {sn : List Str} {sub : List Value} {ab : Bool} {col : Option Bool} {dd : Option Addr} {m0 m1 m2 m3 m5 : Option Value}
    {nm' q' : Str} {N' : Addr} {bs' : List Value} {sn' : List Str} {sub' : List Value} {ab' : Bool} {col' : Option Bool} {dd' : Option Addr} {n0 n1 n2 n3 n5 : Option Value}
    {qual msg : Str} {oc : Value} {od : Option Addr} {doc pm : Value} {an : Option Addr} {cda : Addr} {ct : Value} {cc : Addr} {osl : Array (Option Value)}
    {p1 p2 q1 q2 q3 q4 q5 q6 q7 q8 q9 q10 : Pos} {ccl : Value} {cdd : Option Addr} {vs : Array Value} {ccs : Array (Option Value)} {file : Str} {tf : Tok} {cl : Value} {cld : Option Addr} {csl : Array (Option Value)}
    (aC : nsIn K mainGlobals x = some (some (.ref C)))
    (lB : K.lookup B0 = some (excClassObj nm' q' B0 N' bs' PySem.ESX.exTail true sn' sub' ab' col' dd' n0 n1 n2 n3 n5 "Exception.__new__"))
    (fB : findIn K (.ref B0) "__init__" = some (some (.builtin "Exception.__init__")))
    (lC : K.lookup C = some (excClassObj nm q C N bs (above B0) true sn sub ab col dd m0 m1 m2 m3 m5 "Exception.__new__"))
    (sa : findIn K (.ref C) "__setattr__" = some (some (.builtin "object.__setattr__")))
    (ga : findIn K (.ref C) "__getattribute__" = some (some (.builtin "BaseException.__getattribute__")))
    (gg : findIn K (.ref C) "__getattr__" = some none) (noF : findIn K (.ref C) f = some none)
    (iC : findIn K (.ref C) "__init__" = some (some (.ref fI))) (tC : typeIn K (.ref fI) = some (.type "function"))
    (kC : keepIn K (.ref C) = true) (exC : subIn K (.ref C) (.type "BaseException") = some true) (exE : subIn K (.ref C) (.type "Exception") = some true)
    (suC : mroIn K C (.ref C) = some true) (ssC : subIn K (.ref C) (.ref C) = some true) (isC : isClsIn K C = true)
    (tyC : typeIn K (.ref C) = some (.type "type")) (hdC : hasDictIn K C = true)
    (op : nsIn K cStatics "thirdparty.any" = some none) (su : nsIn K mainGlobals "super" = some none)
    (lI : K.lookup fI = some ⟨oc, od, .func (ksFn "__init__" qual (eA f p1 p2) (eB f msg q1 q2 q3 q4 q5 q6 q7 q8 q9 q10) (eS f) .none .none doc pm an (.ref cda) ct cc), osl⟩)
    (cI : codeIn K (.ref cda) qual = true) (lc : K.lookup cda = some ⟨ccl, cdd, .fields vs, ccs⟩) (lcc : K.lookup cc = some ⟨cl, cld, .cell (some (.ref C)), csl⟩)
    (top : (P.main.scope.names.lookup ("super" : Str)).isSome = false) (line : (q3.endLine == q5.line) = true) (fl : vs[2]? = some (.str file tf)) (fi : ((P.main.file : Str) == file) = true)
    (fok : NameOk f)
    (bi : ∀ (s : Shared) (a b : Value), BindsTo s (ksFn "__init__" qual (eA f p1 p2) (eB f msg q1 q2 q3 q4 q5 q6 q7 q8 q9 q10) (eS f) .none .none doc pm an (.ref cda) ct cc) ⟨[a, b], []⟩ [("self", a), (f, b)]) :
    Txt P K mg B0 C fI x f where
  gC := mg_of X G aC
  cls := ⟨_, _, _, _, _, _, _, _, _, _, _, _, _, _, lC⟩
  sa := sa
  al := by
    have e := fB
    unfold findIn at e
    dsimp only at e
    rw [lB] at e
    exact e
  ga := ga
  gg := gg
  noF := noF
  ov := by
    unfold excOver clsIn
    rw [lC]
    show ((C == C) && (PySem.ESX.exTail == PySem.ESX.exTail)) = true
    rw [beq_self_eq_true, beq_self_eq_true]
    rfl
  iC := iC
  tC := tC
  kC := kC
  exC := exC
  exE := exE
  suC := suC
  tyC := tyC
  hdC := hdC
  te := meets_self exC isC tyC ssC
  op := op
  su := mg_none_of X G su
  top := top
  fok := fok
  fn := ⟨_, _, _, _, _, _, _, _, _, _, _, _, _, _, _, _, _, _, _, _, _, _, _, lI, cI, line, bi, ⟨_, _, _, _, _, _, lc, fl, fi⟩, ⟨_, _, _, lcc⟩⟩
end Er
open PySem PySem.Spec PyProof.Rows L2
theorem relO_one {f : Str} {v : V} {v' : Value} (r : RelV v v') (y : Str) : RelO (List.lookup y [(f, v)]) (if y = f then some v' else none) := by
  by_cases hw : y = f
  · subst hw
    rw [if_pos rfl]
    have q : List.lookup y [(y, v)] = some v := by simp [List.lookup]
    rw [q]
    exact r
  · rw [if_neg hw]
    have qw : (y == f) = false := by simpa using hw
    have q2 : List.lookup y [(f, v)] = none := by simp [List.lookup, qw]
    rw [q2]
    trivial
section
variable {X : Cx} {B0 C fI : Addr} {x f : Str}
def tMkErr (C : Addr) (f : Str) (ta : TA) : L2.St → Hp → XK → Prop := fun σ H Q => ta σ H fun vs H1 => ∃ v, vs = [v] ∧ ∀ d, H1 d = none → Q (.ref C) (some d) (upd H1 d (.xd [(f, v)]))
theorem pmk_err {a : Expr} {ta : TA} {p pos : Pos} {k : Nat} (T : Er.Txt X.prog X.K X.mg B0 C fI x f) (hr : Room k X.A) (ha : PA X [a] ta) (hg : Gl X x) (hdb : (x == ("__debug__" : Str)) = false := by decide)
    (he : starEach (a :: []) X.env = (false, eval a X.env) :: starEach [] X.env := by rfl) (hpl : (backTo pos (starEach [] X.env)).any (·.1) = false := by rfl) :
    PMk X (.Call (.Name x p) [a] [] pos) (tMkErr C f ta) := by
  intro pins s σ H Q I h
  refine wpAny_Call_Name_kw (ld_glob I hg T.gC ?_ hdb)
  refine PySem.W.callWith_K (h₀ := X.base) I.ok.mod.kin T.kC (thn (ha.run pos pins s σ H _ I h) fun us s1 hh => ?_) he hpl
  obtain ⟨vs, H1, I1, r1, v, ev, q1⟩ := hh
  subst ev
  refine ⟨I1.kIn, ?_⟩
  cases r1 with
  | cons rv rn =>
    rename_i v' us'
    cases rn
    show wpAny _ _ (call (.ref C) [v']) _ _ _
    have hlim := I1.nolimit
    have hG := I1.mod.glob.keeps I1.bk
    have hBt : ∃ mb, s1.heap.Ns builtinsNs mb ∧ ∀ x : Str, x ≠ "__name__" → mb x = bootBuiltins x := by
      obtain ⟨mb, z1, z2⟩ := I1.mod.blt
      exact ⟨mb, z1.keeps I1.bk, z2⟩
    obtain ⟨hp, g, dr, tk, os⟩ := s1
    refine wpAny_call (Er.made T I1.kIn hG hBt hlim (by have := hr.dp; omega) fun h' tk' e d M => ?_)
    show MkP X pins σ Q (.ref e) ⟨h', g, dr, tk', os⟩
    obtain ⟨oe, fv, hoe, hc, hd, hdat, h1⟩ := M.obj
    have hns := M.ns
    obtain ⟨G', g1, g2⟩ := restrict h' fun b => decide (b ≠ e)
    have gk : ∀ b, b ≠ e → G'.get? b = h'.get? b := fun b hb => g1 b (decide_eq_true hb)
    have ge : G'.get? e = none := g2 e (by simp)
    have old : ∀ b o, hp.get? b = some o → G'.get? b = some o := fun b o q => (gk b (Nat.ne_of_lt (Nat.lt_of_lt_of_le (Heap.lt_size q) M.new))).trans (M.keep b o q)
    have ob : ObjOk X.prog X.w (upd H1 d (.xd [(f, v)])) G' d (.xd [(f, v)]) :=
      ⟨_, hns.at (fun o q => (gk d M.dne).trans q), fun y => relO_one rv y⟩
    have J : Inv X pins σ (upd H1 d (.xd [(f, v)])) ⟨G', g, dr, tk', os⟩ := I1.laid (t' := tk') old M.dbig ob
    refine ⟨e, oe, fv, ⟨G', g, dr, tk', os⟩, _, .ref C, some d, rfl, J, fun b o q => ?_, ge, hoe, ⟨hc, hd⟩, hdat, h1, ?_, rfl, I1.bare, raises_own T.exC T.tyC, q1 d (I1.hok.fresh M.dbig)⟩
    · by_cases hb : b = e
      · have q' : G'.get? b = some o := q
        rw [hb, ge] at q'; cases q'
      · exact (gk b hb).symm.trans q
    · rw [upd_ne (Ne.symm M.dne)]
      exact I1.hok.fresh M.new
def tRaiseErr (C : Addr) (f : Str) (W : WX) (ta : TA) : TS := fun _ σ H => tMkErr C f ta σ H fun cls d H' => W cls d σ H'
theorem ps_raiseErr {a : Expr} {ta : TA} {W : WX} {p pos pos2 : Pos} {k : Nat} (hc : X.calm = true) (T : Er.Txt X.prog X.K X.mg B0 C fI x f) (hr : Room k X.A) (tk : Takes X W) (ha : PA X [a] ta) (hg : Gl X x) (hdb : (x == ("__debug__" : Str)) = false := by decide)
    (he : starEach (a :: []) X.env = (false, eval a X.env) :: starEach [] X.env := by rfl) (hpl : (backTo pos (starEach [] X.env)).any (·.1) = false := by rfl) :
    PS X (.Raise (some (.Call (.Name x p) [a] [] pos)) none pos2) (tRaiseErr C f W ta) := ps_raise hc tk (pmk_err T hr ha hg hdb he hpl)
section
variable {CX : CXT} {k : Nat} {g : Addr} {fd : FuncData} {ps ks : List Str} {sp : Sp} {E : L2.St → XK} {nm : Str} {p pos : Pos} {kws : List Keyword} {tk : TA}
variable {gu : List Value → List Value → List Value} {gV : List V → List V → List V}
def tCallK0S (sp : Sp) (gV : List V → List V → List V) (E : L2.St → XK) (tk : TA) : TE := fun σ H Q => tk σ H fun zs H1 => sp (gV [] zs) H1 Q (E σ)
theorem pe_callK0S (F : FnOk X.prog X.w X.K X.mg X.base CX k g fd ps sp) (hr : Room k X.A) (hg : Gl X nm) (hm : X.mg nm = some (.ref g))
    (hk : PySem.W.keepIn X.K (.ref g) = true) (hb : KBinds X.K fd ps ks gu gV) (hx : ∀ σ, PassesAt CX X σ (E σ)) (hkw : PK X kws tk)
    (hall : (backToKw pos (keywordEach kws X.env)).all (·.1.isSome) = true := by rfl)
    (hks : (backToKw pos (keywordEach kws X.env)).filterMap (·.1) = ks := by rfl)
    (hdb : (nm == ("__debug__" : Str)) = false := by decide)
    (hpl : ((backTo pos (starEach [] X.env)).any (·.1) || (backToKw pos (keywordEach kws X.env)).any (·.1.isNone)) = false := by rfl) :
    PE X (.Call (.Name nm p) [] kws pos) (tCallK0S sp gV E tk) := by
  refine ⟨fun pins s σ H Q I h => ?_⟩
  refine wpAny_Call_Name_kw (ld_glob I hg hm ?_ hdb)
  refine PySem.W.callWith_KW0 (h₀ := X.base) I.ok.mod.kin hk hall (thn (hkw.run pos pins s σ H _ I h) fun ws s1 ⟨zs, H1, I1, rz, q1⟩ => ⟨I1.kIn, ?_⟩) hpl
  rw [hks]
  have r2 := hb.rel (vs := []) (us := []) .nil rz
  have hl : (gu [] ws).length = ps.length := by rw [← r2.length]; exact F.len _ _ _ _ q1
  refine wpAny_call (codeAny_mono (F.run X.A X.stack s1 H1 ⟨[], ks.zip ws⟩ (gu [] ws) (gV [] zs) Q (E σ) hr I1.env0 (hb.to s1 [] ws I1.kIn hl) r2 q1) fun r s' hq => ?_)
  cases r with
  | error e => exact hx σ pins H1 s1 e s' I1 hq
  | ok fl =>
    cases fl with
    | ret u => exact I1.after hq
    | next | brk | cont => exact False.elim hq
end
theorem Er.Txt.xf {P : Program} {K : PySem.W.Frag} {mg : Str → Option Value} (T : Er.Txt P K mg B0 C fI x f) : XfC K C := ⟨T.ga, T.gg, T.exC, T.hdC⟩
end
end MB
end
section
set_option maxRecDepth 100000
namespace MB
open PySem PySem.Spec PyProof.Rows L2
structure Clause where
  cls : Value
  slot : Option Nat
  ts : Addr → Value → Option Addr → TS
def offAt (i : Nat) (D : Ends) : Ends :=
  { nx := fun σ H => D.nx (σ.set i none) H, rt := D.rt, bk := fun σ H => D.bk (σ.set i none) H, ct := fun σ H => D.ct (σ.set i none) H }
def Clause.goes (c : Clause) (D : Ends) (a : Addr) (cls : Value) (d : Option Addr) (σ : L2.St) (H : Hp) : Prop :=
  match c.slot with
  | none => c.ts a cls d D σ H
  | some i => c.ts a cls d (offAt i D) (σ.set i (some (.ref a))) H
def wMix (K : PySem.W.Frag) (Wout : WX) (D : Ends) : List Clause → WX
  | [] => Wout
  | c :: r => fun cls d σ H => ∃ hit, PySem.W.exmOne K cls c.cls = some hit ∧
      (hit = true → ∀ a, H a = none → c.goes D a cls d σ H) ∧ (hit = false → wMix K Wout D r cls d σ H)
inductive Clauses (X : Cx) : List ExceptHandler → List Clause → Prop
  | nil : Clauses X [] []
  | bare {x : Str} {c : Value} {ts : Addr → Value → Option Addr → TS} {b₀ : Stmt} {suite : List Stmt} {np hp : Pos} {hds : List ExceptHandler} {l : List Clause}
      (nm : Names X x c) (su : ∀ (a : Addr) (oe : Obj) (cls : Value) (d : Option Addr) (pn : List (Addr × Obj)), Zc cls d oe → (∃ vs, oe.data = .fields vs) →
        PSs (X.suite a ((a, oe) :: pn)) (b₀ :: suite) (ts a cls d)) (more : Clauses X hds l) :
      Clauses X (.ExceptHandler (some (.Name x np)) none (b₀ :: suite) hp :: hds) (⟨c, none, ts⟩ :: l)
  | named {x n : Str} {c : Value} {i : Nat} {ts : Addr → Value → Option Addr → TS} {b₀ : Stmt} {suite : List Stmt} {np hp : Pos} {hds : List ExceptHandler} {l : List Clause}
      (nm : Names X x c) (at_ : X.N[i]? = some n) (loc : X.env.kindOf n = some .local)
      (su : ∀ (a : Addr) (oe : Obj) (cls : Value) (d : Option Addr) (pn : List (Addr × Obj)), Zc cls d oe → (∃ vs, oe.data = .fields vs) →
        PSs (X.suite a ((a, oe) :: pn)) (b₀ :: suite) (ts a cls d)) (more : Clauses X hds l) :
      Clauses X (.ExceptHandler (some (.Name x np)) (some n) (b₀ :: suite) hp :: hds) (⟨c, some i, ts⟩ :: l)
structure Met (X : Cx) (pins : List (Addr × Obj)) (σ : L2.St) (H : Hp) (B : Heap) (a : Addr) (cls : Value) (d : Option Addr) (sI : Shared) (s : Shared) : Prop where
  inv : Inv X pins σ H sI
  gr : ∀ b o, sI.heap.get? b = some o → b ∉ frs X.stack → B.get? b = some o
  fly : HandSPX.FlyingZ B (X.env :: X.outer) a (Zc cls d) s.heap
  up : sI.heap.UpToSlots s.heap
  un : H a = none
  os : s.os = sI.os
  ba : AllBare s.gens
section
variable {X : Cx} {pins : List (Addr × Obj)} {σ : L2.St} {H : Hp} {B : Heap} {a : Addr} {cls : Value} {d : Option Addr} {sI s : Shared}
theorem Met.here (m : Met X pins σ H B a cls d sI s) : Inv X pins σ H s := m.inv.landed m.gr m.fly.1 m.up m.os m.ba
theorem Met.inSuite (m : Met X pins σ H B a cls d sI s) (hf : X.env.frame = some X.env.locals) :
    ∃ oe vs, s.heap.get? a = some oe ∧ Zc cls d oe ∧ oe.data = .fields vs ∧ Inv (X.suite a ((a, oe) :: (X.pn ++ pins))) [] σ H s := by
  obtain ⟨oe, vs, e, z, dt⟩ := m.fly.there
  have out : a ∉ frs (X.env :: X.outer) := fun hm => by
    obtain ⟨_, o', e', no⟩ := m.fly.2.2.1.mem hm
    rw [e] at e'
    cases e'
    exact no _ dt
  refine ⟨oe, vs, e, z, dt, m.here.suite e dt m.un (fun q => out ?_) fun hm => out ?_⟩
  · exact List.mem_filterMap.mpr ⟨X.env, List.mem_cons_self, by rw [hf, q]⟩
  · obtain ⟨v, hv, q⟩ := List.mem_filterMap.mp hm
    exact List.mem_filterMap.mpr ⟨v, List.mem_cons_of_mem _ hv, q⟩
theorem Met.on {Wout : WX} {D : Ends} (m : Met X pins σ H B a cls d sI s) (hs : X.stack = X.env :: X.outer) (hf : X.env.frame = some X.env.locals) (tk : Takes X Wout) (w : Wout cls d σ H) :
    wpAny (model X.prog X.w) X.A (handleBy (.ref a) X.env []) (SP X pins D) X.xe s := by
  have fl := m.fly
  obtain ⟨_, _, _, oe, vs, T, _, _, e, _, dt, one, _⟩ := id fl
  refine wpAny_handleBy_nil ?_
  unfold PySem.passOn
  refine wpAny_bind (wpAny_field e dt one ?_)
  rw [if_neg (show ¬ ((Value.ref T == Value.none) = true) from by simp)]
  have away : wpAny (model X.prog X.w) X.A (setFlight (.ref a) X.env.frame) (fun _ s4 => wpAny (model X.prog X.w) X.A (throw (.ref a) : Sem Flow) (SP X pins D) X.xe s4) X.xe s := by
    rw [hf]
    refine HandSPX.setFlight_upZ fl fun h4 held up4 => wpAny_throw (tk _ _ ?_)
    exact ⟨a, B, sI, pins, σ, H, cls, d, rfl, m.inv, m.gr, m.up.trans up4, .inr (.inr (by rw [hs]; exact held)), m.un, m.os, m.ba, w⟩
  first
    | exact wpAny_bind (wpAny_pure (wpAny_bind away))
    | exact wpAny_bind away
theorem Met.clauses {Wout : WX} {D : Ends} (hs : X.stack = X.env :: X.outer) (hf : X.env.frame = some X.env.locals) (nd : X.N.Nodup) (tk : Takes X Wout)
    {hds : List ExceptHandler} {l : List Clause} (hc : Clauses X hds l) (m : Met X pins σ H B a cls d sI s) (w : wMix X.K Wout D l cls d σ H) :
    wpAny (model X.prog X.w) X.A (handleBy (.ref a) X.env hds) (SP X pins D) X.xe s := by
  have ok := m.inv.ok
  obtain ⟨oe, vs, e, z, dt, S⟩ := m.inSuite hf
  have typ : PySem.W.Looks (model X.prog X.w) s.heap (typeOf (.ref a)) cls := fun A Q E s' k q => wpAny_typeOf_ref (k _ _ e) (by rw [z.1]; exact q)
  have reads : ∀ {x : Str} {c : Value} {np : Pos} {Q : Value → Shared → Prop} {E : Value → Shared → Prop}, Names X x c → Q c s →
      wpAny (model X.prog X.w) (X.A.mark (some (.ref a))) (eval (.Name x np) X.env) Q E s := fun {x c np Q E} nm q => by
    obtain ⟨g, db, h | ⟨h, bv, nn⟩⟩ := nm
    · exact ld_glob (X := X.suite a ((a, oe) :: (X.pn ++ pins))) S g h q db
    · exact ld_blt (X := X.suite a ((a, oe) :: (X.pn ++ pins))) S g h bv q nn db
  induction hc with
  | nil => exact m.on hs hf tk w
  | @bare x c ts b₀ suite np hp hds2 l2 nm su more ih =>
    obtain ⟨hit, he, yes, no⟩ := w
    refine wpAny_handleBy_cons (codeAny_handlers_test ?_) (by intro q; cases q)
    refine reads nm ((PySem.W.exm_one (M := model X.prog X.w) m.here.kIn typ he).here ?_)
    cases hit with
    | false => exact ih (no rfl)
    | true =>
      refine codeAny_handlers_suite ?_
      refine HandSPX.lands_againZ m.fly fun h4 fl4 up4 => ?_
      have m4 : Met X pins σ H B a cls d sI { s with heap := h4 } := ⟨m.inv, m.gr, fl4, m.up.trans up4, m.un, m.os, m.ba⟩
      obtain ⟨oe4, vs4, e4, z4, dt4, S4⟩ := m4.inSuite hf
      refine wpAny_mono ((su a oe4 cls d (X.pn ++ pins) z4 ⟨_, dt4⟩).run [] _ _ H _ S4 (yes rfl a m.un)) (fun f s6 r => ?_) (fun _ _ z => False.elim z)
      cases f with
      | ret u =>
        obtain ⟨v6, σ6, H6, S6, r6, q6⟩ := r
        exact ⟨v6, σ6, H6, S6.unsuite ok, r6, q6⟩
      | next | brk | cont =>
        obtain ⟨σ6, H6, S6, q6⟩ := r
        exact ⟨σ6, H6, S6.unsuite ok, q6⟩
  | @named x n c i ts b₀ suite np hp hds2 l2 nm at_ loc su more ih =>
    obtain ⟨hit, he, yes, no⟩ := w
    refine wpAny_handleBy_cons (codeAny_handlers_test ?_) (by intro q; cases q)
    refine reads nm ((PySem.W.exm_one (M := model X.prog X.w) m.here.kIn typ he).here ?_)
    cases hit with
    | false => exact ih (no rfl)
    | true =>
      refine codeAny_handlers_suite_as ?_
      refine HandSPX.lands_againZ m.fly fun h4 fl4 up4 => ?_
      have m4 : Met X pins σ H B a cls d sI { s with heap := h4 } := ⟨m.inv, m.gr, fl4, m.up.trans up4, m.un, m.os, m.ba⟩
      obtain ⟨oe4, vs4, e4, z4, dt4, S4⟩ := m4.inSuite hf
      refine store_ok (X := X.suite a ((a, oe4) :: (X.pn ++ pins))) (v := .ref a) S4 nd at_ (.inl loc) rfl (fun s5 S5 => ?_) (.inr loc)
      refine wpAny_mono ((su a oe4 cls d (X.pn ++ pins) z4 ⟨_, dt4⟩).run [] s5 _ H _ S5 (yes rfl a m.un)) (fun f s6 r => ?_) (fun _ _ z => False.elim z)
      cases f with
      | ret u =>
        obtain ⟨v6, σ6, H6, S6, r6, q6⟩ := r
        exact gone_ok (S6.unsuite ok) nd at_ loc fun s7 J7 => ⟨v6, _, H6, J7, r6, q6⟩
      | next | brk | cont =>
        obtain ⟨σ6, H6, S6, q6⟩ := r
        exact gone_ok (S6.unsuite ok) nd at_ loc fun s7 J7 => ⟨_, H6, J7, q6⟩
end
section
variable {X : Cx} {body : List Stmt} {h₀ : ExceptHandler} {hds : List ExceptHandler} {l : List Clause} {pos : Pos} {tb : WX → TS} {Wout : WX}
theorem ps_tryMix (hs : X.stack = X.env :: X.outer) (hf : X.env.frame = some X.env.locals) (nd : X.N.Nodup) (tk : Takes X Wout)
    (hb : ∀ (W : WX) (pn : List (Addr × Obj)) (xe : Value → Shared → Prop), Takes (X.tr pn xe) W → PassesOwn (model X.prog X.w) X.A X.env xe → PSs (X.tr pn xe) body (tb W))
    (hc : Clauses X (h₀ :: hds) l) : PS X (.Try body (h₀ :: hds) [] [] pos) (fun D σ H => tb (wMix X.K Wout D l) D σ H) := by
  refine ⟨fun pins s σ H D I q => ?_⟩
  have ok := I.ok
  have hfr : X.A.frames = some (X.env :: X.outer) := by rw [ok.frames, hs]
  let out : Value → Shared → Prop := fun e s₁ => wpAny (model X.prog X.w) X.A (noteFrame e X.env) (fun _ s₂ => wpAny (model X.prog X.w) X.A (setFlight e none)
    (fun _ s₃ => wpAny (model X.prog X.w) X.A (handleBy e X.env (h₀ :: hds)) (SP X pins D) X.xe s₃) X.xe s₂) X.xe s₁
  have run := (hb (wMix X.K Wout D l) (X.pn ++ pins) out (fun u s' xx => by
    obtain ⟨a, B, sI, pins', σ', H', cls, d, rfl, J', gr, up, sky, un, os, ba, w⟩ := xx
    refine Sky.land Zc.steady hfr hf (by rw [← hs]; exact sky) fun h3 fl3 up3 => ?_
    exact Met.clauses hs hf nd tk hc (B := B) (sI := sI) ⟨J'.ofTry ok, gr, fl3, up.trans up3, un, os, ba⟩ w) PassesOwn.looking).run [] s σ H D (I.toTry _) q
  refine wpAny_Try_except (wpAny_mono run (fun f s1 r => ?_) (fun e s1 he => he))
  cases f with
  | next =>
    obtain ⟨σ', H', J', q'⟩ := r
    exact wpAny_execs_nil ⟨σ', H', J'.ofTry ok, q'⟩
  | brk | cont =>
    obtain ⟨σ', H', J', q'⟩ := r
    exact ⟨σ', H', J'.ofTry ok, q'⟩
  | ret u =>
    obtain ⟨v, σ', H', J', rv, q'⟩ := r
    exact ⟨v, σ', H', J'.ofTry ok, rv, q'⟩
end
end MB
end
section
set_option maxRecDepth 100000
namespace MB
open PySem PySem.Spec PyProof.Rows L2
section
variable {K : PySem.W.Frag} {H H' : Hp}
theorem TyX.same {v : V} {t : Value} (h : TyX K H v t) (e : Same H H') : TyX K H' v t := by
  cases h with
  | base b =>
    cases b with
    | non => exact .base .non
    | bl x => exact .base (.bl x)
    | int i => exact .base (.int i)
    | str x => exact .base (.str x)
    | flt x => exact .base (.flt x)
    | lst q => exact .base (.lst (e _ _ q))
    | frz q => exact .base (.frz (e _ _ q))
    | tup q => exact .base (.tup (e _ _ q))
    | dK q => exact .base (.dK (e _ _ q))
    | dT q => exact .base (.dT (e _ _ q))
    | ins q c1 c2 c3 c4 c5 => exact .base (.ins (e _ _ q) c1 c2 c3 c4 c5)
  | byt b => exact .byt b
  | set q => exact .set (e _ _ q)
  | kList q c => exact .kList q c
  | kTuple q c => exact .kTuple q c
  | kDict q c => exact .kDict q c
  | fTuple q => exact .fTuple (e _ _ q)
  | fDict q => exact .fDict (e _ _ q)
def TupQ (K : PySem.W.Frag) (H : Hp) (v : V) : Option (List V) → Prop
  | some xs => ∃ a, v = .ref a ∧ SqT K H a xs
  | none => ∃ t, TyX K H v t ∧ PySem.W.kitOne K t (.type "tuple") = some false
def IntQ (K : PySem.W.Frag) (H : Hp) (v : V) : Option Int → Prop
  | some i => v = .int i
  | none => (∃ b, v = .bl b) ∨ ∃ t, TyX K H v t ∧ PySem.W.kitOne K t (.type "int") = some false
theorem sqT_same {a : Addr} {xs : List V} (e : Same H H') (h : SqT K H a xs) : SqT K H' a xs := by
  rcases h with (q | ⟨o, q⟩) | q
  · exact .inl (.inl (e _ _ q))
  · exact .inl (.inr ⟨o, e _ _ q⟩)
  · exact .inr q
theorem TupQ.same {v : V} {o : Option (List V)} (h : TupQ K H v o) (e : Same H H') : TupQ K H' v o := by
  cases o with
  | some xs =>
    obtain ⟨a, h1, h2⟩ := h
    exact ⟨a, h1, sqT_same e h2⟩
  | none =>
    obtain ⟨t, h1, h2⟩ := h
    exact ⟨t, TyX.same h1 e, h2⟩
theorem IntQ.same {v : V} {o : Option Int} (h : IntQ K H v o) (e : Same H H') : IntQ K H' v o := by
  cases o with
  | some i => exact h
  | none =>
    rcases h with h | ⟨t, h1, h2⟩
    · exact .inl h
    · exact .inr ⟨t, TyX.same h1 e, h2⟩
theorem IntQ.seen {v : V} {o : Option Int} (h : IntQ K H v o) : (∃ i, o = some i ∧ v = .int i) ∨ o = none := by
  cases o with
  | some i => exact .inl ⟨i, rfl, h⟩
  | none => exact .inr rfl
end
end MB
end
section
set_option maxRecDepth 100000
namespace MB
open PySem PySem.Spec PyProof.Rows L2
def keyD : Key → PyData
  | .inl i => .int i
  | .inr x => .str x
mutual
inductive Dq (K : PySem.W.Frag) (H : Hp) : V → PyData → Prop
  | non : Dq K H .non .none
  | bl (b : Bool) : Dq K H (.bl b) (.bool b)
  | int (i : Int) : Dq K H (.int i) (.int i)
  | str (x : Str) : Dq K H (.str x) (.str x)
  | lst {a : Addr} {xs : List V} {ds : List PyData} : SqL K H a xs → DqAll K H xs ds → Dq K H (.ref a) (.list ds)
  | tup {a : Addr} {xs : List V} {ds : List PyData} : SqT K H a xs → DqAll K H xs ds → Dq K H (.ref a) (.tuple ds)
  | dic {a : Addr} {kvs : List (Key × V)} {ds : List (PyData × PyData)} : H a = some (.dK kvs) → DqKv K H kvs ds → Dq K H (.ref a) (.dict ds)
inductive DqAll (K : PySem.W.Frag) (H : Hp) : List V → List PyData → Prop
  | nil : DqAll K H [] []
  | cons {v : V} {vs : List V} {d : PyData} {ds : List PyData} : Dq K H v d → DqAll K H vs ds → DqAll K H (v :: vs) (d :: ds)
inductive DqKv (K : PySem.W.Frag) (H : Hp) : List (Key × V) → List (PyData × PyData) → Prop
  | nil : DqKv K H [] []
  | cons {k : Key} {v : V} {d : PyData} {kvs : List (Key × V)} {ds : List (PyData × PyData)} : Dq K H v d → DqKv K H kvs ds → DqKv K H ((k, v) :: kvs) ((keyD k, d) :: ds)
end
def SM (base : Heap) : Prop := ∃ mm, base.Ns sysModules mm
section
variable {K : PySem.W.Frag} {H H' : Hp}
theorem sqL_same {a : Addr} {xs : List V} (e : Same H H') (h : SqL K H a xs) : SqL K H' a xs := e.seq h
mutual
theorem Dq.same (e : Same H H') : ∀ (d : PyData) (v : V), Dq K H v d → Dq K H' v d
  | .none, _, h => by cases h; exact .non
  | .bool b, _, h => by cases h; exact .bl b
  | .int i, _, h => by cases h; exact .int i
  | .str x, _, h => by cases h; exact .str x
  | .list ds, _, h => by
    cases h with
    | lst h1 h2 => exact .lst (sqL_same e h1) (DqAll.same e ds _ h2)
  | .tuple ds, _, h => by
    cases h with
    | tup h1 h2 => exact .tup (sqT_same e h1) (DqAll.same e ds _ h2)
  | .dict ds, _, h => by
    cases h with
    | dic h1 h2 => exact .dic (e _ _ h1) (DqKv.same e ds _ h2)
theorem DqAll.same (e : Same H H') : ∀ (ds : List PyData) (vs : List V), DqAll K H vs ds → DqAll K H' vs ds
  | [], _, h => by cases h; exact .nil
  | d :: ds, _, h => by
    cases h with
    | cons h1 h2 => exact .cons (Dq.same e d _ h1) (DqAll.same e ds _ h2)
theorem DqKv.same (e : Same H H') : ∀ (ds : List (PyData × PyData)) (kvs : List (Key × V)), DqKv K H kvs ds → DqKv K H' kvs ds
  | [], _, h => by cases h; exact .nil
  | (_, d) :: ds, _, h => by
    cases h with
    | cons h1 h2 => exact .cons (Dq.same e d _ h1) (DqKv.same e ds _ h2)
end
end
section
variable {X : Cx} {pins : List (Addr × Obj)} {σ : L2.St} {H : Hp} {s : Shared}
theorem not_mods (I : L2.Inv X pins σ H s) (sm : SM X.base) {a : Addr} {o : Obj} {vs : Array Value} {n : Nat} (e : s.heap.get? a = some o) (c : o.data = .seq vs n) : sysModules ≠ a := fun z => by
  obtain ⟨mm, o', es, ep, h1, h2, _⟩ := sm
  have h3 := I.bk _ _ h1
  rw [z, e] at h3
  have h4 := Option.some.inj h3
  subst h4
  rw [c] at h2
  cases h2
mutual
theorem Dq.reads (I : L2.Inv X pins σ H s) (sm : SM X.base) : ∀ (d : PyData) (v : V) (u : Value), Dq X.K H v d → RelV v u → ∃ as, Reads s.heap u d as ∧ sysModules ∉ as
  | .none, _, _, h, r => by
    cases h
    cases r
    exact ⟨_, .none, by simp⟩
  | .bool b, _, _, h, r => by
    cases h
    cases r
    exact ⟨_, .bool b, by simp⟩
  | .int i, _, _, h, r => by
    cases h
    obtain ⟨t, rfl⟩ := r
    exact ⟨_, .int i t, by simp⟩
  | .str x, _, _, h, r => by
    cases h
    obtain ⟨t, rfl⟩ := r
    exact ⟨_, .str x t, by simp⟩
  | .list ds, _, _, h, r => by
    cases h with
    | lst hs ha =>
      cases r
      obtain ⟨its, rv, ⟨o, n, ho, hc, _, hd⟩, _⟩ := I.list hs
      obtain ⟨as, hr, no⟩ := DqAll.reads I sm ds _ its ha rv
      refine ⟨_, .list ho hc hd hr, fun z => ?_⟩
      rcases List.mem_cons.mp z with z | z
      · exact not_mods I sm ho hd z
      · exact no z
  | .tuple ds, _, _, h, r => by
    cases h with
    | tup hs ha =>
      cases r
      obtain ⟨its, rv, ⟨o, ho, hc, n, hd⟩, _⟩ := I.tuple hs
      obtain ⟨as, hr, no⟩ := DqAll.reads I sm ds _ its ha rv
      exact ⟨_, .tuple ho hc hd hr, no⟩
  | .dict ds, _, _, h, r => by
    cases h with
    | @dic a kvs _ he hk =>
      cases r
      obtain ⟨_, na, vs, rel, o, es, ep, ho, ex, hd, _, pr, _⟩ := dk_of I.hok he
      obtain ⟨as, bs, h1, h2, no1, no2⟩ := DqKv.reads I sm ds kvs vs es.toList hk rel pr
      refine ⟨_, .dict ho ex.1 hd h1 h2, fun z => ?_⟩
      rcases List.mem_append.mp z with z | z
      · rcases List.mem_cons.mp z with z | z
        · rw [z, beq_self_eq_true] at na
          cases na
        · exact no1 z
      · exact no2 z
theorem DqAll.reads (I : L2.Inv X pins σ H s) (sm : SM X.base) : ∀ (ds : List PyData) (vs : List V) (us : List Value), DqAll X.K H vs ds → Vals vs us → ∃ as, ReadsAll s.heap us ds as ∧ sysModules ∉ as
  | [], _, _, h, r => by
    cases h
    cases r
    exact ⟨_, .nil, by simp⟩
  | d :: ds, _, _, h, r => by
    cases h with
    | cons h1 h2 =>
      cases r with
      | cons r1 r2 =>
        obtain ⟨as, q1, n1⟩ := Dq.reads I sm d _ _ h1 r1
        obtain ⟨bs, q2, n2⟩ := DqAll.reads I sm ds _ _ h2 r2
        refine ⟨_, .cons q1 q2, fun z => ?_⟩
        rcases List.mem_append.mp z with z | z
        · exact n1 z
        · exact n2 z
theorem DqKv.reads (I : L2.Inv X pins σ H s) (sm : SM X.base) : ∀ (ds : List (PyData × PyData)) (kvs : List (Key × V)) (vs : List (Key × Value)) (es : List DictEntry), DqKv X.K H kvs ds → KV kvs vs →
    Pairs (mixKind X.prog X.w) es vs → ∃ as bs, ReadsAll s.heap (es.map (·.key)) (ds.map (·.1)) as ∧ ReadsAll s.heap (es.map (·.val)) (ds.map (·.2)) bs ∧ sysModules ∉ as ∧ sysModules ∉ bs
  | [], _, _, _, h, r, p => by
    cases h
    cases r
    cases p
    exact ⟨_, _, .nil, .nil, by simp, by simp⟩
  | (_, d) :: ds, _, _, _, h, r, p => by
    cases h with
    | @cons k v _ kvs _ h1 h2 =>
      cases r with
      | @cons _ kv _ vs r1 r2 =>
        cases p with
        | @cons e _ es _ p1 p2 p3 =>
          obtain ⟨as, bs, q1, q2, n1, n2⟩ := DqKv.reads I sm ds _ _ _ h2 r2 p3
          obtain ⟨cs, q3, n3⟩ := Dq.reads I sm d _ _ h1 r1.2
          have key : Reads s.heap e.key (keyD k) [] := by
            have p1' : keyIs kv.1 e.key = true := p1
            rw [← r1.1] at p1'
            obtain ⟨i, t, e1, e2⟩ | ⟨x, t, e1, e2⟩ := keyIs_shape p1'
            · rw [show k = .inl i from e1, e2]
              exact .int i t
            · rw [show k = .inr x from e1, e2]
              exact .str x t
          have val : Reads s.heap e.val d cs := by
            rw [p2]
            exact q3
          refine ⟨_, _, .cons key q1, .cons val q2, ?_, ?_⟩
          · simpa using n1
          · intro z
            rcases List.mem_append.mp z with z | z
            · exact n3 z
            · exact n2 z
end
end
structure Told (d : PyData) : Prop where
  sh : d.showable = true
  lv : d.leavesShort 60 = true
  bu : d.bulk ≤ 200000
  de : d.depth ≤ 40
theorem Told.fits {d : PyData} (t : Told d) : d.shown.length ≤ sizeLine := by
  have h := PyData.shown_le_bulk 60 (by decide) d t.lv
  have hb := t.bu
  rw [sizeLine_eq]
  omega
def rTell (K : PySem.W.Frag) : List V → Hp → VK → Prop := fun xs H Q => ∃ x d, xs = [x] ∧ Dq K H x d ∧ Told d ∧ Q (.str d.shown) H
theorem call_tell {X : Cx} (sm : SM X.base) (hgu : X.A.guards = some []) (hu : X.A.units + 64 < cLine) : CallR X (.builtin "repr") (rTell X.K) := by
  intro pins s σ H xs us Q I r h
  obtain ⟨x, d, rfl, hd, t, q⟩ := h
  obtain ⟨u, rfl, ru⟩ := vals1 r
  have hu1 : X.A.units + 1 < cLine := by omega
  have fin : ∀ {a : Addr} {d : PyData}, Dq X.K H (.ref a) d → Told d → (∀ s' : Shared, L2.Inv X pins σ H s' → Q (.str d.shown) H) →
      wpAny (model X.prog X.w) X.A (call (.builtin "repr") [.ref a]) (EP X pins σ Q) X.xe s := fun {a d} hd t q => by
    obtain ⟨as, rd, no⟩ := Dq.reads I sm d _ _ hd (show RelV (.ref a) (.ref a) from rfl)
    have hz := t.de
    refine repr_of_reads' rd t.sh (fun _ => no) hgu (by omega) (fun _ _ e => e) (fun h' u tk k => ?_) t.fits
    have J := I.kept (t' := tk) k
    exact ⟨.str _, H, J, ⟨_, rfl⟩, q _ J⟩
  cases hd with
  | non =>
    cases ru
    simp only [PyData.shown] at q
    exact PySem.P.repr_of_none ⟨.str _, H, I.tok _, ⟨_, rfl⟩, q⟩
  | bl b =>
    cases ru
    simp only [PyData.shown] at q
    exact PySem.P.repr_of_bool ⟨.str _, H, I.tok _, ⟨_, rfl⟩, q⟩
  | int i =>
    obtain ⟨tk, rfl⟩ := ru
    have hs := t.sh
    simp only [PyData.shown] at q
    simp only [PyData.showable, decide_eq_true_eq] at hs
    exact PySem.P.repr_of_int hs ⟨.str _, H, I.tok _, ⟨_, rfl⟩, q⟩
  | str z =>
    obtain ⟨tk, rfl⟩ := ru
    have hl := t.fits
    simp only [PyData.shown] at q hl
    exact PySem.P.repr_of_str ⟨.str _, H, I.tok _, ⟨_, rfl⟩, q⟩ hl
  | lst h1 h2 =>
    cases ru
    exact fin (.lst h1 h2) t fun _ _ => q
  | tup h1 h2 =>
    cases ru
    exact fin (.tup h1 h2) t fun _ _ => q
  | dic h1 h2 =>
    cases ru
    exact fin (.dic h1 h2) t fun _ _ => q
section
variable {K : PySem.W.Frag} {H : Hp}
def asInt : PyData → Option Int
  | .int i => some i
  | _ => none
def asInts : PyData → Option (List (Option Int))
  | .tuple ds => some (ds.map asInt)
  | _ => none
theorem tyx_lst {a : Addr} {xs : List V} (h : SqL K H a xs) : TyX K H (.ref a) (.type "list") := by
  rcases h with (q | ⟨o, q⟩) | ⟨o, its, n, h1, h2, _⟩
  · exact .base (.lst q)
  · exact .base (.frz q)
  · exact .kList h1 h2
theorem tyx_tpl {a : Addr} {xs : List V} (h : SqT K H a xs) : TyX K H (.ref a) (.type "tuple") := by
  rcases h with (q | ⟨o, q⟩) | ⟨o, its, n, h1, h2, _⟩
  · exact .base (.tup q)
  · exact .fTuple q
  · exact .kTuple h1 h2
theorem Dq.int? {v : V} {d : PyData} (h : Dq K H v d) : IntQ K H v (asInt d) := by
  cases h with
  | non => exact .inr ⟨_, .base .non, kit_ty (r := false) (by decide +kernel)⟩
  | bl b => exact .inl ⟨b, rfl⟩
  | int i => rfl
  | str x => exact .inr ⟨_, .base (.str x), kit_ty (r := false) (by decide +kernel)⟩
  | lst h1 h2 => exact .inr ⟨_, tyx_lst h1, kit_ty (r := false) (by decide +kernel)⟩
  | tup h1 h2 => exact .inr ⟨_, tyx_tpl h1, kit_ty (r := false) (by decide +kernel)⟩
  | dic h1 h2 => exact .inr ⟨_, .base (.dK h1), kit_ty (r := false) (by decide +kernel)⟩
theorem DqAll.ints : ∀ {xs : List V} {ds : List PyData}, DqAll K H xs ds → Paired (IntQ K H) xs (ds.map asInt)
  | _, _, .nil => .nil
  | _, _, .cons h1 h2 => .cons h1.int? h2.ints
def asTuple : PyData → Option (List PyData)
  | .tuple ds => some ds
  | _ => none
theorem Dq.noTuple {v : V} {d : PyData} (h : Dq K H v d) (e : asTuple d = none) : TupQ K H v none := by
  cases h with
  | non => exact ⟨_, .base .non, kit_ty (r := false) (by decide +kernel)⟩
  | bl b => exact ⟨_, .base (.bl b), kit_ty (r := false) (by decide +kernel)⟩
  | int i => exact ⟨_, .base (.int i), kit_ty (r := false) (by decide +kernel)⟩
  | str x => exact ⟨_, .base (.str x), kit_ty (r := false) (by decide +kernel)⟩
  | lst h1 h2 => exact ⟨_, tyx_lst h1, kit_ty (r := false) (by decide +kernel)⟩
  | tup h1 h2 => cases e
  | dic h1 h2 => exact ⟨_, .base (.dK h1), kit_ty (r := false) (by decide +kernel)⟩
theorem DqAll.length : ∀ {xs : List V} {ds : List PyData}, DqAll K H xs ds → xs.length = ds.length
  | _, _, .nil => rfl
  | _, _, .cons _ h2 => by rw [List.length_cons, List.length_cons, h2.length]
end
end MB
end
section
set_option maxRecDepth 100000
set_option maxHeartbeats 4000000
namespace MB
open PySem PySem.Spec PyProof.Rows L2
theorem lawM_at {P : Program} {w : World} {K : PySem.W.Frag} {mg mb : Str → Option Value} {k : Nat} {fa a : Addr}
    {fd : FuncData} {x : Str} {sp : Sp} {s₁ : Shared} {us : List Value} {ns : List Int} {H : Hp}
    (KX : K.In s₁.heap) (hns : s₁.heap.Ns mainGlobals mg) (hb : s₁.heap.Ns builtinsNs mb)
    (hbb : ∀ x : Str, x ≠ "__name__" → mb x = bootBuiltins x) (hlim : s₁.heap.NoLimit) (hg : s₁.gens = #[])
    (ha : s₁.heap.get? a = some { cls := .type "list", data := .seq us.toArray }) (hr : Room k callerA)
    (F : ∀ base : Heap, K.In base → base.Ns mainGlobals mg → SM base → FnG P w K mg base k fa fd [x] sp) (hsm : SM s₁.heap)
    (hbind : ∀ (s : Shared) (u : Value), BindsTo s fd ⟨[u], []⟩ [(x, u)])
    (hsp : sp [.ref a] H (fun v _ => v = .bl true) E0) (hO : Only H) (hok : HOk P w H s₁.heap)
    (hA : ∀ b, H b ≠ none → b = a) (hK : H a ≠ none → K.lookup a = none) :
    codeAny (model P w) callerA (.call (.ref fa) ⟨[.ref a], []⟩)
      (fun r s' => r = .ok (.ret (.bool true)) ∧ OldK s₁.heap s'.heap ∧ s'.os = s₁.os ∧ AllBare s'.gens) s₁ := by
  have noA : ∀ {b : Addr} {o : Obj} {es : Array DictEntry} {ep : Nat},
      s₁.heap.get? b = some o → o.data = .dict es ep → H b = none := by
    intro b o es ep e d
    cases q : H b with
    | none => rfl
    | some u =>
      obtain rfl : b = a := hA b (by simp [q])
      rw [ha] at e
      cases e
      exact absurd d (by intro z; cases z)
  have nsK : ∀ {b : Addr} {m : Str → Option Value}, s₁.heap.Ns b m → (hidT s₁.heap H).Ns b m :=
    fun {b m} ⟨o, es, ep, e, d, r⟩ => ⟨o, es, ep, hidT_get e (noA e d), d, r⟩
  have hKb : K.In (hidT s₁.heap H) := by
    intro b o e
    refine hidT_get (KX b o e) ?_
    cases q : H b with
    | none => rfl
    | some u =>
      obtain rfl : b = a := hA b (by simp [q])
      rw [hK (by simp [q])] at e
      cases e
  have hM : Mod K mg (hidT s₁.heap H) :=
    ⟨hKb, nsK hns, ⟨mb, nsK hb, hbb⟩, let ⟨mc, h1, h2⟩ := hlim; ⟨mc, nsK h1, h2⟩⟩
  have e0 : Env0 P w K mg (hidT s₁.heap H) callerA [] s₁ H :=
    ⟨rfl, hM, fun b o e => of_hidT e, Nat.le_of_eq (hidT_size _ _), trivial,
      fun b hb => absurd (show b ∈ ([] : List Addr) from hb) (by simp), hok, .of_eq hg⟩
  refine codeAny_mono ((F _ hKb (nsK hns) (let ⟨mm, z⟩ := hsm; ⟨mm, nsK z⟩)).goes callerA [] s₁ H ⟨[.ref a], []⟩ [.ref a] [.ref a] _ _ hr rfl e0
    (hbind s₁ (.ref a)) (.cons rfl .nil) hsp) fun r s' h => ?_
  cases r with
  | error e => exact h.elim
  | ok fl =>
    cases fl with
    | next => exact False.elim h
    | brk => exact False.elim h
    | cont => exact False.elim h
    | ret u =>
      obtain ⟨v, H', os, bare, un, hok', r', q⟩ := h
      have q' : v = .bl true := q
      subst q'
      obtain rfl : u = Value.bool true := r'
      refine ⟨rfl, OldK.of_keep fun b o e => ?_, os, bare⟩
      cases q : H b with
      | none => exact un.keep b o e q (fun z => absurd (show b ∈ ([] : List Addr) from z) (by simp)) (by simp)
      | some u =>
        rcases hO b with z | ⟨ob, xs, z⟩
        · rw [q] at z
          cases z
        · obtain ⟨e1, _⟩ := hok b _ z
          obtain ⟨e2, _⟩ := hok' b _ (un.frzs b ob _ z)
          rw [e] at e1
          cases e1
          exact e2
theorem lawM_call {P : Program} {w : World} {K : PySem.W.Frag} {mg mb : Str → Option Value} {k : Nat} {fa a : Addr}
    {fd : FuncData} {x : Str} {sp : Sp} {s₁ : Shared} {us : List Value} {ns : List Int}
    (KX : K.In s₁.heap) (hns : s₁.heap.Ns mainGlobals mg) (hb : s₁.heap.Ns builtinsNs mb)
    (hbb : ∀ x : Str, x ≠ "__name__" → mb x = bootBuiltins x) (hlim : s₁.heap.NoLimit) (hg : s₁.gens = #[])
    (ha : s₁.heap.get? a = some { cls := .type "list", data := .seq us.toArray }) (hi : IntsAre us ns)
    (hl : ns.length ≤ sizeLine) (hr : Room k callerA)
    (F : ∀ base : Heap, K.In base → base.Ns mainGlobals mg → SM base → FnG P w K mg base k fa fd [x] sp) (hsm : SM s₁.heap)
    (hbind : ∀ (s : Shared) (u : Value), BindsTo s fd ⟨[u], []⟩ [(x, u)])
    (hsp : ∀ H : Hp, Only H → SqL K H a (ns.map V.int) → sp [.ref a] H (fun v _ => v = .bl true) E0) :
    codeAny (model P w) callerA (.call (.ref fa) ⟨[.ref a], []⟩)
      (fun r s' => r = .ok (.ret (.bool true)) ∧ OldK s₁.heap s'.heap ∧ s'.os = s₁.os ∧ AllBare s'.gens) s₁ := by
  have rv := vals_ints hi
  have len1 := hi.length
  cases hk : K.lookup a with
  | some o =>
    have e := KX a o hk
    rw [ha] at e
    cases e
    have hS : SqL K (fun _ => none) a (ns.map V.int) :=
      Or.inr ⟨_, us.toArray, _, hk, rfl, rfl, rfl, by rw [List.size_toArray, len1]; exact hl, by simpa using rv⟩
    exact lawM_at (H := fun _ => none) (ns := ns) KX hns hb hbb hlim hg ha hr F hsm hbind
      (hsp _ (fun _ => Or.inl rfl) hS) (fun _ => Or.inl rfl)
      (fun b u z => by cases (show (none : Option HO) = some u from z)) (fun b z => absurd rfl z) fun z => absurd rfl z
  | none =>
    let ob : Obj := { cls := .type "list", data := .seq us.toArray }
    let H0 : Hp := fun b => if b = a then some (.frz ob (.lst (ns.map V.int))) else none
    have at0 : H0 a = some (.frz ob (.lst (ns.map V.int))) := if_pos rfl
    have off : ∀ b, b ≠ a → H0 b = none := fun b hb => if_neg hb
    have hO : Only H0 := fun b => by
      by_cases hb : b = a
      · subst hb
        exact Or.inr ⟨_, _, at0⟩
      · exact Or.inl (off b hb)
    have hok : HOk P w H0 s₁.heap := fun b u z => by
      by_cases hb : b = a
      · subst hb
        rw [at0] at z
        cases z
        exact ⟨ha, by rw [List.length_map]; exact hl, us, _, rv, ha⟩
      · rw [off b hb] at z
        cases z
    refine lawM_at (H := H0) (ns := ns) KX hns hb hbb hlim hg ha hr F hsm hbind
      (hsp H0 hO (Or.inl (Or.inr ⟨_, at0⟩))) hO hok (fun b z => ?_) fun _ => hk
    by_cases hb : b = a
    · exact hb
    · exact absurd (off b hb) z
theorem walkM {l : PySem.W.OpenLaw} {n k : Nat} {q : Program} {loose : List Str}
    {XP : (Str → Option Value) → Heap → Prop} {YP : World → Heap → Prop} {d : DefRec}
    {K : Params → PySem.W.Frag} {sp : PySem.W.Frag → Sp} {x : Str} (hn : l.most = some n) (hn2 : n ≤ sizeLine)
    (hdf : d.params.defaults = []) (hq : importsNone q = true) (hr : Room k callerA) (hY : ∀ (w : World) (h : Heap), YP w h → (K w.params).In h)
    (F : ∀ (w : World) (mg : Str → Option Value) (fa : Addr) (h : Heap), (K w.params).In h → h.Ns mainGlobals mg →
      mg d.name = some (.ref fa) → ∃ fd : FuncData, (∀ (s : Shared) (u : Value), BindsTo s fd ⟨[u], []⟩ [(x, u)]) ∧
        ∀ base : Heap, (K w.params).In base → base.Ns mainGlobals mg → SM base →
          FnG l.prog w (K w.params) mg base k fa fd [x] (sp (K w.params)))
    (hsp : ∀ (K : PySem.W.Frag) (H : Hp) (a : Addr) (ns : List Int), ns.length ≤ n → Only H →
      SqL K H a (ns.map V.int) → sp K [.ref a] H (fun v _ => v = .bl true) E0) :
    PySem.W.WalkO q loose XP YP l.row.toRowW d [] (fun f vs => PySem.call f vs) := by
  refine Att.attach_call hn hdf fun w s₀ s₁ mg mb fa o pm cd doc a vs ns G Y ho hd hcd hmg hobj hints hlen hg => ?_
  have KX := hY w _ Y
  have hsm : SM s₁.heap := let ⟨mm, z, _⟩ := (G.T.seer hq).mods; ⟨mm, z⟩
  obtain ⟨fd, hb, hF⟩ := F w mg fa _ KX G.T.g hmg
  exact lawM_call KX G.T.g G.T.b G.T.builtins G.T.nolimit hg hobj hints (Nat.le_trans hlen hn2) hr hF hsm hb
    fun H hO hS => hsp _ H a ns hlen hO hS
end MB
end
section
set_option maxRecDepth 100000
set_option maxHeartbeats 4000000
namespace MB
open PySem PySem.Spec PyProof.Rows L2 LamX PySem.W
abbrev Tb := Addr × Addr × Str
def tbs (tabs : List Tb) : List (Addr × Str) := tabs.map fun t => (t.2.1, t.2.2)
structure TabAt (h : Heap) (t : Tb) : Prop where
  c : CodeHd h t.1 t.2.1
  p : h.get? t.2.1 = some (tabObj #[])
def Shape (tabs : List Tb) (H : Hp) : Prop := ∀ b, H b = none ∨ (∃ ob xs, H b = some (.frz ob (.lst xs))) ∨ (H b = some (.tbl #[]) ∧ ∃ t ∈ tabs, t.2.1 = b)
theorem lawT_at {P : Program} {w : World} {K : PySem.W.Frag} {mg mb : Str → Option Value} {k : Nat} {fa a : Addr}
    {fd : FuncData} {x : Str} {sp : Sp} {s₁ : Shared} {us : List Value} {ns : List Int} {H : Hp} {tabs : List Tb}
    (KX : K.In s₁.heap) (hns : s₁.heap.Ns mainGlobals mg) (hb : s₁.heap.Ns builtinsNs mb)
    (hbb : ∀ x : Str, x ≠ "__name__" → mb x = bootBuiltins x) (hlim : s₁.heap.NoLimit) (hg : s₁.gens = #[])
    (hbm : ∃ bm ob, mg "__builtins__" = some (.ref bm) ∧ bm ≠ builtinsNs ∧ s₁.heap.get? bm = some ob ∧ ob.cls = .type "module" ∧ ob.dict = some builtinsNs ∧ ob.data = .plain)
    (ha : s₁.heap.get? a = some { cls := .type "list", data := .seq us.toArray }) (hr : Room k callerA)
    (hT : ∀ t ∈ tabs, TabAt s₁.heap t) (nK : noTabs K = true)
    (F : ∀ base : Heap, K.In base → base.Ns mainGlobals mg → SM base → (∀ t ∈ tabs, TabB base mg t.1 t.2.1) → FnG P w K mg base k fa fd [x] sp) (hsm : SM s₁.heap)
    (hbind : ∀ (s : Shared) (u : Value), BindsTo s fd ⟨[u], []⟩ [(x, u)])
    (hsp : sp [.ref a] H (fun v _ => v = .bl true) E0) (hO : Shape tabs H) (hok : HOk P w H s₁.heap)
    (hA : ∀ b ob xs, H b = some (.frz ob (.lst xs)) → b = a) (hK : ∀ ob xs, H a = some (.frz ob (.lst xs)) → K.lookup a = none) :
    codeAny (model P w) callerA (.call (.ref fa) ⟨[.ref a], []⟩)
      (fun r s' => r = .ok (.ret (.bool true)) ∧ OldK s₁.heap s'.heap ∧ s'.os = s₁.os ∧ AllBare s'.gens) s₁ := by
  have tbl : ∀ {b : Addr}, H b = some (.tbl #[]) → s₁.heap.get? b = some (tabObj #[]) := fun {b} q => hok b _ q
  have other : ∀ {b : Addr} {o : Obj}, s₁.heap.get? b = some o → o.cls ≠ .type "list" → o ≠ tabObj #[] → H b = none := by
    intro b o e c1 c2
    rcases hO b with q | ⟨ob, xs, q⟩ | ⟨q, _⟩
    · exact q
    · obtain rfl := hA b _ _ q
      rw [ha] at e
      cases e
      exact absurd rfl c1
    · rw [tbl q] at e
      cases e
      exact absurd rfl c2
  have noA : ∀ {b : Addr} {o : Obj} {es : Array DictEntry} {ep : Nat},
      s₁.heap.get? b = some o → o.data = .dict es ep → H b = none := by
    intro b o es ep e d
    rcases hO b with q | ⟨ob, xs, q⟩ | ⟨q, _⟩
    · exact q
    · obtain rfl := hA b _ _ q
      rw [ha] at e
      cases e
      cases d
    · rw [tbl q] at e
      cases e
      cases d
  have nsK : ∀ {b : Addr} {m : Str → Option Value}, s₁.heap.Ns b m → (hidT s₁.heap H).Ns b m :=
    fun {b m} ⟨o, es, ep, e, d, r⟩ => ⟨o, es, ep, hidT_get e (noA e d), d, r⟩
  have hKb : K.In (hidT s₁.heap H) := by
    intro b o e
    refine hidT_get (KX b o e) ?_
    rcases hO b with q | ⟨ob, xs, q⟩ | ⟨q, _⟩
    · exact q
    · obtain rfl := hA b _ _ q
      rw [hK _ _ q] at e
      cases e
    · have z := KX b o e
      rw [tbl q] at z
      cases z
      have h2 := List.all_eq_true.mp nK (b, tabObj #[]) (mem_of_lookupK e)
      exact absurd (show false = true from h2) Bool.false_ne_true
  have hM : Mod K mg (hidT s₁.heap H) :=
    ⟨hKb, nsK hns, ⟨mb, nsK hb, hbb⟩, let ⟨mc, h1, h2⟩ := hlim; ⟨mc, nsK h1, h2⟩⟩
  have e0 : Env0 P w K mg (hidT s₁.heap H) callerA [] s₁ H :=
    ⟨rfl, hM, fun b o e => of_hidT e, Nat.le_of_eq (hidT_size _ _), trivial,
      fun b hb => absurd (show b ∈ ([] : List Addr) from hb) (by simp), hok, .of_eq hg⟩
  have hTB : ∀ t ∈ tabs, TabB (hidT s₁.heap H) mg t.1 t.2.1 := fun t ht => by
    obtain ⟨hc, hp⟩ := hT t ht
    obtain ⟨o, vs, file, tf, flags, tg, inF, text, tt, e1, r1, r⟩ := hc
    obtain ⟨bm, ob, b1, b2, b3, b4, b5, b6⟩ := hbm
    have hgP : mainGlobals ≠ t.2.1 := fun q => by
      obtain ⟨o, es, ep, e, hd, _⟩ := hns
      rw [q, hp] at e
      cases e
      cases hd
    refine ⟨⟨o, vs, file, tf, flags, tg, inF, text, tt, hidT_get e1 (other e1 (by rw [r1]; intro z; injection z with z; exact absurd z (by decide)) (by rintro rfl; cases r1)), r1, r⟩, ⟨bm, ob, b1, b2, ?_, ?_, hidT_get b3 (other b3 (by rw [b4]; intro z; injection z with z; exact absurd z (by decide)) (by rintro rfl; cases b4)), b4, b5, b6⟩, hgP⟩
    · intro q
      obtain ⟨o, es, ep, e, hd, _⟩ := hns
      rw [q, e] at b3
      cases b3
      rw [hd] at b6
      cases b6
    · intro q
      rw [q, hp] at b3
      cases b3
      cases b4
  refine codeAny_mono ((F _ hKb (nsK hns) (let ⟨mm, z⟩ := hsm; ⟨mm, nsK z⟩) hTB).goes callerA [] s₁ H ⟨[.ref a], []⟩ [.ref a] [.ref a] _ _ hr rfl e0
    (hbind s₁ (.ref a)) (.cons rfl .nil) hsp) fun r s' h => ?_
  cases r with
  | error e => exact h.elim
  | ok fl =>
    cases fl with
    | next => exact False.elim h
    | brk => exact False.elim h
    | cont => exact False.elim h
    | ret u =>
      obtain ⟨v, H', os, bare, un, hok', r', q⟩ := h
      have q' : v = .bl true := q
      subst q'
      obtain rfl : u = Value.bool true := r'
      have kept : ∀ b o, s₁.heap.get? b = some o → (H b = none ∨ ∃ ob xs, H b = some (.frz ob (.lst xs))) → s'.heap.get? b = some o := fun b o e c => by
        rcases c with q | ⟨ob, xs, z⟩
        · exact un.keep b o e q (fun z => absurd (show b ∈ ([] : List Addr) from z) (by simp)) (by simp)
        · obtain ⟨e1, _⟩ := hok b _ z
          obtain ⟨e2, _⟩ := hok' b _ (un.frzs b ob _ z)
          rw [e] at e1
          cases e1
          exact e2
      have grown : ∀ b o, s₁.heap.get? b = some o → H b = some (.tbl #[]) → ∃ more, s'.heap.get? b = some (tabObj (#[] ++ more)) := fun b o e q => by
        obtain ⟨more, z⟩ := un.tbls b _ q
        exact ⟨more, hok' b _ z⟩
      refine ⟨rfl, ⟨fun b o e => ?_, fun b o e => ?_⟩, os, bare⟩
      · rcases hO b with q | q | ⟨q, t, ht, hb⟩
        · exact .inl (kept b o e (.inl q))
        · exact .inl (kept b o e (.inr q))
        · obtain ⟨more, z⟩ := grown b o e q
          have e' := tbl q
          rw [e] at e'
          cases e'
          refine .inr (.inl ⟨?_, rfl, #[], more, rfl, z⟩)
          rw [← hb]
          exact ((hT t ht).c.tab (hT t ht).p).isCodeTable
      · rcases hO b with q | q | ⟨q, t, ht, hb⟩
        · exact ⟨_, kept b o e (.inl q)⟩
        · exact ⟨_, kept b o e (.inr q)⟩
        · obtain ⟨more, z⟩ := grown b o e q
          exact ⟨_, z⟩
theorem lawT_call {P : Program} {w : World} {K : PySem.W.Frag} {mg mb : Str → Option Value} {k : Nat} {fa a : Addr}
    {fd : FuncData} {x : Str} {sp : Sp} {s₁ : Shared} {us : List Value} {ns : List Int} {tabs : List Tb}
    (KX : K.In s₁.heap) (hns : s₁.heap.Ns mainGlobals mg) (hb : s₁.heap.Ns builtinsNs mb)
    (hbb : ∀ x : Str, x ≠ "__name__" → mb x = bootBuiltins x) (hlim : s₁.heap.NoLimit) (hg : s₁.gens = #[])
    (hbm : ∃ bm ob, mg "__builtins__" = some (.ref bm) ∧ bm ≠ builtinsNs ∧ s₁.heap.get? bm = some ob ∧ ob.cls = .type "module" ∧ ob.dict = some builtinsNs ∧ ob.data = .plain)
    (ha : s₁.heap.get? a = some { cls := .type "list", data := .seq us.toArray }) (hi : IntsAre us ns)
    (hl : ns.length ≤ sizeLine) (hr : Room k callerA)
    (hT : ∀ t ∈ tabs, TabAt s₁.heap t) (nK : noTabs K = true)
    (F : ∀ base : Heap, K.In base → base.Ns mainGlobals mg → SM base → (∀ t ∈ tabs, TabB base mg t.1 t.2.1) → FnG P w K mg base k fa fd [x] sp) (hsm : SM s₁.heap)
    (hbind : ∀ (s : Shared) (u : Value), BindsTo s fd ⟨[u], []⟩ [(x, u)])
    (hsp : ∀ H : Hp, (∀ t ∈ tabs, H t.2.1 = some (.tbl #[])) → SqL K H a (ns.map V.int) → sp [.ref a] H (fun v _ => v = .bl true) E0) :
    codeAny (model P w) callerA (.call (.ref fa) ⟨[.ref a], []⟩)
      (fun r s' => r = .ok (.ret (.bool true)) ∧ OldK s₁.heap s'.heap ∧ s'.os = s₁.os ∧ AllBare s'.gens) s₁ := by
  have rv := vals_ints hi
  have len1 := hi.length
  let isT : Addr → Bool := fun b => tabs.any fun t => t.2.1 == b
  have isT_of : ∀ {b}, isT b = true → ∃ t ∈ tabs, t.2.1 = b := fun {b} z => by
    obtain ⟨t, ht, e⟩ := List.any_eq_true.mp z
    exact ⟨t, ht, beq_iff_eq.mp e⟩
  have isT_at : ∀ t ∈ tabs, isT t.2.1 = true := fun t ht => List.any_eq_true.mpr ⟨t, ht, beq_self_eq_true _⟩
  have at_tab : ∀ {b}, isT b = true → s₁.heap.get? b = some (tabObj #[]) := fun {b} z => by
    obtain ⟨t, ht, e⟩ := isT_of z
    rw [← e]
    exact (hT t ht).p
  have nA : isT a = false := by
    cases z : isT a with
    | false => rfl
    | true =>
      have e := at_tab z
      rw [ha] at e
      cases e
  cases hk : K.lookup a with
  | some o =>
    have e := KX a o hk
    rw [ha] at e
    cases e
    let H0 : Hp := fun b => if isT b = true then some (.tbl #[]) else none
    have cases0 : ∀ b, (isT b = true ∧ H0 b = some (.tbl #[])) ∨ (isT b = false ∧ H0 b = none) := fun b => by
      cases z : isT b with
      | true => exact .inl ⟨rfl, if_pos z⟩
      | false => exact .inr ⟨rfl, if_neg (by rw [z]; decide)⟩
    have hS : SqL K H0 a (ns.map V.int) :=
      Or.inr ⟨_, us.toArray, _, hk, rfl, rfl, rfl, by rw [List.size_toArray, len1]; exact hl, by simpa using rv⟩
    refine lawT_at (H := H0) (ns := ns) KX hns hb hbb hlim hg hbm ha hr hT nK F hsm hbind
      (hsp _ (fun t ht => if_pos (isT_at t ht)) hS) (fun b => ?_) (fun b u z => ?_) (fun b ob xs z => ?_) fun ob xs z => ?_
    · rcases cases0 b with ⟨h1, h2⟩ | ⟨_, h2⟩
      · exact .inr (.inr ⟨h2, isT_of h1⟩)
      · exact .inl h2
    · rcases cases0 b with ⟨h1, h2⟩ | ⟨_, h2⟩
      · rw [h2] at z
        cases z
        exact at_tab h1
      · rw [h2] at z
        cases z
    · rcases cases0 b with ⟨h1, h2⟩ | ⟨_, h2⟩
      · rw [h2] at z
        cases z
      · rw [h2] at z
        cases z
    · rcases cases0 a with ⟨h1, h2⟩ | ⟨_, h2⟩
      · rw [h2] at z
        cases z
      · rw [h2] at z
        cases z
  | none =>
    let ob : Obj := { cls := .type "list", data := .seq us.toArray }
    let H0 : Hp := fun b => if b = a then some (.frz ob (.lst (ns.map V.int))) else if isT b = true then some (.tbl #[]) else none
    have at0 : H0 a = some (.frz ob (.lst (ns.map V.int))) := if_pos rfl
    have cases0 : ∀ b, (b = a) ∨ (isT b = true ∧ H0 b = some (.tbl #[])) ∨ (isT b = false ∧ H0 b = none) := fun b => by
      by_cases hb : b = a
      · exact .inl hb
      · refine .inr ?_
        have e : H0 b = if isT b = true then some (.tbl #[]) else none := if_neg hb
        rw [e]
        cases z : isT b with
        | true => exact .inl ⟨rfl, if_pos rfl⟩
        | false => exact .inr ⟨rfl, if_neg (by decide)⟩
    refine lawT_at (H := H0) (ns := ns) KX hns hb hbb hlim hg hbm ha hr hT nK F hsm hbind
      (hsp H0 (fun t ht => ?_) (Or.inl (Or.inr ⟨_, at0⟩))) (fun b => ?_) (fun b u z => ?_) (fun b ob' xs z => ?_) fun _ _ _ => hk
    · rcases cases0 t.2.1 with e | ⟨_, e⟩ | ⟨e, _⟩
      · have := isT_at t ht
        rw [e, nA] at this
        cases this
      · exact e
      · rw [isT_at t ht] at e
        cases e
    · rcases cases0 b with rfl | ⟨h1, h2⟩ | ⟨_, h2⟩
      · exact .inr (.inl ⟨_, _, at0⟩)
      · exact .inr (.inr ⟨h2, isT_of h1⟩)
      · exact .inl h2
    · rcases cases0 b with rfl | ⟨h1, h2⟩ | ⟨_, h2⟩
      · rw [at0] at z
        cases z
        exact ⟨ha, by rw [List.length_map]; exact hl, us, _, rv, ha⟩
      · rw [h2] at z
        cases z
        exact at_tab h1
      · rw [h2] at z
        cases z
    · rcases cases0 b with e | ⟨h1, h2⟩ | ⟨_, h2⟩
      · exact e
      · rw [h2] at z
        cases z
      · rw [h2] at z
        cases z
theorem walkT {l : PySem.W.OpenLaw} {n k : Nat} {q : Program} {loose : List Str}
    {XP : (Str → Option Value) → Heap → Prop} {YP : World → Heap → Prop} {d : DefRec}
    {K : Params → PySem.W.Frag} {sp : PySem.W.Frag → List (Addr × Str) → Sp} {x : Str} (hn : l.most = some n) (hn2 : n ≤ sizeLine)
    (hdf : d.params.defaults = []) (hq : importsNone q = true) (hr : Room k callerA) (hY : ∀ (w : World) (h : Heap), YP w h → (K w.params).In h)
    (F : ∀ (w : World) (mg : Str → Option Value) (fa : Addr) (h : Heap), (K w.params).In h → h.Ns mainGlobals mg →
      (∀ (x : Str) (r : DefRec) (c P : Addr), (recsOf q).find? (fun e => e.name == x) = some r → tabIn (K w.params) x = some (c, P) → CodeHd h c P ∧ h.get? P = some (tabObj #[])) →
      mg d.name = some (.ref fa) → ∃ (fd : FuncData) (tabs : List Tb), (∀ t ∈ tabs, TabAt h t) ∧ noTabs (K w.params) = true ∧ (∀ (s : Shared) (u : Value), BindsTo s fd ⟨[u], []⟩ [(x, u)]) ∧
        ∀ base : Heap, (K w.params).In base → base.Ns mainGlobals mg → SM base → (∀ t ∈ tabs, TabB base mg t.1 t.2.1) →
          FnG l.prog w (K w.params) mg base k fa fd [x] (sp (K w.params) (tbs tabs)))
    (hsp : ∀ (K : PySem.W.Frag) (H : Hp) (a : Addr) (ns : List Int) (T : List (Addr × Str)), ns.length ≤ n → Tabs T H →
      SqL K H a (ns.map V.int) → sp K T [.ref a] H (fun v _ => v = .bl true) E0) :
    PySem.W.WalkO q loose XP YP l.row.toRowW d [] (fun f vs => PySem.call f vs) := by
  refine Att.attach_call hn hdf fun w s₀ s₁ mg mb fa o pm cd doc a vs ns G Y ho hd hcd hmg hobj hints hlen hg => ?_
  have KX := hY w _ Y
  have hsm : SM s₁.heap := let ⟨mm, z, _⟩ := (G.T.seer hq).mods; ⟨mm, z⟩
  obtain ⟨fd, tabs, hT, nK, hb, hF⟩ := F w mg fa _ KX G.T.g (fun x r c P hr ht => tab_of G.T KX hr ht) hmg
  exact lawT_call KX G.T.g G.T.b G.T.builtins G.T.nolimit hg G.T.bmain hobj hints (Nat.le_trans hlen hn2) hr hT nK hF hsm hb
    fun H hH hS => hsp _ H a ns _ hlen (fun p hp => by
      obtain ⟨t, ht, rfl⟩ := List.mem_map.mp hp
      exact TabS.nil (hH t ht)) hS
end MB
end
section
set_option maxRecDepth 100000
set_option maxHeartbeats 4000000
namespace MB
open PySem PySem.Spec PyProof.Rows L2
def dk (kL : Str) (l : Addr) (m n : Int) : List (Key × V) := [(.inr kL, .ref l), (.inr "mixed", .int m), (.inr "draws", .int n)]
structure Deck (kL : Str) (H : Hp) (d l : Addr) : Prop where
  ex : ∃ (m n : Int) (cs : List Int), H d = some (.dK (dk kL l m n)) ∧ H l = some (.lst (cs.map V.int)) ∧ cs.length ≤ 63 ∧ 0 ≤ m ∧ m < 2147483648
def But (d l : Addr) (H H' : Hp) : Prop := ∀ b o, H b = some o → b ≠ d → b ≠ l → H' b = some o
structure KOk (kL : Str) : Prop where
  m : ¬ kL = ("mixed" : Str)
  d : ¬ kL = ("draws" : Str)
theorem md : ¬ ("mixed" : Str) = ("draws" : Str) := by decide +kernel
theorem key_ne {a b : Str} (h : ¬ a = b) : ¬ ((Sum.inr a : Key) = Sum.inr b) := fun e => h (Sum.inr.inj e)
section
variable {kL : Str} {l d : Addr} {m n : Int} {H H' H1 : Hp}
theorem dk_left : valV (dk kL l m n) (.inr kL : Key) = some (.ref l) := valV_pos rfl
theorem dk_mixed (k : KOk kL) : valV (dk kL l m n) (.inr "mixed" : Key) = some (.int m) := by
  unfold dk
  rw [valV_neg (key_ne k.m)]
  exact valV_pos rfl
theorem dk_draws (k : KOk kL) : valV (dk kL l m n) (.inr "draws" : Key) = some (.int n) := by
  unfold dk
  rw [valV_neg (key_ne k.d), valV_neg (key_ne md)]
  exact valV_pos rfl
theorem dk_put (k : KOk kL) (n' : Int) : putK (dk kL l m n) (.inr "draws" : Key) (.int n') = dk kL l m n' := by
  have e1 : ¬ ((Sum.inr kL : Key) = (Sum.inr ("draws" : Str) : Key)) := key_ne k.d
  have e2 : ¬ ((Sum.inr ("mixed" : Str) : Key) = (Sum.inr ("draws" : Str) : Key)) := key_ne md
  have e3 : ((dk kL l m n).any fun kv => decide (kv.1 = (Sum.inr ("draws" : Str) : Key))) = true := by
    unfold dk
    simp [List.any_cons]
  unfold putK
  rw [if_pos e3]
  unfold dk
  simp only [List.map_cons, List.map_nil]
  rw [if_neg e1, if_neg e2, if_pos True.intro]
theorem dk_merge (k : KOk kL) : mergeK [] (dk kL l m n) = dk kL l m n := by
  have e1 : ¬ ((Sum.inr kL : Key) = (Sum.inr ("draws" : Str) : Key)) := key_ne k.d
  have e2 : ¬ ((Sum.inr ("mixed" : Str) : Key) = (Sum.inr ("draws" : Str) : Key)) := key_ne md
  have e3 : ¬ ((Sum.inr kL : Key) = (Sum.inr ("mixed" : Str) : Key)) := key_ne k.m
  unfold mergeK dk
  simp only [List.foldl_cons, List.foldl_nil]
  unfold putK
  simp [e1, e2, e3]
theorem Deck.ne (D : Deck kL H d l) : d ≠ l := by
  obtain ⟨m, n, cs, h1, h2, _⟩ := D.ex
  exact ne_of h1 h2 (by intro z; cases z)
theorem Deck.same (D : Deck kL H d l) (e : Same H H') : Deck kL H' d l := by
  obtain ⟨m, n, cs, h1, h2, h3⟩ := D.ex
  exact ⟨m, n, cs, e _ _ h1, e _ _ h2, h3⟩
theorem But.refl : But d l H H := fun _ _ h _ _ => h
theorem But.of (e : Same H H') : But d l H H' := fun b o h _ _ => e b o h
theorem But.trans (a : But d l H H') (b : But d l H' H1) : But d l H H1 := fun c o h h1 h2 => b c o (a c o h h1 h2) h1 h2
theorem But.same (a : But d l H H') (b : Same H' H1) : But d l H H1 := fun c o h h1 h2 => b c o (a c o h h1 h2)
theorem But.free (D : Deck kL H' d l) (e : But d l H H') {p : Addr} (h : H' p = none) : H p = none := by
  obtain ⟨m, n, cs, h1, h2, _⟩ := D.ex
  cases q : H p with
  | none => rfl
  | some o =>
    by_cases hd : p = d
    · subst hd
      rw [h1] at h
      cases h
    · by_cases hl : p = l
      · subst hl
        rw [h2] at h
        cases h
      · rw [e p o q hd hl] at h
        cases h
theorem Deck.off {p : Addr} (D : Deck kL H d l) (h : H p = none) : p ≠ d ∧ p ≠ l := by
  obtain ⟨m, n, cs, h1, h2, _⟩ := D.ex
  exact ⟨(ne_of_none h1 h).symm, (ne_of_none h2 h).symm⟩
theorem Deck.off_tup {p : Addr} {xs : List V} (D : Deck kL H d l) (h : H p = some (.tup xs)) : p ≠ d ∧ p ≠ l := by
  obtain ⟨m, n, cs, h1, h2, _⟩ := D.ex
  exact ⟨ne_of h h1 (by intro z; cases z), ne_of h h2 (by intro z; cases z)⟩
theorem Deck.off_frz {p : Addr} {o : Obj} {u : HO} (D : Deck kL H d l) (h : H p = some (.frz o u)) : p ≠ d ∧ p ≠ l := by
  obtain ⟨m, n, cs, h1, h2, _⟩ := D.ex
  exact ⟨ne_of h h1 (by intro z; cases z), ne_of h h2 (by intro z; cases z)⟩
theorem But.tup {K : PySem.W.Frag} {a : Addr} {xs : List V} (D : Deck kL H d l) (e : But d l H H') (h : SqT K H a xs) : SqT K H' a xs := by
  rcases h with (h | ⟨o, h⟩) | h
  · obtain ⟨h1, h2⟩ := D.off_tup h
    exact .inl (.inl (e _ _ h h1 h2))
  · obtain ⟨h1, h2⟩ := D.off_frz h
    exact .inl (.inr ⟨o, e _ _ h h1 h2⟩)
  · exact .inr h
theorem But.upd {p : Addr} {o : HO} (h : H p = none) (e : But d l H H') : But d l H (upd H' p o) := fun b u q h1 h2 => by
  rw [upd_ne (ne_of_none q h)]
  exact e b u q h1 h2
theorem Deck.upd {p : Addr} {o : HO} (D : Deck kL H d l) (h1 : p ≠ d) (h2 : p ≠ l) : Deck kL (upd H p o) d l := by
  obtain ⟨m, n, cs, e1, e2, e3⟩ := D.ex
  exact ⟨m, n, cs, by rw [upd_ne h1.symm]; exact e1, by rw [upd_ne h2.symm]; exact e2, e3⟩
end
theorem ints_lay : ∀ ns : List Int, PyData.canLayAll0 (ns.map PyData.int) = true
  | [] => by simp only [List.map_nil, PyData.canLayAll0]
  | n :: r => by
    simp only [List.map_cons, PyData.canLayAll0, PyData.canLay0, ints_lay r, Bool.and_self]
theorem ints_depth : ∀ ns : List Int, PyData.depthAll (ns.map PyData.int) = 0
  | [] => by simp only [List.map_nil, PyData.depthAll]
  | n :: r => by
    simp only [List.map_cons, PyData.depthAll, PyData.depth, ints_depth r, Nat.max_self]
theorem lst_shaped (ns : List Int) : SeqAt.shaped (.list (ns.map PyData.int)) = true := by
  unfold SeqAt.shaped
  simp only [PyData.canLay0, PyData.depth, ints_lay, ints_depth]
  decide
theorem tup_shaped (ns : List Int) : SeqAt.shaped (.tuple (ns.map PyData.int)) = true := by
  unfold SeqAt.shaped
  simp only [PyData.canLay0, PyData.depth, ints_lay, ints_depth]
  decide
theorem dp_ints {K : PySem.W.Frag} {H : Hp} : ∀ ns : List Int, DpAll K H (ns.map V.int) (ns.map PyData.int)
  | [] => .nil
  | n :: r => .cons (.int n) (dp_ints r)
theorem eqv_lnil (ns : List Int) : PyData.eqv (.list (ns.map PyData.int)) (.list []) = ns.isEmpty := by
  cases ns with
  | nil => simp only [List.map_nil, PyData.eqv, PyData.eqvAll, List.isEmpty_nil]
  | cons a r => simp only [List.map_cons, PyData.eqv, PyData.eqvAll, List.isEmpty_cons]
theorem eqv_tnil (ns : List Int) : PyData.eqv (.tuple (ns.map PyData.int)) (.tuple []) = ns.isEmpty := by
  cases ns with
  | nil => simp only [List.map_nil, PyData.eqv, PyData.eqvAll, List.isEmpty_nil]
  | cons a r => simp only [List.map_cons, PyData.eqv, PyData.eqvAll, List.isEmpty_cons]
theorem ne_nil_rd {K : PySem.W.Frag} {H : Hp} {l p : Addr} {ns : List Int} {Q : VK} (h : SqL K H l (ns.map V.int)) (hp : SqL K H p []) (q : Q (.bl (!ns.isEmpty)) H) : rNeD K (.ref l) (.ref p) H Q := by
  refine ⟨.list (ns.map PyData.int), .list [], .lst h (dp_ints ns), .lst hp .nil, lst_shaped ns, lst_shaped [], ?_⟩
  rw [eqv_lnil]
  exact q
theorem tne_nil_rd {K : PySem.W.Frag} {H : Hp} {l p : Addr} {ns : List Int} {Q : VK} (h : SqT K H l (ns.map V.int)) (hp : SqT K H p []) (q : Q (.bl (!ns.isEmpty)) H) : rNeD K (.ref l) (.ref p) H Q := by
  refine ⟨.tuple (ns.map PyData.int), .tuple [], .tup h (dp_ints ns), .tup hp .nil, tup_shaped ns, tup_shaped [], ?_⟩
  rw [eqv_tnil]
  exact q
end MB
end
section
set_option maxRecDepth 100000
namespace MB
open PySem PySem.Spec PyProof.Rows L2
def hide (d l : Addr) (H : Hp) : Hp := fun b => if b = d ∨ b = l then none else H b
section
variable {d l p : Addr} {H H' : Hp} {o : HO} {kL : Str} {K : PySem.W.Frag}
theorem hide_off (h1 : p ≠ d) (h2 : p ≠ l) : hide d l H p = H p := if_neg fun z => z.elim h1 h2
theorem hide_sub : Same (hide d l H) H := fun b u e => by
  unfold hide at e
  split at e
  · cases e
  · exact e
theorem hide_none (h : H p = none) : hide d l H p = none := by
  unfold hide
  split
  · rfl
  · exact h
theorem But.hide (e : But d l H H') : Same (MB.hide d l H) (MB.hide d l H') := fun b u q => by
  unfold MB.hide at q ⊢
  split at q
  · cases q
  · rename_i n
    rw [if_neg n]
    exact e b u q (fun z => n (.inl z)) fun z => n (.inr z)
theorem hide_upd (h1 : p ≠ d) (h2 : p ≠ l) : hide d l (upd H p o) = upd (hide d l H) p o := by
  funext b
  by_cases hb : b = p
  · subst hb
    rw [hide_off h1 h2, upd_same, upd_same]
  · rw [upd_ne hb]
    unfold hide
    rw [upd_ne hb]
theorem Deck.new (D : Deck kL H d l) (h : H p = none) : hide d l (L2.upd H p o) = L2.upd (hide d l H) p o := hide_upd (D.off h).1 (D.off h).2
theorem Deck.same_new (D : Deck kL H d l) (h : H p = none) : Same (hide d l H) (hide d l (L2.upd H p o)) := by
  rw [D.new h]
  exact fun b u q => by
    rw [upd_ne (ne_of_none q (hide_none h))]
    exact q
theorem Deck.at_new (D : Deck kL H d l) (h : H p = none) : hide d l (L2.upd H p o) p = some o := by
  rw [D.new h, upd_same]
theorem sqT_hide (D : Deck kL H d l) {a : Addr} {xs : List V} (h : SqT K H a xs) : SqT K (hide d l H) a xs := by
  rcases h with (h | ⟨o, h⟩) | h
  · obtain ⟨h1, h2⟩ := D.off_tup h
    exact .inl (.inl ((hide_off h1 h2).trans h))
  · obtain ⟨h1, h2⟩ := D.off_frz h
    exact .inl (.inr ⟨o, (hide_off h1 h2).trans h⟩)
  · exact .inr h
theorem same_hide (e : Same H H') : Same (hide d l H) (hide d l H') := (But.of e).hide
def SqAny (K : PySem.W.Frag) (H : Hp) (a : Addr) (xs : List V) : Prop := SqT K H a xs ∨ SqL K H a xs
theorem SqAny.same {a : Addr} {xs : List V} (h : SqAny K H a xs) (e : Same H H') : SqAny K H' a xs := by
  rcases h with h | h
  · exact .inl (sqT_same e h)
  · exact .inr (sqL_same e h)
end
end MB
end
section
set_option maxRecDepth 100000
set_option maxHeartbeats 4000000
namespace MB
open PySem PySem.Spec PyProof.Rows L2 LamX
def noT (H : Hp) : Hp := fun b => match H b with
  | some (.tbl _) => none
  | o => o
section
variable {H H' : Hp}
theorem noT_sub : Same (noT H) H := fun b u e => by
  unfold noT at e
  split at e
  · cases e
  · exact e
theorem noT_some {b : Addr} {o : HO} (h : H b = some o) (n : ∀ ps, o ≠ .tbl ps) : noT H b = some o := by
  unfold noT
  split
  · rename_i ps e
    rw [h] at e
    exact absurd (Option.some.inj e) (n ps)
  · exact h
theorem noT_at {b : Addr} {o : HO} (h : noT H b = some o) : ∀ ps, o ≠ .tbl ps := fun ps z => by
  subst z
  have e := noT_sub _ _ h
  unfold noT at h
  rw [e] at h
  cases h
theorem extN_noT (e : ExtN H H') : Same (noT H) (noT H') := fun b o h => noT_some (e b o (noT_sub _ _ h) (noT_at h)) (noT_at h)
theorem same_extN (e : Same H H') : ExtN H H' := .of e
theorem same_noT (e : Same H H') : Same (noT H) (noT H') := extN_noT (.of e)
theorem noT_none {p : Addr} (h : H p = none) : noT H p = none := by
  unfold noT
  rw [h]
theorem sqT_noT {K : PySem.W.Frag} {a : Addr} {xs : List V} (h : SqT K H a xs) : SqT K (noT H) a xs := by
  rcases h with (h | ⟨o, h⟩) | h
  · exact .inl (.inl (noT_some h (by intro ps z; cases z)))
  · exact .inl (.inr ⟨o, noT_some h (by intro ps z; cases z)⟩)
  · exact .inr h
theorem sqL_noT {K : PySem.W.Frag} {a : Addr} {xs : List V} (h : SqL K H a xs) : SqL K (noT H) a xs := by
  rcases h with (h | ⟨o, h⟩) | h
  · exact .inl (.inl (noT_some h (by intro ps z; cases z)))
  · exact .inl (.inr ⟨o, noT_some h (by intro ps z; cases z)⟩)
  · exact .inr h
mutual
theorem Dq.noT {K : PySem.W.Frag} : ∀ (d : PyData) (v : V), Dq K H v d → Dq K (noT H) v d
  | .none, _, h => by cases h; exact .non
  | .bool b, _, h => by cases h; exact .bl b
  | .int i, _, h => by cases h; exact .int i
  | .str x, _, h => by cases h; exact .str x
  | .list ds, _, h => by
    cases h with
    | lst h1 h2 => exact .lst (sqL_noT h1) (DqAll.noT ds _ h2)
  | .tuple ds, _, h => by
    cases h with
    | tup h1 h2 => exact .tup (sqT_noT h1) (DqAll.noT ds _ h2)
  | .dict ds, _, h => by
    cases h with
    | dic h1 h2 => exact .dic (noT_some h1 (by intro ps z; cases z)) (DqKv.noT ds _ h2)
theorem DqAll.noT {K : PySem.W.Frag} : ∀ (ds : List PyData) (vs : List V), DqAll K H vs ds → DqAll K (noT H) vs ds
  | [], _, h => by cases h; exact .nil
  | d :: ds, _, h => by
    cases h with
    | cons h1 h2 => exact .cons (Dq.noT d _ h1) (DqAll.noT ds _ h2)
theorem DqKv.noT {K : PySem.W.Frag} : ∀ (ds : List (PyData × PyData)) (kvs : List (Key × V)), DqKv K H kvs ds → DqKv K (noT H) kvs ds
  | [], _, h => by cases h; exact .nil
  | (_, d) :: ds, _, h => by
    cases h with
    | cons h1 h2 => exact .cons (Dq.noT d _ h1) (DqKv.noT ds _ h2)
end
theorem Dq.extN {K : PySem.W.Frag} {d : PyData} {v : V} (e : ExtN H H') (h : Dq K H v d) : Dq K H' v d := Dq.same noT_sub _ _ (Dq.same (extN_noT e) _ _ (Dq.noT _ _ h))
theorem SqT.extN {K : PySem.W.Frag} {a : Addr} {xs : List V} (e : ExtN H H') (h : SqT K H a xs) : SqT K H' a xs := sqT_same noT_sub (sqT_same (extN_noT e) (sqT_noT h))
theorem SqL.extN {K : PySem.W.Frag} {a : Addr} {xs : List V} (e : ExtN H H') (h : SqL K H a xs) : SqL K H' a xs := sqL_same noT_sub (sqL_same (extN_noT e) (sqL_noT h))
end
structure FunL (K : PySem.W.Frag) (x qual : Str) (st : Stmt) (f : Addr) (fd : FuncData) (c : Addr) : Prop where
  ex : ∃ (oc : Value) (od : Option Addr) (kV doc pm : Value) (an : Option Addr) (ct : Value) (osl : Array (Option Value)),
    fd = PySem.W.fnOf x qual (defArgs st) (defBody st) (defScope st) .none kV doc pm an (.ref c) ct ∧ K.lookup f = some ⟨oc, od, .func fd, osl⟩ ∧ PySem.W.codeIn K (.ref c) qual = true
  kp : PySem.W.keepIn K (.ref f) = true
theorem FunL.bindsL {K : PySem.W.Frag} {x qual : Str} {st : Stmt} {f c : Addr} {fd : FuncData} {ps : List Str} (F : FunL K x qual st f fd c)
    (h : ∀ (kV doc pm : Value) (an : Option Addr) (cdv ct : Value) (us : List Value), us.length = ps.length → bindArgs (PySem.W.fnOf x qual (defArgs st) (defBody st) (defScope st) .none kV doc pm an cdv ct) ⟨us, []⟩ = pure (ps.zip us)) : L2.Binds K fd ps [] := by
  obtain ⟨oc, od, kV, doc, pm, an, ct, osl, rfl, lk, hcd⟩ := F.ex
  exact .all (h kV doc pm an (.ref c) ct)
theorem funL_mk {K : PySem.W.Frag} {x qual : Str} {st : Stmt} {f c : Addr} {oc : Value} {od an : Option Addr} {osl : Array (Option Value)} {kV doc pm ct : Value} (l : K.lookup f = some ⟨oc, od, .func (PySem.W.fnOf x qual (defArgs st) (defBody st) (defScope st) .none kV doc pm an (.ref c) ct), osl⟩)
    (cd : PySem.W.codeIn K (.ref c) qual = true) (k : PySem.W.keepIn K (.ref f) = true) : FunL K x qual st f (PySem.W.fnOf x qual (defArgs st) (defBody st) (defScope st) .none kV doc pm an (.ref c) ct) c := ⟨⟨oc, od, kV, doc, pm, an, ct, osl, rfl, l, cd⟩, k⟩
section
variable {P : Program} {w : World} {K : PySem.W.Frag} {mg : Str → Option Value} {base : Heap}
variable {k : Nat} {f : Addr} {fd : FuncData} {ps : List Str} {sp : Sp}
theorem fnGL {x qual : Str} {st : Stmt} {N : List Str} {c : Addr} (F : FunL K x qual st f fd c)
    (S : FnScope N ps (defScope st)) (many : ∀ xs H Q E, sp xs H Q E → xs.length = ps.length)
    (body : ∀ (A : Around) (outer : List Env) (s : Shared) (H : Hp) (xs : List V)
      (Q : VK) (E : XK),
      Room k (A.deeper (envOfC qual (defScope st) s.heap.objs.size f (.ref c))) → A.guards = some [] →
      sp xs H Q E → ∃ t, PSs (cxOf L2.CX0 P w K mg base N qual (defScope st) f (.ref c) A outer s H E).nox (defBody st) t ∧
        t { nx := fun _ H' => Q .non H', rt := Q } (L2.start N xs) H) :
    FnG P w K mg base (k + 1) f fd ps sp := by
  obtain ⟨oc, od, kV, doc, pm, an, ct, osl, efd, lk, hcd⟩ := F.ex
  refine ⟨many, fun A outer s H args us xs Q E hr hgu e0 hb r hsp => ?_⟩
  subst efd
  have hlen := many _ _ _ _ hsp
  have KX : K.In s.heap := e0.mod.kin.keeps fun b o e => (e0.bs b o e).1
  have lim : s.heap.NoLimit := e0.mod.nolimit.keeps fun b o e => (e0.bs b o e).1
  have kinds : ∀ y ∈ ps.zip us, (defScope st).names.lookup y.1 = some .local ∨
      ((defScope st).names.lookup y.1 = some .cell ∧
        ((cellsFrom (s.heap.objs.size + 1) (defScope st).names []).lookup y.1).isSome = true) := by
    rintro ⟨n, v⟩ hy
    rcases S.par n (List.of_mem_zip hy).1 with q | q
    · exact Or.inl q
    · exact Or.inr ⟨q, PySem.W.cellsFrom_some _ _ _ (Or.inl q)⟩
  refine codeAny_call_function hr.depth (KX _ _ lk) rfl S.co S.gen rfl
    (PySem.W.codeRec_of KX hcd) (hb _ _ _ _ ?_)
  refine wpAny_newFunctionEnv_cells S.kind kinds fun env he s1 x => ?_
  subst he
  refine ⟨lim.keeps x.toInCall.keep, codeAny_func ?_⟩
  obtain ⟨t, ht, hq⟩ := body A outer s H xs Q E (hr.deeper _) hgu hsp
  have I : Inv (cxOf L2.CX0 P w K mg base N qual (defScope st) f (.ref c) A outer s H E) [] (L2.start N xs) H s1 :=
    inv_start S hr.hd e0 hlen r x
  refine wpAny_mono (ht.nox.run [] s1 (L2.start N xs) H _ I hq) (fun fl s' hs => ?_) fun e s' hs => hs
  cases fl with
  | ret u =>
    obtain ⟨v, σ', H', J, rv, q⟩ := hs
    exact ⟨v, H', J.os, J.bare, J.base, J.hok, rv, q⟩
  | next =>
    obtain ⟨σ', H', J, q⟩ := hs
    exact ⟨V.non, H', J.os, J.bare, J.base, J.hok, rfl, q⟩
  | brk =>
    obtain ⟨_, _, _, q⟩ := hs
    exact False.elim q
  | cont =>
    obtain ⟨_, _, _, q⟩ := hs
    exact False.elim q
end
def tDeed (n : Nat) (f c' : Addr) (q : Str) (tl : XK → Hp → VK → Prop) (W : WX) : TE := fun σ H Q =>
  ∃ E : XK, (∀ cls d σ' H', E cls d H' → σ'.length = n → W cls d σ' H') ∧ σ[0]? = some (some (.ref f)) ∧ H c' = some (CodeO c' q) ∧ tl E H Q
theorem Takes.len {X : Cx} {W : WX} (tk : L2.Takes X W) : L2.Takes X (fun cls d σ H => σ.length = X.N.length → W cls d σ H) :=
  fun u s' ⟨a, B, sI, pins, σ, H, cls, d, e, I, nb, up, sky, na, os, ag, w⟩ => tk u s' ⟨a, B, sI, pins, σ, H, cls, d, e, I, nb, up, sky, na, os, ag, w I.len⟩
theorem pe_deed {Z : Cx} (n : Nat) {a q : Str} {f c' : Addr} {tl : XK → Hp → VK → Prop} {p1 p2 : Pos} {W : WX}
    (act : ∀ (W : WX) (E : XK) (p1 p2 : Pos), L2.Takes Z W → (∀ cls d σ' H', E cls d H' → W cls d σ' H') →
      PE Z (.Call (.Name a p1) [] [] p2) (fun σZ HZ Q => σZ[0]? = some (some (.ref f)) ∧ HZ c' = some (CodeO c' q) ∧ tl E HZ Q)) (tk : L2.Takes Z W) (hn : Z.N.length = n := by rfl) :
    PE Z (.Call (.Name a p1) [] [] p2) (tDeed n f c' q tl W) := by
  subst hn
  refine ⟨fun pins s σ H Q I h => ?_⟩
  obtain ⟨E, hW, h1, h2, h3⟩ := h
  refine (act (fun cls d σ H => σ.length = Z.N.length → W cls d σ H) E p1 p2 (Takes.len tk) (fun cls d σ' H' e l => hW cls d σ' H' e l)).run pins s σ H Q I ⟨h1, h2, h3⟩
section
variable {X : Cx}
theorem pe_tell {T : List (Addr × Str)} {TT : (XK → Hp → VK → Prop) → Hp → VK → Prop} {x a : Str} {g c P : Addr} {k : Nat} {st : Stmt} {fd : FuncData} {Ng : List Str}
    {params : Arguments} {body : Expr} {scope : Scope} {t : XK → TE} {p lpos pos : Pos} (F : Fun X.K x x st g fd) (hb : L2.Binds X.K fd [a] []) (hg : Gl X x) (hm : X.mg x = some (.ref g))
    (Sg : FnScope Ng [a] (defScope st)) (hNg : Ng[0]? = some a) (hva : Vis (defScope st) a)
    (hG : ∀ cdv, GivesTo X Ng x (defScope st) g cdv (defBody st) a (X.env.qual ++ "<lambda>") TT)
    (TB : TabB X.base X.mg c P) (hcode : X.env.code = .ref c) (hmT : (P, X.env.qual ++ "<lambda>") ∈ T) (hu : ∀ p ∈ T, p.1 = P → p.2 = X.env.qual ++ "<lambda>") (hr : Room (k + 2) X.A) (L : LamS X.env.scope scope) (hdef : defaultsOf params X.env = ([], []))
    (hbind : ∀ (q : Str) (cl : List (Str × Addr)) (pm cv ctv : Value), bindArgs (PySem.W.kla_fn "<lambda>" q params body scope cl pm cv ctv) ⟨[], []⟩ = pure [])
    (hbody : ∀ (A : Around) (outer : List Env) (s : Shared) (H : Hp) (E : XK) (f c' : Addr), Room k (A.deeper (lamEnv X scope s.heap.objs.size f c')) → PE (lamCx X A outer s H E scope f c') body (t E))
    (hdb : (x == ("__debug__" : Str)) = false := by decide) (hd : (a == ("__debug__" : Str)) = false := by decide) (hcd : (a == ("__classdict__" : Str)) = false := by decide) :
    PE X (.Call (.Name x p) [.Lambda params body scope lpos] [] pos) (tLam T TT t) := by
  obtain ⟨oc, od, kV, doc, pm, an, cdv, ct, osl, rfl, lk, hcg⟩ := F.ex
  exact pe_lamcall hg hm F.kp lk hcg hb Sg hNg hva (hG cdv) TB hcode hmT hu hr L hdef hbind hbody hdb hd hcd
end
end MB
end
section
set_option maxRecDepth 100000
namespace MB
open PySem PySem.Spec PyProof.Rows L2
def TD (K : PySem.W.Frag) (d l : Addr) (H0 : Hp) (σ : L2.St) (t : TE) (dd : PyData) : Prop :=
  ∀ H Q, Same H0 H → (∀ v H', Same H H' → Dq K (hide d l H') v dd → Q v H') → t σ H Q
def TDs (K : PySem.W.Frag) (d l : Addr) (H0 : Hp) (σ : L2.St) (t : TA) (ds : List PyData) : Prop :=
  ∀ H Q, Same H0 H → (∀ vs H', Same H H' → DqAll K (hide d l H') vs ds → Q vs H') → t σ H Q
def TL (K : PySem.W.Frag) (d l : Addr) (H0 : Hp) (σ : L2.St) (t : TE) (ds : List PyData) : Prop :=
  ∀ H Q, Same H0 H → (∀ a xs H', Same H H' → a ≠ d → a ≠ l → H' a = some (.lst xs) → DqAll K (hide d l H') xs ds → Q (.ref a) H') → t σ H Q
theorem DqAll.app {K : PySem.W.Frag} {H : Hp} : ∀ {xs ys : List V} {ds es : List PyData}, DqAll K H xs ds → DqAll K H ys es → DqAll K H (xs ++ ys) (ds ++ es)
  | _, _, _, _, .nil, h => h
  | _, _, _, _, .cons h1 h2, h => .cons h1 (h2.app h)
theorem DqAll.drop {K : PySem.W.Frag} {H : Hp} : ∀ {xs : List V} {ds : List PyData} (n : Nat), DqAll K H xs ds → DqAll K H (xs.drop n) (ds.drop n)
  | _, _, 0, h => h
  | _, _, _ + 1, .nil => .nil
  | _, _, n + 1, .cons _ h2 => h2.drop n
theorem DqAll.take {K : PySem.W.Frag} {H : Hp} : ∀ {xs : List V} {ds : List PyData} (n : Nat), DqAll K H xs ds → DqAll K H (xs.take n) (ds.take n)
  | _, _, 0, _ => .nil
  | _, _, _ + 1, .nil => .nil
  | _, _, n + 1, .cons h1 h2 => .cons h1 (h2.take n)
theorem DqAll.rev {K : PySem.W.Frag} {H : Hp} : ∀ {xs : List V} {ds : List PyData}, DqAll K H xs ds → DqAll K H xs.reverse ds.reverse
  | _, _, .nil => .nil
  | _, _, .cons h1 h2 => by
    rw [List.reverse_cons, List.reverse_cons]
    exact h2.rev.app (.cons h1 .nil)
theorem DqAll.rep {K : PySem.W.Frag} {H : Hp} {xs : List V} {ds : List PyData} (h : DqAll K H xs ds) : ∀ n : Nat, DqAll K H (List.replicate n xs).flatten (List.replicate n ds).flatten
  | 0 => .nil
  | n + 1 => by
    rw [List.replicate_succ, List.replicate_succ, List.flatten_cons, List.flatten_cons]
    exact h.app (h.rep n)
theorem DqAll.mem {K : PySem.W.Frag} {H : Hp} : ∀ {xs : List V} {ds : List PyData} {x : V}, DqAll K H xs ds → x ∈ xs → ∃ dd ∈ ds, Dq K H x dd
  | _, _, _, .nil, hx => by cases hx
  | _, _, _, .cons h1 h2, hx => by
    rcases List.mem_cons.mp hx with rfl | hx
    · exact ⟨_, List.mem_cons_self, h1⟩
    · obtain ⟨dd, m, q⟩ := h2.mem hx
      exact ⟨dd, List.mem_cons_of_mem _ m, q⟩
theorem DqAll.at {K : PySem.W.Frag} {H : Hp} : ∀ {xs : List V} {ds : List PyData} {i : Nat} {dd : PyData}, DqAll K H xs ds → ds[i]? = some dd → ∃ x, xs[i]? = some x ∧ Dq K H x dd
  | _, _, _, _, .nil, e => by simp at e
  | _, _, 0, _, .cons h1 _, e => by
    obtain rfl := Option.some.inj e
    exact ⟨_, rfl, h1⟩
  | _, _, i + 1, _, .cons _ h2, e => h2.at (i := i) e
theorem same_upd' {H : Hp} {p : Addr} {o : HO} (h : H p = none) : Same H (upd H p o) := fun b u e => by
  rw [upd_ne (ne_of_none e h)]
  exact e
def cutD (ds : List PyData) (lo hi : Option Int) : List PyData := (ds.drop (HT.sIx ds.length 0 lo)).take (HT.sIx ds.length ds.length hi - HT.sIx ds.length 0 lo)
theorem DqAll.cut {K : PySem.W.Frag} {H : Hp} {xs : List V} {ds : List PyData} (h : DqAll K H xs ds) (lo hi : Option Int) : DqAll K H (cutV xs lo hi) (cutD ds lo hi) := by
  unfold cutV cutD
  rw [h.length]
  exact (h.drop _).take _
section
variable {K : PySem.W.Frag} {d l : Addr} {H0 : Hp} {σ : L2.St} {kL : Str}
theorem tds_nil : TDs K d l H0 σ tNil [] := fun H Q _ q => q [] H (Same.refl _) .nil
theorem tds_cons {t : TE} {ts : TA} {dd : PyData} {ds : List PyData} (h : TD K d l H0 σ t dd) (hs : TDs K d l H0 σ ts ds) : TDs K d l H0 σ (tCons t ts) (dd :: ds) :=
  fun H Q s q => h H _ s fun v H1 s1 hv => hs H1 _ (s.trans s1) fun vs H2 s2 hvs => q (v :: vs) H2 (s1.trans s2) (.cons (Dq.same (same_hide s2) _ _ hv) hvs)
theorem td_pure {t : TE} {v : V} {dd : PyData} (h : ∀ H Q, Q v H → t σ H Q) (hd : ∀ H, Dq K H v dd) : TD K d l H0 σ t dd :=
  fun H Q _ q => h H Q (q v H (Same.refl _) (hd _))
theorem td_none : TD K d l H0 σ (tC .non) .none := td_pure (fun _ _ q => q) fun _ => .non
theorem td_bool {b : Bool} : TD K d l H0 σ (tC (.bl b)) (.bool b) := td_pure (fun _ _ q => q) fun _ => .bl b
theorem td_int {i : Int} : TD K d l H0 σ (tC (.int i)) (.int i) := td_pure (fun _ _ q => q) fun _ => .int i
theorem td_str {x : Str} : TD K d l H0 σ (tC (.str x)) (.str x) := td_pure (fun _ _ q => q) fun _ => .str x
theorem td_pow {i j : Int} (h : CPow i j) : TD K d l H0 σ (tOp (rI CPow fun i j => .int (i ^ j.toNat)) (tC (.int i)) (tC (.int j))) (.int (i ^ j.toNat)) :=
  td_pure (fun _ _ q => ⟨i, j, rfl, rfl, h, q⟩) fun _ => .int _
theorem td_npow {i j : Int} (h : CPow i j) : TD K d l H0 σ (tUn (rU fun i => .int (-i)) (tOp (rI CPow fun i j => .int (i ^ j.toNat)) (tC (.int i)) (tC (.int j)))) (.int (-(i ^ j.toNat))) :=
  td_pure (fun _ _ q => ⟨i, j, rfl, rfl, h, _, rfl, q⟩) fun _ => .int _
theorem td_neg {i : Int} : TD K d l H0 σ (tUn (rU fun i => .int (-i)) (tC (.int i))) (.int (-i)) := td_pure (fun _ _ q => ⟨_, rfl, q⟩) fun _ => .int _
theorem td_var {i : Nat} {v : V} {dd : PyData} (e : σ[i]? = some (some v)) (h : Dq K (hide d l H0) v dd) : TD K d l H0 σ (tVar i) dd :=
  fun H Q s q => ⟨v, e, q v H (Same.refl _) (Dq.same (same_hide s) _ _ h)⟩
variable (D : Deck kL H0 d l)
include D
theorem td_tup {ts : TA} {ds : List PyData} (h : TDs K d l H0 σ ts ds) (hl : ds.length ≤ 100000 := by decide) : TD K d l H0 σ (tTup ts) (.tuple ds) :=
  fun H Q s q => h H _ s fun vs H1 s1 hv => ⟨by rw [hv.length]; exact Nat.le_trans hl (by rw [sizeLine_eq]; decide), fun p hp => by
    have D1 := D.same (s.trans s1)
    exact q _ _ (s1.trans (same_upd' hp)) (.tup (SqT.of (D1.at_new hp)) (DqAll.same (D1.same_new hp) _ _ hv))⟩
theorem td_lst {ts : TA} {ds : List PyData} (h : TDs K d l H0 σ ts ds) (hl : ds.length ≤ 100000 := by decide) : TD K d l H0 σ (tLst ts) (.list ds) :=
  fun H Q s q => h H _ s fun vs H1 s1 hv => ⟨by rw [hv.length]; exact Nat.le_trans hl (by rw [sizeLine_eq]; decide), fun p hp => by
    have D1 := D.same (s.trans s1)
    exact q _ _ (s1.trans (same_upd' hp)) (.lst (SqL.of (D1.at_new hp)) (DqAll.same (D1.same_new hp) _ _ hv))⟩
theorem td_dict0 : TD K d l H0 σ tDNewK (.dict []) := fun H Q s q p hp => by
  have D1 := D.same s
  exact q _ _ (same_upd' hp) (.dic (D1.at_new hp) .nil)
theorem tl_lst {ts : TA} {ds : List PyData} (h : TDs K d l H0 σ ts ds) (hl : ds.length ≤ 100000 := by decide) : TL K d l H0 σ (tLst ts) ds :=
  fun H Q s q => h H _ s fun vs H1 s1 hv => ⟨by rw [hv.length]; exact Nat.le_trans hl (by rw [sizeLine_eq]; decide), fun p hp => by
    have D1 := D.same (s.trans s1)
    exact q _ vs _ (s1.trans (same_upd' hp)) (D1.off hp).1 (D1.off hp).2 upd_same (DqAll.same (D1.same_new hp) _ _ hv)⟩
end
end MB
namespace MB
open PySem PySem.Spec PyProof.Rows L2
section
variable {K : PySem.W.Frag} {d l : Addr} {H0 : Hp} {σ : L2.St} {kL : Str}
theorem tl_var {i : Nat} {a : Addr} {xs : List V} {ds : List PyData} (e : σ[i]? = some (some (.ref a))) (h1 : a ≠ d) (h2 : a ≠ l) (hx : H0 a = some (.lst xs)) (h : DqAll K (hide d l H0) xs ds) : TL K d l H0 σ (tVar i) ds :=
  fun H Q s q => ⟨_, e, q a xs H (Same.refl _) h1 h2 (s _ _ hx) (DqAll.same (same_hide s) _ _ h)⟩
variable (D : Deck kL H0 d l)
include D
theorem tl_cat {ta tb : TE} {ds es : List PyData} (ha : TL K d l H0 σ ta ds) (hb : TL K d l H0 σ tb es) (hl : ds.length + es.length ≤ 100000 := by decide) : TL K d l H0 σ (tOp rCat ta tb) (ds ++ es) :=
  fun H Q s q => ha H _ s fun a xs H1 s1 a1 a2 hx hxs => hb H1 _ (s.trans s1) fun b ys H2 s2 b1 b2 hy hys => by
    refine ⟨a, b, xs, ys, rfl, rfl, s2 _ _ hx, hy, by rw [hxs.length, hys.length]; exact Nat.le_trans hl (by rw [sizeLine_eq]; decide), fun p hp => ?_⟩
    have D2 := D.same ((s.trans s1).trans s2)
    refine q p _ _ ((s1.trans s2).trans (same_upd' hp)) (D2.off hp).1 (D2.off hp).2 upd_same (DqAll.same (D2.same_new hp) _ _ ?_)
    exact DqAll.app (DqAll.same (same_hide s2) _ _ hxs) hys
theorem tl_rep {ta : TE} {ds : List PyData} {k : Int} (ha : TL K d l H0 σ ta ds) (h0 : 0 ≤ k := by decide) (hk : k ≤ 1000 := by decide) (hl : ds.length * k.toNat ≤ 100000 := by decide) :
    TL K d l H0 σ (tOp rRep ta (tC (.int k))) (List.replicate k.toNat ds).flatten :=
  fun H Q s q => ha H _ s fun a xs H1 s1 a1 a2 hx hxs => by
    refine ⟨a, k, xs, rfl, rfl, hx, by omega, by omega, by rw [hxs.length]; exact Nat.le_trans hl (by rw [sizeLine_eq]; decide), fun p hp => ?_⟩
    have D1 := D.same (s.trans s1)
    exact q p _ _ (s1.trans (same_upd' hp)) (D1.off hp).1 (D1.off hp).2 upd_same (DqAll.same (D1.same_new hp) _ _ (hxs.rep _))
theorem td_dict1 {k : Str} {i j : Int} : TD K d l H0 σ (tDisp [(tC (.str k), tTup (tCons (tC (.int i)) (tCons (tC (.int j)) tNil)))]) (.dict [(.str k, .tuple [.int i, .int j])]) := fun H Q s q p hp => by
  refine ⟨by rw [sizeLine_eq]; exact (by decide : 2 ≤ 16777216), fun t ht => ?_⟩
  have D1 := D.same s
  have h1 : (upd H p (.dK [])) p = some (.dK []) := upd_same
  have htp : t ≠ p := (ne_of_none h1 ht).symm
  have htH : H t = none := by
    rw [upd_ne htp] at ht
    exact ht
  refine ⟨(upd_ne htp.symm).trans h1, [(.inr k, .ref t)], rfl, (by decide : 1 ≤ 15), ?_⟩
  have e0 : Same H (upd (upd (upd H p (.dK [])) t (.tup [.int i, .int j])) p (.dK (mergeK [] [(.inr k, .ref t)]))) := fun b u z => by
    rw [upd_ne (ne_of_none z hp), upd_ne (ne_of_none z htH), upd_ne (ne_of_none z hp)]
    exact z
  refine q _ _ e0 (.dic (kvs := [(.inr k, .ref t)]) ?_ (.cons (k := .inr k) (.tup (xs := [.int i, .int j]) (SqT.of ?_) (.cons (.int i) (.cons (.int j) .nil))) .nil))
  · rw [hide_off (D1.off hp).1 (D1.off hp).2, upd_same]
    rfl
  · rw [hide_off (D1.off htH).1 (D1.off htH).2, upd_ne htp, upd_same]
theorem td_listOf {t : TE} {ds : List PyData} (h : TD K d l H0 σ t (.tuple ds)) :
    TD K d l H0 σ (tCB (fun xs H Q => ∃ p ys, xs = [V.ref p] ∧ (SqL K H p ys ∨ SqT K H p ys) ∧ ∀ l : Addr, H l = none → Q (V.ref l) (upd H l (.lst ys))) (tCons t tNil)) (.list ds) :=
  fun H Q s q => h H _ s fun v H1 s1 hv => by
    cases hv with
    | @tup a xs _ h1 h2 =>
      refine ⟨a, xs, rfl, .inr (sqT_same hide_sub h1), fun p hp => ?_⟩
      have D1 := D.same (s.trans s1)
      exact q _ _ (s1.trans (same_upd' hp)) (.lst (SqL.of (D1.at_new hp)) (DqAll.same (D1.same_new hp) _ _ h2))
theorem td_catT {ta tb : TE} {ds es : List PyData} (ha : TD K d l H0 σ ta (.tuple ds)) (hb : TD K d l H0 σ tb (.tuple es)) (hl : ds.length + es.length ≤ 100000) :
    TD K d l H0 σ (tOp (rCatA K) ta tb) (.tuple (ds ++ es)) :=
  fun H Q s q => ha H _ s fun v H1 s1 hv => hb H1 _ (s.trans s1) fun u H2 s2 hu => by
    cases hv with
    | @tup a xs _ h1 h2 =>
      cases hu with
      | @tup b ys _ h3 h4 =>
        have h1' := sqT_same (same_hide s2) h1
        have h2' := DqAll.same (same_hide s2) _ _ h2
        refine ⟨a, b, xs, ys, rfl, rfl, sqT_same hide_sub h1', sqT_same hide_sub h3, by rw [h2.length, h4.length]; exact Nat.le_trans hl (by rw [sizeLine_eq]; decide), ?_, ?_, ?_⟩
        · intro z
          subst z
          cases h2
          exact q _ _ (s1.trans s2) (.tup h3 h4)
        · intro _ z
          subst z
          cases h4
          exact q _ _ (s1.trans s2) (.tup h1' (by rw [List.append_nil]; exact h2'))
        · intro _ _ p hp
          have D2 := D.same ((s.trans s1).trans s2)
          exact q _ _ ((s1.trans s2).trans (same_upd' hp)) (.tup (SqT.of (D2.at_new hp)) (DqAll.same (D2.same_new hp) _ _ (h2'.app h4)))
theorem td_slice {t : TE} {ds : List PyData} {tl th : TO} {lo hi : Option Int} (h : TD K d l H0 σ t (.tuple ds)) (hlo : ∀ H Q, Q lo H → tl σ H Q) (hhi : ∀ H Q, Q hi H → th σ H Q) :
    TD K d l H0 σ (L2.tSl (rSlA K) t tl th) (.tuple (cutD ds lo hi)) :=
  fun H Q s q => h H _ s fun v H1 s1 hv => hlo H1 _ (hhi H1 _ (by
    cases hv with
    | @tup a xs _ h1 h2 =>
      refine ⟨a, xs, rfl, sqT_same hide_sub h1, fun hw => ?_, fun hw p hp => ?_⟩
      · have e : cutV xs lo hi = xs := by
          unfold cutV
          rw [hw.1, hw.2, List.drop_zero, Nat.sub_zero, List.take_length]
        have z := h2.cut lo hi
        rw [e] at z
        exact q _ _ s1 (.tup h1 z)
      · have D1 := D.same (s.trans s1)
        exact q _ _ (s1.trans (same_upd' hp)) (.tup (SqT.of (D1.at_new hp)) (DqAll.same (D1.same_new hp) _ _ (h2.cut lo hi)))))
theorem td_revT {t : TE} {ds : List PyData} (h : TD K d l H0 σ t (.tuple ds)) : TD K d l H0 σ (tRevT K t) (.tuple ds.reverse) :=
  fun H Q s q => h H _ s fun v H1 s1 hv => by
    cases hv with
    | @tup a xs _ h1 h2 =>
      refine ⟨a, xs, rfl, sqT_same hide_sub h1, fun p hp => ?_⟩
      have D1 := D.same (s.trans s1)
      exact q _ _ (s1.trans (same_upd' hp)) (.tup (SqT.of (D1.at_new hp)) (DqAll.same (D1.same_new hp) _ _ h2.rev))
end
theorem asg_tl {K : PySem.W.Frag} {d l : Addr} {H0 : Hp} {σ : L2.St} {te : TE} {ds : List PyData} {i : Nat} {D : Ends} {H : Hp} (h : TL K d l H0 σ te ds) (s : Same H0 H)
    (k : ∀ a xs H', Same H H' → a ≠ d → a ≠ l → H' a = some (.lst xs) → DqAll K (hide d l H') xs ds → D.nx (σ.set i (some (.ref a))) H') : tAsg te (gName i) D σ H :=
  h H _ s fun a xs H' s1 h1 h2 hx hq => k a xs H' s1 h1 h2 hx hq
theorem seq_tl {K : PySem.W.Frag} {d l : Addr} {H0 : Hp} {σ : L2.St} {te : TE} {ds : List PyData} {i : Nat} {rest : TS} {D : Ends} {H : Hp} (h : TL K d l H0 σ te ds) (s : Same H0 H)
    (k : ∀ a xs H', Same H H' → a ≠ d → a ≠ l → H' a = some (.lst xs) → DqAll K (hide d l H') xs ds → rest D (σ.set i (some (.ref a))) H') : tSeq (tAsg te (gName i)) rest D σ H :=
  h H _ s fun a xs H' s1 h1 h2 hx hq => k a xs H' s1 h1 h2 hx hq
theorem to_no {σ : L2.St} : ∀ H (Q : Option Int → Hp → Prop), Q none H → tNoPart σ H Q := fun _ _ q => q
theorem to_int {σ : L2.St} {i : Int} : ∀ H (Q : Option Int → Hp → Prop), Q (some i) H → tPart (tC (.int i)) σ H Q := fun _ _ q => ⟨i, rfl, q⟩
theorem to_neg {σ : L2.St} {i : Int} : ∀ H (Q : Option Int → Hp → Prop), Q (some (-i)) H → tPart (tUn (rU fun i => .int (-i)) (tC (.int i))) σ H Q := fun _ _ q => ⟨i, rfl, _, rfl, q⟩
end MB
end
section
set_option maxRecDepth 100000
namespace MB
open PySem PySem.Spec PyProof.Rows L2
structure Sz (b k : Nat) (dd : PyData) : Prop where
  sh : dd.showable = true
  lv : dd.leavesShort 60 = true
  bu : dd.bulk ≤ b
  de : dd.depth ≤ k
theorem Sz.told {b k : Nat} {dd : PyData} (h : Sz b k dd) (hb : b ≤ 200000 := by decide) (hk : k ≤ 40 := by decide) : Told dd := ⟨h.sh, h.lv, Nat.le_trans h.bu hb, Nat.le_trans h.de hk⟩
theorem Sz.mono {b k b' k' : Nat} {dd : PyData} (h : Sz b k dd) (hb : b ≤ b' := by decide) (hk : k ≤ k' := by decide) : Sz b' k' dd := ⟨h.sh, h.lv, Nat.le_trans h.bu hb, Nat.le_trans h.de hk⟩
structure SzAll (b k : Nat) (ds : List PyData) : Prop where
  sh : PyData.showableAll ds = true
  lv : PyData.leavesShortAll 60 ds = true
  bu : PyData.bulkAll ds ≤ b
  de : PyData.depthAll ds ≤ k
theorem szAll_nil {b k : Nat} : SzAll b k [] := ⟨rfl, rfl, Nat.zero_le _, Nat.zero_le _⟩
theorem szAll_cons {b b' k : Nat} {dd : PyData} {ds : List PyData} (h : Sz b k dd) (hs : SzAll b' k ds) : SzAll (b + 1 + b') k (dd :: ds) where
  sh := by
    simp only [PyData.showableAll, Bool.and_eq_true]
    exact ⟨h.sh, hs.sh⟩
  lv := by
    simp only [PyData.leavesShortAll, Bool.and_eq_true]
    exact ⟨h.lv, hs.lv⟩
  bu := by
    simp only [PyData.bulkAll]
    have := h.bu
    have := hs.bu
    omega
  de := by
    simp only [PyData.depthAll]
    exact Nat.max_le.mpr ⟨h.de, hs.de⟩
theorem sz_tup {b k : Nat} {ds : List PyData} (h : SzAll b k ds) : Sz b (k + 1) (.tuple ds) where
  sh := by simpa only [PyData.showable] using h.sh
  lv := by simpa only [PyData.leavesShort] using h.lv
  bu := by simpa only [PyData.bulk] using h.bu
  de := by
    simp only [PyData.depth]
    exact Nat.succ_le_succ h.de
theorem sz_lst {b k : Nat} {ds : List PyData} (h : SzAll b k ds) : Sz b (k + 1) (.list ds) where
  sh := by simpa only [PyData.showable] using h.sh
  lv := by simpa only [PyData.leavesShort] using h.lv
  bu := by simpa only [PyData.bulk] using h.bu
  de := by
    simp only [PyData.depth]
    exact Nat.succ_le_succ h.de
theorem sz_none {b k : Nat} : Sz b k .none := ⟨rfl, rfl, Nat.zero_le _, Nat.zero_le _⟩
theorem sz_bool {b k : Nat} {x : Bool} : Sz b k (.bool x) := ⟨rfl, rfl, Nat.zero_le _, Nat.zero_le _⟩
theorem sz_int {b k : Nat} {i : Int} (h : i.natAbs < 10 ^ 42) : Sz b k (.int i) where
  sh := by
    simp only [PyData.showable, decide_eq_true_eq]
    rcases Nat.eq_zero_or_pos i.natAbs with z | z
    · rw [z]
      decide
    · have h2 : i.natAbs < 2 ^ 140 := Nat.lt_trans h (by decide)
      have := (Nat.log2_lt (by omega)).mpr h2
      omega
  lv := by
    simp only [PyData.leavesShort, decide_eq_true_eq]
    have e := int_text_length_le10 (k := 42) (by decide) h
    show (Str.ofString (toString i)).length ≤ 60
    rw [PySem.ofString_length]
    omega
  bu := Nat.zero_le _
  de := Nat.zero_le _
theorem szAll_ints {k : Nat} : ∀ (ns : List Int), (∀ c ∈ ns, c.natAbs < 10 ^ 42) → SzAll ns.length k (ns.map PyData.int)
  | [], _ => szAll_nil
  | c :: r, h => by
    have z := szAll_cons (b := 0) (k := k) (sz_int (h c List.mem_cons_self)) (szAll_ints (k := k) r fun x hx => h x (List.mem_cons_of_mem _ hx))
    rw [List.map_cons, List.length_cons]
    have e : 0 + 1 + r.length = r.length + 1 := by omega
    rw [e] at z
    exact z
theorem SzAll.mono {b k b' k' : Nat} {ds : List PyData} (h : SzAll b k ds) (hb : b ≤ b') (hk : k ≤ k') : SzAll b' k' ds := ⟨h.sh, h.lv, Nat.le_trans h.bu hb, Nat.le_trans h.de hk⟩
theorem showableAll_app : ∀ ds es : List PyData, PyData.showableAll (ds ++ es) = (PyData.showableAll ds && PyData.showableAll es)
  | [], es => by simp only [List.nil_append, PyData.showableAll, Bool.true_and]
  | d :: r, es => by simp only [List.cons_append, PyData.showableAll, showableAll_app r es, Bool.and_assoc]
theorem leavesAll_app (B : Nat) : ∀ ds es : List PyData, PyData.leavesShortAll B (ds ++ es) = (PyData.leavesShortAll B ds && PyData.leavesShortAll B es)
  | [], es => by simp only [List.nil_append, PyData.leavesShortAll, Bool.true_and]
  | d :: r, es => by simp only [List.cons_append, PyData.leavesShortAll, leavesAll_app B r es, Bool.and_assoc]
theorem bulkAll_app : ∀ ds es : List PyData, PyData.bulkAll (ds ++ es) = PyData.bulkAll ds + PyData.bulkAll es
  | [], es => by simp only [List.nil_append, PyData.bulkAll, Nat.zero_add]
  | d :: r, es => by
    simp only [List.cons_append, PyData.bulkAll, bulkAll_app r es]
    omega
theorem depthAll_app : ∀ ds es : List PyData, PyData.depthAll (ds ++ es) = max (PyData.depthAll ds) (PyData.depthAll es)
  | [], es => by simp only [List.nil_append, PyData.depthAll, Nat.zero_max]
  | d :: r, es => by simp only [List.cons_append, PyData.depthAll, depthAll_app r es, Nat.max_assoc]
theorem szAll_app {b b' k : Nat} {ds es : List PyData} (h : SzAll b k ds) (g : SzAll b' k es) : SzAll (b + b') k (ds ++ es) where
  sh := by rw [showableAll_app, h.sh, g.sh]; rfl
  lv := by rw [leavesAll_app, h.lv, g.lv]; rfl
  bu := by
    rw [bulkAll_app]
    exact Nat.add_le_add h.bu g.bu
  de := by
    rw [depthAll_app]
    exact Nat.max_le.mpr ⟨h.de, g.de⟩
theorem cps_small (s : String) : (Str.ofString s).cps.toList.all (fun c => decide (c < 16 ^ 8)) = true := by
  rw [Str.ofString_eq_toList]
  show ((s.toList.map Char.toNat).toArray.toList).all _ = true
  rw [List.all_eq_true]
  intro c hc
  obtain ⟨ch, _, rfl⟩ := List.mem_map.mp (show c ∈ s.toList.map Char.toNat from hc)
  have h1 : ch.toNat < 0x110000 := by
    have := ch.valid
    have h2 : ch.val.toNat < 0x110000 := by
      rcases this with h | ⟨_, h⟩ <;> omega
    exact h2
  have e : (16 : Nat) ^ 8 = 4294967296 := by decide
  exact decide_eq_true (by omega)
theorem sz_text {b k : Nat} {s : String} (h : s.length ≤ b) : Sz b k (.str (Str.ofString s)) where
  sh := rfl
  lv := by
    simp only [PyData.leavesShort]
    exact cps_small s
  bu := by
    simp only [PyData.bulk]
    show (Str.ofString s).length ≤ b
    rw [PySem.ofString_length]
    exact h
  de := Nat.zero_le _
end MB
end
section
set_option maxRecDepth 100000
namespace MB
open PySem PySem.Spec PyProof.Rows L2 LamX
def newer (H H' : Hp) : Hp := fun b => match H b with
  | some _ => none
  | none => H' b
section
variable {H H0 H1 H' H2 : Hp} {d l p : Addr} {kL : Str} {K : PySem.W.Frag}
theorem newer_at {b : Addr} (h : H b = none) : newer H H' b = H' b := by
  unfold newer
  rw [h]
theorem newer_some {b : Addr} {o : HO} (h : newer H H' b = some o) : H b = none ∧ H' b = some o := by
  unfold newer at h
  split at h
  · cases h
  · rename_i e
    exact ⟨e, h⟩
theorem newer_sub : Same (newer H H') H' := fun b u e => (newer_some e).2
theorem newer_mono (f : ∀ p, H1 p = none → H0 p = none) : Same (newer H1 H') (newer H0 H') := fun b u e => by
  obtain ⟨e1, e2⟩ := newer_some e
  rw [newer_at (f b e1)]
  exact e2
theorem newer_step (k : ∀ b o, H b = none → H' b = some o → H2 b = some o) : Same (newer H H') (newer H H2) := fun b u e => by
  obtain ⟨e1, e2⟩ := newer_some e
  rw [newer_at e1]
  exact k b u e1 e2
theorem Deck.there (D : Deck kL H d l) : H d ≠ none ∧ H l ≠ none := by
  obtain ⟨m, n, cs, h1, h2, _⟩ := D.ex
  rw [h1, h2]
  exact ⟨(by intro z; cases z), (by intro z; cases z)⟩
theorem newer_but (D : Deck kL H d l) (e : But d l H' H2) : Same (newer H H') (newer H H2) := newer_step fun b o h1 h2 => e b o h2 (fun z => D.there.1 (z ▸ h1)) (fun z => D.there.2 (z ▸ h1))
theorem Deck.extN (D : Deck kL H d l) (e : ExtN H H') : Deck kL H' d l := by
  obtain ⟨m, n, cs, h1, h2, h3⟩ := D.ex
  exact ⟨m, n, cs, e _ _ h1 (by intro ps z; cases z), e _ _ h2 (by intro ps z; cases z), h3⟩
theorem codeO_form {c : Addr} {q : Str} : (∀ kvs, CodeO c q ≠ .dK kvs) ∧ ∀ xs, CodeO c q ≠ .lst xs := by
  unfold CodeO
  exact ⟨fun _ z => (by cases z), fun _ z => (by cases z)⟩
theorem tabs_but {T : List (Addr × Str)} (D : Deck kL H d l) (e : But d l H H') (t : Tabs T H) : Tabs T H' := fun p hp => by
  obtain ⟨m, n, cs, h1, h2, _⟩ := D.ex
  obtain ⟨ps, a1, a2, a3⟩ := t p hp
  refine ⟨ps, e _ _ a1 (ne_of a1 h1 (by intro z; cases z)) (ne_of a1 h2 (by intro z; cases z)), a2, fun pos cv hc => ?_⟩
  obtain ⟨c, e1, e2⟩ := a3 pos cv hc
  exact ⟨c, e1, e _ _ e2 (ne_of e2 h1 (codeO_form.1 _)) (ne_of e2 h2 (codeO_form.2 _))⟩
theorem tabs_same {T : List (Addr × Str)} (e : Same H H') (t : Tabs T H) : Tabs T H' := t.ext e
end
theorem mono_told {d : PyData} {b k : Nat} (h : Sz b k d) (hb : b ≤ 200000) (hk : k ≤ 40) : Told d := h.told hb hk
theorem sz_dict2 {b k : Nat} {s : String} {i j : Int} {x : PyData} (h : Sz b k x) (hs : s.length ≤ 20) (hi : i.natAbs < 10 ^ 42) (hj : j.natAbs < 10 ^ 42) : Sz (b + 30) (k + 1) (.dict [(.str (Str.ofString s), x), (.int i, .int j)]) where
  sh := by
    have a := (sz_int (b := 0) (k := 0) hi).sh
    have c := (sz_int (b := 0) (k := 0) hj).sh
    simp only [PyData.showable, PyData.showableKv, Bool.and_true, Bool.true_and] at a c ⊢
    rw [h.sh, a, c]
    rfl
  lv := by
    have a := (sz_int (b := 0) (k := 0) hi).lv
    have c := (sz_int (b := 0) (k := 0) hj).lv
    have t := (sz_text (k := 0) hs).lv
    simp only [PyData.leavesShort, PyData.leavesShortKv, Bool.and_true] at a c t ⊢
    rw [h.lv, a, c, t]
    rfl
  bu := by
    have t := (sz_text (k := 0) hs).bu
    have := h.bu
    simp only [PyData.bulk, PyData.bulkKv] at t ⊢
    omega
  de := by
    have := h.de
    simp only [PyData.depth, PyData.depthKv]
    omega
end MB
end
section
set_option maxRecDepth 100000
set_option maxHeartbeats 4000000
namespace MB
open PySem PySem.Spec PyProof.Rows L2
def rIsD (K : PySem.W.Frag) (D : Addr) (cls : Value) (d : Option Addr) (a : Addr) : List V → Hp → VK → Prop := fun xs H Q => ∃ (c : V) (cv : Value) (b : Bool) (dd : Addr) (fs : List (Str × V)), xs = [.ref a, c] ∧ (∀ u, RelV c u → u = cv) ∧ cls = .ref D ∧ d = some dd ∧ H dd = some (.xd fs) ∧ PySem.W.kitOne K (.ref D) cv = some b ∧ Q (.bl b) H
theorem call_isD {X : Cx} {a D : Addr} {cls : Value} {d : Option Addr} {oe : Obj} {pn : List (Addr × Obj)} (C : ExcC X.K D) (hz : Zc cls d oe) (hf : ∃ vs, oe.data = .fields vs) : CallR (X.suite a ((a, oe) :: pn)) (.builtin "isinstance") (rIsD X.K D cls d a) := by
  intro pins s σ H xs us Q I r h
  obtain ⟨c, cv, b, dd, fs, rfl, hcv, ec, ed, hx, e, q⟩ := h
  cases r with
  | cons rx rr =>
    cases rr with
    | cons rt rr =>
      cases rr
      cases rx
      have ec2 := hcv _ rt
      subst ec2
      subst ec
      subst ed
      obtain ⟨hget, _⟩ := I.pin (a, oe) (List.mem_append.mpr (.inl List.mem_cons_self))
      obtain ⟨vs, hv⟩ := hf
      have hx' : ObjOk X.prog X.w H s.heap dd (.xd fs) := I.hok dd _ hx
      obtain ⟨mA, hns, hr⟩ := hx'
      obtain ⟨od, ho, hl⟩ := lookIn_ns hns
      have J : PySem.W.InstAt s.heap a oe D (some od) := ⟨hget, hz.1, by unfold PySem.W.notCls; rw [hv] <;> rfl, by rw [hz.2]; exact ho⟩
      have hcl : (PySem.W.clsIn X.K D).isSome = true := by
        have h := C.hd
        unfold PySem.W.hasDictIn at h
        cases hc : PySem.W.clsIn X.K D with
        | none => rw [hc] at h; cases h
        | some _ => rfl
      exact PySem.W.kia_one (PySem.W.kitx_exc hcl C.hg C.hk C.hs C.ha C.hn C.ht C.hm) I.kIn J e (fun z => nomatch z) fun tk => ⟨.bl b, H, I.kept (t' := tk) fun _ _ z => z, rfl, q⟩
theorem Un.past {fs fs' : List Addr} {H H1 H2 : Hp} {h h1 h2 : Heap} (a : L2.Un fs [] H H1 h h1) (b : L2.Un fs' [] H1 H2 h1 h2) (hs : ∀ c ∈ fs', c ∈ fs ∨ h.objs.size ≤ c) : L2.Un fs [] H H2 h h2 where
  keep := fun c ob q n hc hx => b.keep c ob (a.keep c ob q n hc hx) (a.free c ob q n hx) (fun z => (hs c z).elim hc fun z2 => absurd (Heap.lt_size q) (Nat.not_lt_of_le z2)) hx
  slot := fun c ob q n hc hx => by
    obtain ⟨sl, e1⟩ := a.slot c ob q n hc hx
    obtain ⟨sl', e2⟩ := b.any e1 (a.free c ob q n hx) hx
    exact ⟨sl', e2⟩
  free := fun c ob q n hx => by
    obtain ⟨o', e1⟩ := a.there c ob q hx
    exact b.free c o' e1 (a.free c ob q n hx) hx
  there := fun c ob q hx => by
    obtain ⟨o', e1⟩ := a.there c ob q hx
    exact b.there c o' e1 hx
  tups := fun c xs q => b.tups c xs (a.tups c xs q)
  frzs := fun c ob xs q => b.frzs c ob xs (a.frzs c ob xs q)
  tbls := fun c ps q => by
    obtain ⟨m1, e1⟩ := a.tbls c ps q
    obtain ⟨m2, e2⟩ := b.tbls c _ e1
    exact ⟨m1 ++ m2, by rw [e2, Array.append_assoc]⟩
open LamX hiding takes0
section
variable {X : Cx} {pins : List (Addr × Obj)} {σ : L2.St} {H HZ : Hp} {s s1 : Shared}
theorem pe_act2 {CXg : CXT} {Eg : XK} {Ng : List Str} {qg : Str} {sg : Scope} {g f c' : Addr} {cdg pm ctv : Value} {params : Arguments} {body : Expr} {scope : Scope} {k i : Nat} {a : Str} {pn : List (Addr × Obj)} {xe : Value → Shared → Prop} {W : WX} {E : XK} {tb : TE} {p1 p2 : Pos}
    {A2 : Around} {st2 : List Env} {s2 : Shared} {H2 : Hp} (un2 : L2.Un (frs X.stack) [] H H2 s.heap s2.heap) (hst : ∀ c ∈ frs st2, c ∈ frs X.stack ∨ s.heap.objs.size ≤ c)
    (I : Inv X pins σ H s) (L : LamS X.env.scope scope) (hf : s.heap.get? f = some (PySem.W.kla_obj "<lambda>" (X.env.qual ++ "<lambda>") params body scope (cloFrom X.env.cells scope.names []) pm c' ctv)) (hfn : H f = none) (hfr : f ∉ frs X.stack)
    (hbind : bindArgs (PySem.W.kla_fn "<lambda>" (X.env.qual ++ "<lambda>") params body scope (cloFrom X.env.cells scope.names []) pm (.ref c') ctv) ⟨[], []⟩ = pure [])
    (tk : Takes ((cxOf CXg X.prog X.w X.K X.mg X.base Ng qg sg g cdg A2 st2 s2 H2 Eg).tr pn xe) W) (hW : ∀ cls d σ' H', E cls d H' → W cls d σ' H') (hr : Room (k + 1) (A2.deeper (envOfC qg sg s2.heap.objs.size g cdg)))
    (hbody : ∀ (A : Around) (outer : List Env) (s : Shared) (H : Hp), Room k (A.deeper (lamEnv X scope s.heap.objs.size f c')) → PE (lamCx X A outer s H E scope f c') body tb)
    (hN : Ng[i]? = some a) (hv : Vis sg a) (hd : (a == ("__debug__" : Str)) = false := by decide) (hcd : (a == ("__classdict__" : Str)) = false := by decide) :
    PE ((cxOf CXg X.prog X.w X.K X.mg X.base Ng qg sg g cdg A2 st2 s2 H2 Eg).tr pn xe) (.Call (.Name a p1) [] [] p2)
      (fun σZ HZ Q => σZ[i]? = some (some (.ref f)) ∧ HZ c' = some (CodeO c' (X.env.qual ++ "<lambda>")) ∧ tb σ HZ Q) := by
  refine ⟨fun pinsZ sZ σZ HZ Q IZ h => ?_⟩
  obtain ⟨hs, hc, ht⟩ := h
  refine wpAny_Call_Name_kw (thn ((pe_var (pos := p1) (i := i) hN hv hd hcd).run pinsZ sZ σZ HZ (fun v H1 => v = .ref f ∧ H1 = HZ) IZ ⟨.ref f, hs, rfl, rfl⟩) fun u s1 ⟨v, H1, I1, r1, q1⟩ => ?_)
  obtain ⟨ev, eH⟩ := q1
  subst ev
  rw [eH] at I1
  obtain rfl : u = Value.ref f := r1
  have unZ : L2.Un (frs st2) [] H2 HZ s2.heap s1.heap := I1.base
  have un : L2.Un (frs X.stack) [] H HZ s.heap s1.heap := Un.past un2 unZ hst
  have of1 : s1.heap.get? f = some (PySem.W.kla_obj "<lambda>" (X.env.qual ++ "<lambda>") params body scope (cloFrom X.env.cells scope.names []) pm c' ctv) := un.keep f _ hf hfn hfr (fun z => nomatch (show f ∈ ([] : List Addr) from z))
  refine PySem.W.callWith_F0 ⟨_, _, _, _, of1⟩ ?_
  obtain ⟨⟨oc, vs, t, hoc, hdc, hvc⟩, _, _⟩ := I1.hok c' _ hc
  have rc : codeAny (model X.prog X.w) (A2.deeper (envOfC qg sg s2.heap.objs.size g cdg)) (.call (.ref f) ⟨[], []⟩) (CR (L2.CX X.prog X.w) (envOfC qg sg s2.heap.objs.size g cdg :: st2) X.prog X.w HZ s1 Q E) s1 := by
    refine PySem.W.kla_callFunE hr.depth of1 rfl L.co L.gen rfl ⟨c', oc, vs, t, rfl, hoc, hdc, hvc⟩ ?_
    rw [hbind]
    refine wpAny_pure (wpAny_newFunctionEnv (fun y hy => (L.own y hy).2) (fun y hy => absurd hy (by simp)) (fun h₁ hns hsb => ⟨I1.nolimit.fresh _ hsb, ?_⟩) L.kind)
    show codeAny _ _ (.expr body (lamEnv X scope s1.heap.objs.size f c')) _ _
    have kp : ∀ b o, s1.heap.get? b = some o → h₁.get? b = some o := fun b o e => hsb.extBut b o (Nat.ne_of_lt (Heap.lt_size e)) (Heap.get?_push_of_some _ e)
    have J : Inv (lamCx X (A2.deeper (envOfC qg sg s2.heap.objs.size g cdg)) (envOfC qg sg s2.heap.objs.size g cdg :: st2) s1 HZ E scope f c') [] σ HZ { s1 with heap := h₁, toks := s1.toks + ([] : List (Str × Value)).length } :=
      lam_start2 I L I1.env0 hr.hd un hns kp
    refine PySem.W.kla_codeExpr (wpAny_mono ((hbody _ _ s1 HZ (hr.deeper _)).run [] _ _ HZ Q J ht) (fun v s' hq => ?_) fun e s' hq => hq)
    obtain ⟨w', H', J', rv, q⟩ := hq
    exact ⟨w', H', J'.os, J'.bare, J'.base, J'.hok, rv, q⟩
  have hx : Passes (L2.CX X.prog X.w) ((cxOf CXg X.prog X.w X.K X.mg X.base Ng qg sg g cdg A2 st2 s2 H2 Eg).tr pn xe) E := passes_call tk hW
  refine wpAny_call (codeAny_mono rc fun r s' hq => ?_)
  cases r with
  | error e => exact hx pinsZ σZ HZ s1 e s' I1 hq
  | ok fl =>
    cases fl with
    | ret u => exact I1.after hq
    | next => exact False.elim hq
    | brk => exact False.elim hq
    | cont => exact False.elim hq
end
def GivesTo3 (X : Cx) (Ng : List Str) (x : Str) (sg : Scope) (g : Addr) (cdg : Value) (bg : List Stmt) (b a : Str) (q : Str) (TT : (XK → Hp → VK → Prop) → Hp → VK → Prop) (T3 : V → V → (Hp → VK → Prop) → Hp → VK → Prop) : Prop :=
  ∀ (f c' : Addr) (s : Shared) (H : Hp) (Q : VK) (v1 v2 : V) (tl : XK → Hp → VK → Prop), Room 1 (cxOf C8.CX0 X.prog X.w X.K X.mg X.base Ng x sg g cdg X.A X.stack s H C8.E0).A →
    (∀ (p1 p2 p3 : Pos), PE (cxOf C8.CX0 X.prog X.w X.K X.mg X.base Ng x sg g cdg X.A X.stack s H C8.E0).nox (.Call (.Name b p1) [.Name a p2] [] p3) (fun σZ HZ Q => σZ[2]? = some (some (.ref f)) ∧ HZ c' = some (CodeO c' q) ∧ TT tl HZ Q)) →
    H c' = some (CodeO c' q) → T3 v1 v2 (TT tl) H Q →
    ∃ t, PSs (cxOf C8.CX0 X.prog X.w X.K X.mg X.base Ng x sg g cdg X.A X.stack s H C8.E0).nox bg t ∧ t { nx := fun _ H' => Q .non H', rt := Q } (L2.start Ng [v1, v2, .ref f]) H
def tLam3 (T : List (Addr × Str)) (TT : (XK → Hp → VK → Prop) → Hp → VK → Prop) (T3 : V → V → (Hp → VK → Prop) → Hp → VK → Prop) (te1 te2 : TE) (t : XK → TE) : TE := fun σ H Q =>
  te1 σ H fun v1 H1 => te2 σ H1 fun v2 H2 => Tabs T H2 ∧ ∀ H3, ExtN H2 H3 → Tabs T H3 → T3 v1 v2 (TT fun E H' Q' => t E σ H' Q') H3 Q
section
variable {X : Cx}
theorem pe_tell3 {T : List (Addr × Str)} {TT : (XK → Hp → VK → Prop) → Hp → VK → Prop} {T3 : V → V → (Hp → VK → Prop) → Hp → VK → Prop} {x a a1 a2 b ab : Str} {g h c P : Addr} {k : Nat} {st sth : Stmt} {fd fdh : FuncData} {Ng Nh : List Str}
    {e1 e2 : Expr} {te1 te2 : TE} {params : Arguments} {body : Expr} {scope : Scope} {t : XK → TE} {p lpos pos : Pos} (F : Fun X.K x x st g fd) (hb : L2.Binds X.K fd [a1, a2, a] []) (hg : Gl X x) (hm : X.mg x = some (.ref g))
    (Sg : FnScope Ng [a1, a2, a] (defScope st)) (hNg : Ng[2]? = some a) (hva : Vis (defScope st) a)
    (Fh : Fun X.K b b sth h fdh) (hbh : L2.Binds X.K fdh [ab] []) (hgh : (defScope st).names.lookup b = some .globalImplicit) (hmh : X.mg b = some (.ref h)) (Sh : FnScope Nh [ab] (defScope sth)) (hNh : Nh[0]? = some ab) (hvh : Vis (defScope sth) ab)
    (hGh : ∀ (cdg cdh : Value) (s : Shared) (H : Hp), GivesTo (cxOf C8.CX0 X.prog X.w X.K X.mg X.base Ng x (defScope st) g cdg X.A X.stack s H C8.E0).nox Nh b (defScope sth) h cdh (defBody sth) ab (X.env.qual ++ "<lambda>") TT)
    (hG : ∀ cdg, GivesTo3 X Ng x (defScope st) g cdg (defBody st) b a (X.env.qual ++ "<lambda>") TT T3)
    (he1 : PE X e1 te1) (he2 : PE X e2 te2)
    (TB : TabB X.base X.mg c P) (hcode : X.env.code = .ref c) (hmT : (P, X.env.qual ++ "<lambda>") ∈ T) (hu : ∀ p ∈ T, p.1 = P → p.2 = X.env.qual ++ "<lambda>") (hr : Room (k + 4) X.A) (L : LamS X.env.scope scope) (hdef : defaultsOf params X.env = ([], []))
    (hbind : ∀ (q : Str) (cl : List (Str × Addr)) (pm cv ctv : Value), bindArgs (PySem.W.kla_fn "<lambda>" q params body scope cl pm cv ctv) ⟨[], []⟩ = pure [])
    (hbody : ∀ (A : Around) (outer : List Env) (s : Shared) (H : Hp) (E : XK) (f c' : Addr), Room k (A.deeper (lamEnv X scope s.heap.objs.size f c')) → PE (lamCx X A outer s H E scope f c') body (t E))
    (hs : starEach [e1, e2, .Lambda params body scope lpos] X.env = [(false, eval e1 X.env), (false, eval e2 X.env), (false, eval (.Lambda params body scope lpos) X.env)] := by rfl) (hs2 : starEach [e2, .Lambda params body scope lpos] X.env = [(false, eval e2 X.env), (false, eval (.Lambda params body scope lpos) X.env)] := by rfl)
    (hdb : (x == ("__debug__" : Str)) = false := by decide) (hdbb : (b == ("__debug__" : Str)) = false := by decide) (hd : (a == ("__debug__" : Str)) = false := by decide) (hcd : (a == ("__classdict__" : Str)) = false := by decide) (hd' : (ab == ("__debug__" : Str)) = false := by decide) (hcd' : (ab == ("__classdict__" : Str)) = false := by decide) :
    PE X (.Call (.Name x p) [e1, e2, .Lambda params body scope lpos] [] pos) (tLam3 T TT T3 te1 te2 t) := by
  obtain ⟨oc, od, kV, doc, pm, an, cdg, ct, osl, rfl, lk, hcg⟩ := F.ex
  obtain ⟨och, odh, kVh, doch, pmh, anh, cdh, cth, oslh, rfl, lkh, hch⟩ := Fh.ex
  refine ⟨fun pins s σ H Q I hq => ?_⟩
  refine wpAny_Call_Name_kw (ld_glob I hg hm ?_ hdb)
  refine PySem.W.callWith_K (h₀ := X.base) I.ok.mod.kin F.kp ?_ (by rw [hs, hs2]) (by rw [hs2]; rfl)
  rw [hs]
  show wpAny _ _ (spliced [(false, eval e1 X.env), (false, eval e2 X.env), (false, eval (.Lambda params body scope lpos) X.env)]) _ _ s
  refine Calls.spliced_cons (thn (he1.run pins s σ H _ I hq) fun u1 s1 ⟨v1, H1, I1, r1, q1⟩ => ?_)
  refine Calls.spliced_cons (thn (he2.run pins s1 σ H1 _ I1 q1) fun u2 s2 ⟨v2, H2, I2, r2, ⟨hT, q2⟩⟩ => ?_)
  refine Calls.spliced_cons (lam_make2 I2 TB hcode hmT hu hT hdef (L.has I2.ok) fun f c' pm' ctv H3 s3 I3 eN T3' hf hfn hfr hco => ?_)
  refine Calls.spliced_nil ⟨I3.kIn, ?_⟩
  have rc : codeAny (model X.prog X.w) X.A (.call (.ref g) ⟨[u1, u2, .ref f], []⟩) (CR C8.CX0 X.stack X.prog X.w H3 s3 Q C8.E0) s3 := by
    refine run_ofS (N := Ng) (ps := [a1, a2, a]) (us := [u1, u2, .ref f]) (vs := [v1, v2, .ref f]) lk hcg Sg (hr.mono (by omega) : Room (k + 3 + 1) X.A) I3.env0 (hb s3 [u1, u2, .ref f] I3.kIn rfl) (.cons r1 (.cons r2 (.cons rfl .nil))) rfl fun hr' => ?_
    have pass : ∀ (p1 p2 p3 : Pos), PE (cxOf C8.CX0 X.prog X.w X.K X.mg X.base Ng x (defScope st) g cdg X.A X.stack s3 H3 C8.E0).nox (.Call (.Name b p1) [.Name a p2] [] p3)
        (fun σZ HZ Q => σZ[2]? = some (some (.ref f)) ∧ HZ c' = some (CodeO c' (X.env.qual ++ "<lambda>")) ∧ TT (fun E H' Q' => t E σ H' Q') HZ Q) := by
      intro p1 p2 p3
      refine ⟨fun pinsZ sZ σZ HZ QZ IZ hz => ?_⟩
      obtain ⟨hs0, hc, ht⟩ := hz
      have glb : Gl (cxOf C8.CX0 X.prog X.w X.K X.mg X.base Ng x (defScope st) g cdg X.A X.stack s3 H3 C8.E0).nox b := hgh
      refine wpAny_Call_Name_kw (ld_glob IZ glb hmh ?_ hdbb)
      refine PySem.W.callWith_K (h₀ := X.base) IZ.ok.mod.kin Fh.kp ?_ (by rfl) (by rfl)
      show wpAny _ _ (spliced [(false, eval (.Name a p2) _)]) _ _ sZ
      refine Calls.spliced_cons (thn ((pe_var (pos := p2) (i := 2) hNg hva hd hcd).run pinsZ sZ σZ HZ (fun v H1 => v = .ref f ∧ H1 = HZ) IZ ⟨.ref f, hs0, rfl, rfl⟩) fun u s4 ⟨v, H4, I4, r4, q4⟩ => ?_)
      obtain ⟨ev, eH⟩ := q4
      subst ev
      rw [eH] at I4
      obtain rfl : u = Value.ref f := r4
      refine Calls.spliced_nil ⟨I4.kIn, ?_⟩
      have un2 : L2.Un (frs X.stack) [] H3 HZ s3.heap s4.heap := I4.base
      have hst : ∀ c ∈ frs (envOfC x (defScope st) s3.heap.objs.size g cdg :: X.stack), c ∈ frs X.stack ∨ s3.heap.objs.size ≤ c := fun c hc => by
        unfold frs at hc
        rw [List.filterMap_cons] at hc
        split at hc
        · exact .inl hc
        · rename_i L0 hL0
          rcases List.mem_cons.mp hc with rfl | hc
          · have e : (envOfC x (defScope st) s3.heap.objs.size g cdg).frame = some s3.heap.objs.size := rfl
            rw [e] at hL0
            cases hL0
            exact .inr (Nat.le_refl _)
          · exact .inl hc
      have rch : codeAny (model X.prog X.w) (X.A.deeper (envOfC x (defScope st) s3.heap.objs.size g cdg)) (.call (.ref h) ⟨[.ref f], []⟩) (CR C8.CX0 (envOfC x (defScope st) s3.heap.objs.size g cdg :: X.stack) X.prog X.w HZ s4 QZ C8.E0) s4 := by
        refine run_ofS (N := Nh) (ps := [ab]) (us := [.ref f]) (vs := [.ref f]) lkh hch Sh (hr'.mono (by omega) : Room (k + 2 + 1) _) I4.env0 (hbh s4 [.ref f] I4.kIn rfl) (.cons rfl .nil) rfl fun hr2 => ?_
        have act : ∀ (W : WX) (pn : List (Addr × Obj)) (xe : Value → Shared → Prop) (E : XK) (p1 p2 : Pos), Takes ((cxOf C8.CX0 X.prog X.w X.K X.mg X.base Nh b (defScope sth) h cdh (X.A.deeper (envOfC x (defScope st) s3.heap.objs.size g cdg)) (envOfC x (defScope st) s3.heap.objs.size g cdg :: X.stack) s4 HZ C8.E0).tr pn xe) W → (∀ cls d σ' H', E cls d H' → W cls d σ' H') →
            PE ((cxOf C8.CX0 X.prog X.w X.K X.mg X.base Nh b (defScope sth) h cdh (X.A.deeper (envOfC x (defScope st) s3.heap.objs.size g cdg)) (envOfC x (defScope st) s3.heap.objs.size g cdg :: X.stack) s4 HZ C8.E0).tr pn xe) (.Call (.Name ab p1) [] [] p2) (fun σZ HZ Q => σZ[0]? = some (some (.ref f)) ∧ HZ c' = some (CodeO c' (X.env.qual ++ "<lambda>")) ∧ t E σ HZ Q) := fun W pn xe E p1 p2 tk hW =>
          pe_act2 (X := X) (CXg := C8.CX0) (Eg := C8.E0) (A2 := X.A.deeper (envOfC x (defScope st) s3.heap.objs.size g cdg)) (st2 := envOfC x (defScope st) s3.heap.objs.size g cdg :: X.stack) (s2 := s4) (H2 := HZ) (Ng := Nh) (qg := b) (sg := defScope sth) (g := h) (cdg := cdh) (i := 0) (k := k) (tb := t E) un2 hst I3 L hf hfn hfr (hbind _ _ _ _ _) tk hW (hr2.mono (by omega) : Room (k + 1) _) (fun A outer s H hr3 => hbody A outer s H E f c' hr3) hNh hvh hd' hcd'
        obtain ⟨t', ht', hq'⟩ := hGh cdg cdh s3 H3 f c' s4 HZ QZ (fun E H' Q' => t E σ H' Q') act hc ht
        exact ⟨t', ht'.nox, hq'⟩
      refine wpAny_call (codeAny_mono rch fun r s5 hq => ?_)
      cases r with
      | error e => exact (show False from hq).elim
      | ok fl =>
        cases fl with
        | ret u => exact I4.after hq
        | next => exact False.elim hq
        | brk => exact False.elim hq
        | cont => exact False.elim hq
    obtain ⟨t', ht', hq'⟩ := hG cdg f c' s3 H3 Q v1 v2 (fun E H' Q' => t E σ H' Q') (hr'.mono (by omega)) pass hco (q2 H3 eN T3')
    exact ⟨t', ht'.nox, hq'⟩
  refine wpAny_call (codeAny_mono rc fun r s5 hq => ?_)
  cases r with
  | error e => exact (show False from hq).elim
  | ok fl =>
    cases fl with
    | ret u => exact I3.after hq
    | next => exact False.elim hq
    | brk => exact False.elim hq
    | cont => exact False.elim hq
end
theorem pe_callG0 {X : Cx} {k : Nat} {f : Addr} {fd : FuncData} {sp : Sp} {x : Str} {p pos : Pos} (F : FnG X.prog X.w X.K X.mg X.base k f fd [] sp) (hr : Room k X.A) (hgu : X.A.guards = some [])
    (hg : Gl X x) (hm : X.mg x = some (.ref f)) (hk : PySem.W.keepIn X.K (.ref f) = true) (hb : L2.Binds X.K fd [] []) (hdb : (x == ("__debug__" : Str)) = false := by decide) :
    PE X (.Call (.Name x p) [] [] pos) (fun _ H Q => sp [] H Q E0) := by
  refine ⟨fun pins s σ H Q I h => ?_⟩
  refine wpAny_Call_Name_kw (ld_glob I hg hm ?_ hdb)
  refine PySem.W.callWith_K0 I.kIn hk ?_
  have bb := hb s [] I.kIn rfl
  exact runG F hr hgu bb I .nil h
theorem FnOk.quiet {P : Program} {w : World} {K : PySem.W.Frag} {mg : Str → Option Value} {base : Heap} {k : Nat} {f : Addr} {fd : FuncData} {ps : List Str} {sp : Sp} (F : FnOk P w K mg base (L2.CX P w) k f fd ps sp) :
    FnOk P w K mg base L2.CX0 k f fd ps (fun vs H Q _ => sp vs H Q fun _ _ _ => False) where
  len := fun vs H Q E h => F.len vs H Q _ h
  run := fun A outer s H args us vs Q E hr e0 hb r h => by
    refine codeAny_mono (F.run A outer s H args us vs Q (fun _ _ _ => False) hr e0 hb r h) fun r' s' hq => ?_
    cases r' with
    | error e =>
      obtain ⟨_, _, _, _, _, _, _, _, _, _, _, _, z⟩ := (show L2.CX P w outer H s (fun _ _ _ => False) e s' from hq)
      exact z.elim
    | ok fl => cases fl <;> exact hq
end MB
end
section
set_option maxHeartbeats 1000000
namespace PM
def ev (x : Int) : List Int → Int
  | [] => 0
  | c :: r => c + x * ev x r
def nrm : List Int → Nat
  | [] => 0
  | c :: r => c.natAbs + nrm r
def isPoly (l : List Int) : Bool := l.getLast? != some 0
def trimL : List Int → List Int
  | [] => []
  | c :: r => match trimL r with
    | [] => if c = 0 then [] else [c]
    | d :: t => c :: d :: t
theorem ev_append (x : Int) (a b : List Int) : ev x (a ++ b) = ev x a + x ^ a.length * ev x b := by
  induction a with
  | nil => simp [ev]
  | cons c r ih =>
    simp only [List.cons_append, ev, List.length_cons, ih, Int.pow_succ]
    grind
theorem nrm_append (a b : List Int) : nrm (a ++ b) = nrm a + nrm b := by
  induction a with
  | nil => simp [nrm]
  | cons c r ih =>
    simp only [List.cons_append, nrm, ih]
    omega
theorem mem_nrm {l : List Int} {c : Int} (h : c ∈ l) : c.natAbs ≤ nrm l := by
  induction l with
  | nil => simp at h
  | cons d r ih =>
    rcases List.mem_cons.mp h with e | h
    · subst e
      simp only [nrm]
      omega
    · have := ih h
      simp only [nrm]
      omega
theorem ev_trimL (x : Int) (l : List Int) : ev x (trimL l) = ev x l := by
  induction l with
  | nil => rfl
  | cons c r ih =>
    simp only [trimL]
    cases h : trimL r with
    | nil =>
      rw [h] at ih
      simp only [ev] at ih ⊢
      by_cases e : c = 0
      · rw [if_pos e]
        simp [ev, ← ih, e]
      · rw [if_neg e]
        simp [ev, ← ih]
    | cons d t =>
      rw [h] at ih
      simp only [ev] at ih ⊢
      rw [ih]
theorem nrm_trimL (l : List Int) : nrm (trimL l) = nrm l := by
  induction l with
  | nil => rfl
  | cons c r ih =>
    simp only [trimL]
    cases h : trimL r with
    | nil =>
      rw [h] at ih
      simp only [nrm] at ih ⊢
      by_cases e : c = 0
      · rw [if_pos e]
        simp [nrm, ← ih, e]
      · rw [if_neg e]
        simp [nrm, ← ih]
    | cons d t =>
      rw [h] at ih
      simp only [nrm] at ih ⊢
      omega
theorem len_trimL (l : List Int) : (trimL l).length ≤ l.length := by
  induction l with
  | nil => exact Nat.le_refl _
  | cons c r ih =>
    simp only [trimL]
    cases h : trimL r with
    | nil =>
      by_cases e : c = 0
      · rw [if_pos e]
        simp
      · rw [if_neg e]
        simp
    | cons d t =>
      rw [h] at ih
      simp only [List.length_cons] at ih ⊢
      omega
theorem poly_trimL (l : List Int) : isPoly (trimL l) = true := by
  induction l with
  | nil => rfl
  | cons c r ih =>
    simp only [trimL]
    cases h : trimL r with
    | nil =>
      by_cases e : c = 0
      · rw [if_pos e]
        rfl
      · rw [if_neg e]
        simp [isPoly, e]
    | cons d t =>
      rw [h] at ih
      simp only [isPoly] at ih ⊢
      rw [List.getLast?_cons_cons]
      exact ih
theorem trimL_snoc (l : List Int) : trimL (l ++ [0]) = trimL l := by
  induction l with
  | nil => rfl
  | cons c r ih =>
    simp only [List.cons_append, trimL, ih]
theorem trimL_of_last {l : List Int} {c : Int} (h : c ≠ 0) : trimL (l ++ [c]) = l ++ [c] := by
  induction l with
  | nil => simp [trimL, h]
  | cons d r ih =>
    simp only [List.cons_append, trimL, ih]
    cases e : r ++ [c] with
    | nil => simp at e
    | cons a t => rfl
theorem poly_tail {c : Int} {r : List Int} (h : isPoly (c :: r) = true) : isPoly r = true := by
  cases r with
  | nil => rfl
  | cons d t =>
    simp only [isPoly, List.getLast?_cons_cons] at h ⊢
    exact h
def Small (B : Int) (l : List Int) : Prop := ∀ c ∈ l, 2 * (c.natAbs : Int) < B
theorem Small.tail {B c : Int} {r : List Int} (h : Small B (c :: r)) : Small B r := fun d hd => h d (List.mem_cons_of_mem _ hd)
theorem Small.of_nrm {B : Int} {l : List Int} (h : 2 * (nrm l : Int) < B) : Small B l := fun c hc => by
  have := mem_nrm hc
  omega
theorem dvd_small {B c d : Int} (h : c = B * d) (hs : 2 * (c.natAbs : Int) < B) : c = 0 := by
  by_cases e : d = 0
  · rw [h, e]
    simp
  · exfalso
    have h1 : c.natAbs = B.natAbs * d.natAbs := by rw [h, Int.natAbs_mul]
    have h2 : 1 ≤ d.natAbs := by omega
    have h3 : B.natAbs * 1 ≤ B.natAbs * d.natAbs := Nat.mul_le_mul_left _ h2
    omega
theorem ev_zero {B : Int} (hB : 0 < B) : ∀ {l : List Int}, isPoly l = true → Small B l → ev B l = 0 → l = []
  | [], _, _, _ => rfl
  | c :: r, hp, hs, h => by
    simp only [ev] at h
    have e0 : c = B * (-(ev B r)) := by
      rw [Int.mul_neg]
      omega
    have c0 := dvd_small e0 (hs c (List.mem_cons_self ..))
    rw [c0] at h
    have h' : ev B r = 0 := by
      have : B * ev B r = 0 := by omega
      rcases Int.mul_eq_zero.mp this with z | z
      · omega
      · exact z
    have := ev_zero hB (poly_tail hp) hs.tail h'
    subst this
    subst c0
    simp [isPoly] at hp
theorem ev_uniq {B : Int} (hB : 0 < B) : ∀ {a b : List Int}, isPoly a = true → isPoly b = true → Small B a → Small B b → ev B a = ev B b → a = b
  | [], b, _, hb, _, sb, h => (ev_zero hB hb sb h.symm).symm
  | a, [], ha, _, sa, _, h => ev_zero hB ha sa h
  | c :: r, d :: t, ha, hb, sa, sb, h => by
    simp only [ev] at h
    have h1 := sa c (List.mem_cons_self ..)
    have h2 := sb d (List.mem_cons_self ..)
    have e0 : c - d = B * (ev B t - ev B r) := by
      rw [Int.mul_sub]
      omega
    have h3 : c = d := by
      by_cases e : ev B t - ev B r = 0
      · rw [e] at e0
        simp at e0
        omega
      · exfalso
        have h1' : (c - d).natAbs = B.natAbs * (ev B t - ev B r).natAbs := by rw [e0, Int.natAbs_mul]
        have h2' : 1 ≤ (ev B t - ev B r).natAbs := by omega
        have h3' : B.natAbs * 1 ≤ B.natAbs * (ev B t - ev B r).natAbs := Nat.mul_le_mul_left _ h2'
        omega
    subst h3
    have h4 : ev B r = ev B t := by
      have : B * ev B r = B * ev B t := by omega
      exact Int.eq_of_mul_eq_mul_left (by omega) this
    rw [ev_uniq hB (poly_tail ha) (poly_tail hb) sa.tail sb.tail h4]
theorem digit {B c m : Int} (hB : 0 < B) (hs : 2 * (c.natAbs : Int) < B) (h : Int) (hh : h = B / 2) :
    (if (c + B * m) % B > h then (c + B * m) % B - B else (c + B * m) % B) = c := by
  have e1 : (c + B * m) % B = c % B := Int.add_mul_emod_self_left ..
  rw [e1]
  by_cases hc : 0 ≤ c
  · have e2 : c % B = c := Int.emod_eq_of_lt hc (by omega)
    rw [e2, if_neg (by omega)]
  · have e2 : c % B = c + B := by
      have : c % B = (c + B) % B := by simp
      rw [this]
      exact Int.emod_eq_of_lt (by omega) (by omega)
    rw [e2, if_pos (by omega)]
    omega
theorem next {B c m : Int} (hB : 0 < B) : (c + B * m - c) / B = m := by
  have : c + B * m - c = B * m := by omega
  rw [this, Int.mul_ediv_cancel_left _ (by omega)]
theorem ev_le {x : Int} {X : Nat} (hx : x.natAbs ≤ X) (h1 : 1 ≤ X) : ∀ l : List Int, (ev x l).natAbs ≤ nrm l * X ^ (l.length - 1)
  | [] => by simp [ev, nrm]
  | [c] => by simp [ev, nrm]
  | c :: d :: t => by
    have ih := ev_le hx h1 (d :: t)
    simp only [ev, nrm, List.length_cons, Nat.add_sub_cancel] at ih ⊢
    have e1 : (c + x * (d + x * ev x t)).natAbs ≤ c.natAbs + x.natAbs * (d + x * ev x t).natAbs := by
      have := Int.natAbs_add_le c (x * (d + x * ev x t))
      rw [Int.natAbs_mul] at this
      exact this
    have e2 : x.natAbs * (d + x * ev x t).natAbs ≤ X * ((d.natAbs + nrm t) * X ^ t.length) := Nat.mul_le_mul hx ih
    have e3 : X * ((d.natAbs + nrm t) * X ^ t.length) = (d.natAbs + nrm t) * X ^ (t.length + 1) := by
      rw [Nat.pow_succ]
      grind
    have e4 : 1 ≤ X ^ (t.length + 1) := Nat.one_le_pow _ _ h1
    have e5 : c.natAbs * 1 ≤ c.natAbs * X ^ (t.length + 1) := Nat.mul_le_mul_left _ e4
    have e6 : (c.natAbs + (d.natAbs + nrm t)) * X ^ (t.length + 1) = c.natAbs * X ^ (t.length + 1) + (d.natAbs + nrm t) * X ^ (t.length + 1) := Nat.add_mul ..
    omega
end PM
namespace PM
structure Res (l : List Int) (f : Int → Int) (N L : Nat) : Prop where
  p : isPoly l = true
  e : ∀ x, ev x l = f x
  n : nrm l ≤ N
  z : l.length ≤ L
theorem ev_zeros (x : Int) (k : Nat) : ev x (List.replicate k 0) = 0 := by
  induction k with
  | zero => rfl
  | succ k ih => simp [List.replicate_succ, ev, ih]
theorem nrm_zeros (k : Nat) : nrm (List.replicate k 0) = 0 := by
  induction k with
  | zero => rfl
  | succ k ih => simp [List.replicate_succ, nrm, ih]
theorem ev_zip (x : Int) : ∀ (a b : List Int), a.length = b.length → ev x (List.zipWith (· + ·) a b) = ev x a + ev x b
  | [], [], _ => by simp [ev]
  | c :: r, d :: t, h => by
    simp only [List.length_cons, Nat.add_right_cancel_iff] at h
    simp only [List.zipWith_cons_cons, ev, ev_zip x r t h]
    grind
  | [], _ :: _, h => by simp at h
  | _ :: _, [], h => by simp at h
theorem nrm_zip : ∀ (a b : List Int), nrm (List.zipWith (· + ·) a b) ≤ nrm a + nrm b
  | [], b => by simp [nrm]
  | c :: r, [] => by simp [nrm]
  | c :: r, d :: t => by
    have := nrm_zip r t
    simp only [List.zipWith_cons_cons, nrm]
    omega
theorem ev_scale (x k : Int) (l : List Int) : ev x (l.map (k * ·)) = k * ev x l := by
  induction l with
  | nil => simp [ev]
  | cons c r ih =>
    simp only [List.map_cons, ev, ih]
    grind
theorem nrm_scale (k : Int) (l : List Int) : nrm (l.map (k * ·)) = k.natAbs * nrm l := by
  induction l with
  | nil => simp [nrm]
  | cons c r ih =>
    simp only [List.map_cons, nrm, ih, Int.natAbs_mul]
    grind
theorem ev_set (x d : Int) : ∀ (l : List Int) (i : Nat) (c : Int), l[i]? = some c → ev x (l.set i (c + d)) = ev x l + x ^ i * d
  | [], i, c, h => by simp at h
  | a :: r, 0, c, h => by
    have e : a = c := by simpa using h
    subst e
    simp only [List.set_cons_zero, ev]
    grind
  | a :: r, i + 1, c, h => by
    have h' : r[i]? = some c := by simpa using h
    simp only [List.set_cons_succ, ev, ev_set x d r i c h', Int.pow_succ]
    grind
theorem nrm_set (d : Int) : ∀ (l : List Int) (i : Nat) (c : Int), l[i]? = some c → nrm (l.set i (c + d)) ≤ nrm l + d.natAbs
  | [], i, c, h => by simp at h
  | a :: r, 0, c, h => by
    have e : a = c := by simpa using h
    subst e
    simp only [List.set_cons_zero, nrm]
    omega
  | a :: r, i + 1, c, h => by
    have h' : r[i]? = some c := by simpa using h
    have := nrm_set d r i c h'
    simp only [List.set_cons_succ, nrm]
    omega
theorem ev_take (x : Int) {l : List Int} {i : Nat} {c : Int} (h : l[i]? = some c) : ev x (l.take (i + 1)) = ev x (l.take i) + x ^ i * c := by
  have hi : i < l.length := (List.getElem?_eq_some_iff.mp h).1
  rw [List.take_add_one, h, ev_append]
  simp [ev, Nat.min_eq_left (Nat.le_of_lt hi)]
theorem nrm_take {l : List Int} {i : Nat} {c : Int} (h : l[i]? = some c) : nrm (l.take (i + 1)) = nrm (l.take i) + c.natAbs := by
  rw [List.take_add_one, h, nrm_append]
  simp [nrm]
theorem ev_drop (x : Int) {l : List Int} {i : Nat} {c : Int} (h : l[i]? = some c) : ev x (l.drop i) = c + x * ev x (l.drop (i + 1)) := by
  obtain ⟨hi, e⟩ := List.getElem?_eq_some_iff.mp h
  rw [List.drop_eq_getElem_cons hi, e]
  rfl
theorem nrm_drop (l : List Int) (i : Nat) : nrm (l.drop i) ≤ nrm l := by
  have := nrm_append (l.take i) (l.drop i)
  rw [List.take_append_drop] at this
  omega
def hv (t b : Int) : List Int → Int
  | [] => 0
  | c :: r => hv t b r * t + c * b ^ r.length
theorem hv_drop (t b : Int) {l : List Int} {i : Nat} {c : Int} (h : l[i]? = some c) : hv t b (l.drop i) = hv t b (l.drop (i + 1)) * t + c * b ^ (l.length - (i + 1)) := by
  obtain ⟨hi, e⟩ := List.getElem?_eq_some_iff.mp h
  rw [List.drop_eq_getElem_cons hi, e]
  simp [hv]
theorem hv_one (t : Int) (l : List Int) : hv t 1 l = ev t l := by
  induction l with
  | nil => rfl
  | cons c r ih =>
    simp only [hv, ev, ih, Int.one_pow]
    grind
theorem hv_le {t b : Int} {X : Nat} (ht : t.natAbs ≤ X) (hb : b.natAbs ≤ X) (h1 : 1 ≤ X) : ∀ l : List Int, (hv t b l).natAbs ≤ nrm l * X ^ (l.length - 1)
  | [] => by simp [hv, nrm]
  | [c] => by simp [hv, nrm]
  | c :: d :: r => by
    have ih := hv_le ht hb h1 (d :: r)
    have e0 : hv t b (c :: d :: r) = hv t b (d :: r) * t + c * b ^ (d :: r).length := rfl
    rw [e0]
    simp only [nrm, List.length_cons, Nat.add_sub_cancel] at ih ⊢
    have e1 := Int.natAbs_add_le (hv t b (d :: r) * t) (c * b ^ (r.length + 1))
    rw [Int.natAbs_mul, Int.natAbs_mul, Int.natAbs_pow] at e1
    have e2 : (hv t b (d :: r)).natAbs * t.natAbs ≤ ((d.natAbs + nrm r) * X ^ r.length) * X := Nat.mul_le_mul ih ht
    have e3 : c.natAbs * b.natAbs ^ (r.length + 1) ≤ c.natAbs * X ^ (r.length + 1) := Nat.mul_le_mul_left _ (Nat.pow_le_pow_left hb _)
    have e4 : ((d.natAbs + nrm r) * X ^ r.length) * X = (d.natAbs + nrm r) * X ^ (r.length + 1) := by rw [Nat.pow_succ, Nat.mul_assoc]
    have e5 : (c.natAbs + (d.natAbs + nrm r)) * X ^ (r.length + 1) = c.natAbs * X ^ (r.length + 1) + (d.natAbs + nrm r) * X ^ (r.length + 1) := Nat.add_mul ..
    omega
theorem ev_big {x : Int} {l : List Int} {i : Nat} (hx : x.natAbs < 2 ^ 64) (hn : nrm l < 2 ^ 2000) (hl : l.length ≤ 1000) : (ev x (l.drop i)).natAbs < 2 ^ 66001 := by
  have h := ev_le (x := x) (X := 2 ^ 64) (by omega) (Nat.one_le_two_pow) (l.drop i)
  have h1 := nrm_drop l i
  have h2 : (2 ^ 64 : Nat) ^ ((l.drop i).length - 1) ≤ (2 ^ 64) ^ 1000 := Nat.pow_le_pow_right (by decide) (by rw [List.length_drop]; omega)
  have h3 : nrm (l.drop i) * (2 ^ 64) ^ ((l.drop i).length - 1) ≤ 2 ^ 2000 * (2 ^ 64) ^ 1000 := Nat.mul_le_mul (by omega) h2
  have h4 : (2 : Nat) ^ 2000 * (2 ^ 64) ^ 1000 = 2 ^ 66000 := by rw [← Nat.pow_mul, ← Nat.pow_add]
  have h5 : (2 : Nat) ^ 66000 < 2 ^ 66001 := Nat.pow_lt_pow_right (by decide) (by decide)
  omega
theorem hv_big {t b : Int} {l : List Int} {i : Nat} (ht : t.natAbs < 2 ^ 64) (hb : b.natAbs < 2 ^ 64) (hn : nrm l < 2 ^ 2000) (hl : l.length ≤ 1000) : (hv t b (l.drop i)).natAbs < 2 ^ 66001 := by
  have h := hv_le (t := t) (b := b) (X := 2 ^ 64) (by omega) (by omega) (Nat.one_le_two_pow) (l.drop i)
  have h1 := nrm_drop l i
  have h2 : (2 ^ 64 : Nat) ^ ((l.drop i).length - 1) ≤ (2 ^ 64) ^ 1000 := Nat.pow_le_pow_right (by decide) (by rw [List.length_drop]; omega)
  have h3 : nrm (l.drop i) * (2 ^ 64) ^ ((l.drop i).length - 1) ≤ 2 ^ 2000 * (2 ^ 64) ^ 1000 := Nat.mul_le_mul (by omega) h2
  have h4 : (2 : Nat) ^ 2000 * (2 ^ 64) ^ 1000 = 2 ^ 66000 := by rw [← Nat.pow_mul, ← Nat.pow_add]
  have h5 : (2 : Nat) ^ 66000 < 2 ^ 66001 := Nat.pow_lt_pow_right (by decide) (by decide)
  omega
end PM
namespace PM
def low (t b : Int) : Int × Int := (t / ((Nat.gcd t.natAbs b.natAbs : Nat) : Int), b / ((Nat.gcd t.natAbs b.natAbs : Nat) : Int))
theorem low_mul {t b c : Int} (hc : 0 < c) : low (t * c) (b * c) = low t b := by
  unfold low
  have e : Nat.gcd (t * c).natAbs (b * c).natAbs = Nat.gcd t.natAbs b.natAbs * c.natAbs := by
    rw [Int.natAbs_mul, Int.natAbs_mul, Nat.gcd_mul_right]
  have ec : ((c.natAbs : Nat) : Int) = c := by omega
  rw [e, Int.natCast_mul, ec, Int.mul_ediv_mul_of_pos_left _ _ hc, Int.mul_ediv_mul_of_pos_left _ _ hc]
theorem pow_bits {b : Int} {i n : Nat} (hb : b.natAbs < 2 ^ 64) (hi : i ≤ n) : (b ^ i).natAbs < 2 ^ (64 * n + 1) := by
  rw [Int.natAbs_pow]
  have h1 : b.natAbs ^ i ≤ (2 ^ 64) ^ i := Nat.pow_le_pow_left (Nat.le_of_lt hb) _
  have h2 : ((2 : Nat) ^ 64) ^ i ≤ (2 ^ 64) ^ n := Nat.pow_le_pow_right (by decide) hi
  have h3 : ((2 : Nat) ^ 64) ^ n = 2 ^ (64 * n) := by rw [← Nat.pow_mul]
  have h4 : (2 : Nat) ^ (64 * n) < 2 ^ (64 * n + 1) := Nat.pow_lt_pow_right (by decide) (by omega)
  omega
theorem pow_pos' {b : Int} (h : 0 < b) (n : Nat) : 0 < b ^ n := Int.pow_pos h
end PM
namespace PM
theorem ev_bits {b : Nat} {x : Int} {l : List Int} {i : Nat} (hx : x.natAbs < 2 ^ b) (hn : nrm l < 2 ^ 2000) (hl : l.length ≤ 1000) : (ev x (l.drop i)).natAbs < 2 ^ (2000 + b * 1000 + 1) := by
  have h := ev_le (x := x) (X := 2 ^ b) (by omega) (Nat.one_le_two_pow) (l.drop i)
  have h1 := nrm_drop l i
  have h2 : (2 ^ b : Nat) ^ ((l.drop i).length - 1) ≤ (2 ^ b) ^ 1000 := Nat.pow_le_pow_right (Nat.one_le_two_pow) (by rw [List.length_drop]; omega)
  have h3 : nrm (l.drop i) * (2 ^ b) ^ ((l.drop i).length - 1) ≤ 2 ^ 2000 * (2 ^ b) ^ 1000 := Nat.mul_le_mul (by omega) h2
  have h4 : (2 : Nat) ^ 2000 * (2 ^ b) ^ 1000 = 2 ^ (2000 + b * 1000) := by rw [← Nat.pow_mul, ← Nat.pow_add]
  have h5 : (2 : Nat) ^ (2000 + b * 1000) < 2 ^ (2000 + b * 1000 + 1) := Nat.pow_lt_pow_right (by decide) (Nat.lt_succ_self _)
  omega
theorem nrm_len {l : List Int} {k : Nat} (h : ∀ c ∈ l, c.natAbs ≤ k) : nrm l ≤ l.length * k := by
  induction l with
  | nil => simp [nrm]
  | cons c r ih =>
    have h1 := h c (List.mem_cons_self ..)
    have h2 := ih fun d hd => h d (List.mem_cons_of_mem _ hd)
    simp only [nrm, List.length_cons, Nat.add_mul, Nat.one_mul]
    omega
end PM
end
section
set_option maxRecDepth 100000
set_option maxHeartbeats 4000000
namespace K24
open PySem PySem.Spec PyProof.Rows L2 MB PM
open LamX hiding takes0
def top (i : Nat) : Stmt := PySem.Challenge.pw_mirrorbook_k24_refusals_of_polynomials.main.body.getD i (.Pass ⟨0, 0, 0, 0⟩)
abbrev P : Program := PySem.Challenge.pw_mirrorbook_k24_refusals_of_polynomials
abbrev s_is_integer : Stmt := top 11
abbrev N_is_integer : List Str := ["thing"]
abbrev P_is_integer : List Str := ["thing"]
theorem sc_is_integer : FnScope N_is_integer P_is_integer (defScope s_is_integer) := ⟨rfl, rfl, rfl, by decide +kernel, rfl, by decide +kernel, by decide +kernel⟩
abbrev s_is_integer_from : Stmt := top 12
abbrev N_is_integer_from : List Str := ["thing", "low", "high"]
abbrev P_is_integer_from : List Str := ["thing", "low", "high"]
theorem sc_is_integer_from : FnScope N_is_integer_from P_is_integer_from (defScope s_is_integer_from) := ⟨rfl, rfl, rfl, by decide +kernel, rfl, by decide +kernel, by decide +kernel⟩
abbrev s_are_integers : Stmt := top 13
abbrev N_are_integers : List Str := ["thing", "item"]
abbrev P_are_integers : List Str := ["thing"]
theorem sc_are_integers : FnScope N_are_integers P_are_integers (defScope s_are_integers) := ⟨rfl, rfl, rfl, by decide +kernel, rfl, by decide +kernel, by decide +kernel⟩
abbrev s_are_integers_from : Stmt := top 14
abbrev N_are_integers_from : List Str := ["thing", "low", "high", "item"]
abbrev P_are_integers_from : List Str := ["thing", "low", "high"]
theorem sc_are_integers_from : FnScope N_are_integers_from P_are_integers_from (defScope s_are_integers_from) := ⟨rfl, rfl, rfl, by decide +kernel, rfl, by decide +kernel, by decide +kernel⟩
abbrev s_are_letters : Stmt := top 15
abbrev N_are_letters : List Str := ["q", "thing"]
abbrev P_are_letters : List Str := ["q", "thing"]
theorem sc_are_letters : FnScope N_are_letters P_are_letters (defScope s_are_letters) := ⟨rfl, rfl, rfl, by decide +kernel, rfl, by decide +kernel, by decide +kernel⟩
abbrev s_is_row : Stmt := top 16
abbrev N_is_row : List Str := ["q", "n", "thing"]
abbrev P_is_row : List Str := ["q", "n", "thing"]
theorem sc_is_row : FnScope N_is_row P_is_row (defScope s_is_row) := ⟨rfl, rfl, rfl, by decide +kernel, rfl, by decide +kernel, by decide +kernel⟩
abbrev s_lowest_terms : Stmt := top 18
abbrev N_lowest_terms : List Str := ["top", "bottom", "shared"]
abbrev P_lowest_terms : List Str := ["top", "bottom"]
theorem sc_lowest_terms : FnScope N_lowest_terms P_lowest_terms (defScope s_lowest_terms) := ⟨rfl, rfl, rfl, by decide +kernel, rfl, by decide +kernel, by decide +kernel⟩
abbrev s_is_polynomial : Stmt := top 20
abbrev N_is_polynomial : List Str := ["thing"]
abbrev P_is_polynomial : List Str := ["thing"]
theorem sc_is_polynomial : FnScope N_is_polynomial P_is_polynomial (defScope s_is_polynomial) := ⟨rfl, rfl, rfl, by decide +kernel, rfl, by decide +kernel, by decide +kernel⟩
abbrev s_check_polynomial : Stmt := top 21
abbrev N_check_polynomial : List Str := ["thing"]
abbrev P_check_polynomial : List Str := ["thing"]
theorem sc_check_polynomial : FnScope N_check_polynomial P_check_polynomial (defScope s_check_polynomial) := ⟨rfl, rfl, rfl, by decide +kernel, rfl, by decide +kernel, by decide +kernel⟩
abbrev s_check_two_polynomials : Stmt := top 22
abbrev N_check_two_polynomials : List Str := ["one", "other"]
abbrev P_check_two_polynomials : List Str := ["one", "other"]
theorem sc_check_two_polynomials : FnScope N_check_two_polynomials P_check_two_polynomials (defScope s_check_two_polynomials) := ⟨rfl, rfl, rfl, by decide +kernel, rfl, by decide +kernel, by decide +kernel⟩
abbrev s_trimmed : Stmt := top 23
abbrev N_trimmed : List Str := ["coefficients", "many"]
abbrev P_trimmed : List Str := ["coefficients"]
theorem sc_trimmed : FnScope N_trimmed P_trimmed (defScope s_trimmed) := ⟨rfl, rfl, rfl, by decide +kernel, rfl, by decide +kernel, by decide +kernel⟩
abbrev s_plus : Stmt := top 24
abbrev N_plus : List Str := ["one", "other", "many", "left", "right", "first", "second"]
abbrev P_plus : List Str := ["one", "other"]
theorem sc_plus : FnScope N_plus P_plus (defScope s_plus) := ⟨rfl, rfl, rfl, by decide +kernel, rfl, by decide +kernel, by decide +kernel⟩
abbrev s_minus : Stmt := top 25
abbrev N_minus : List Str := ["one", "other"]
abbrev P_minus : List Str := ["one", "other"]
theorem sc_minus : FnScope N_minus P_minus (defScope s_minus) := ⟨rfl, rfl, rfl, by decide +kernel, rfl, by decide +kernel, by decide +kernel⟩
abbrev s_times : Stmt := top 26
abbrev N_times : List Str := ["one", "other", "total", "low", "first", "high", "second"]
abbrev P_times : List Str := ["one", "other"]
theorem sc_times : FnScope N_times P_times (defScope s_times) := ⟨rfl, rfl, rfl, by decide +kernel, rfl, by decide +kernel, by decide +kernel⟩
abbrev s_scaled : Stmt := top 27
abbrev N_scaled : List Str := ["integer", "one", "coefficient"]
abbrev P_scaled : List Str := ["integer", "one"]
theorem sc_scaled : FnScope N_scaled P_scaled (defScope s_scaled) := ⟨rfl, rfl, rfl, by decide +kernel, rfl, by decide +kernel, by decide +kernel⟩
abbrev s_power : Stmt := top 28
abbrev N_power : List Str := ["one", "many", "total", "_"]
abbrev P_power : List Str := ["one", "many"]
theorem sc_power : FnScope N_power P_power (defScope s_power) := ⟨rfl, rfl, rfl, by decide +kernel, rfl, by decide +kernel, by decide +kernel⟩
abbrev s_value : Stmt := top 29
abbrev N_value : List Str := ["one", "integer", "total", "coefficient"]
abbrev P_value : List Str := ["one", "integer"]
theorem sc_value : FnScope N_value P_value (defScope s_value) := ⟨rfl, rfl, rfl, by decide +kernel, rfl, by decide +kernel, by decide +kernel⟩
abbrev s_value_at : Stmt := top 30
abbrev N_value_at : List Str := ["one", "number", "top", "bottom", "total", "scale", "coefficient"]
abbrev P_value_at : List Str := ["one", "number"]
theorem sc_value_at : FnScope N_value_at P_value_at (defScope s_value_at) := ⟨rfl, rfl, rfl, by decide +kernel, rfl, by decide +kernel, by decide +kernel⟩
abbrev s_letter_sum : Stmt := top 33
abbrev N_letter_sum : List Str := ["q", "one", "other"]
abbrev P_letter_sum : List Str := ["q", "one", "other"]
theorem sc_letter_sum : FnScope N_letter_sum P_letter_sum (defScope s_letter_sum) := ⟨rfl, rfl, rfl, by decide +kernel, rfl, by decide +kernel, by decide +kernel⟩
abbrev s_letter_negative : Stmt := top 34
abbrev N_letter_negative : List Str := ["q", "letter"]
abbrev P_letter_negative : List Str := ["q", "letter"]
theorem sc_letter_negative : FnScope N_letter_negative P_letter_negative (defScope s_letter_negative) := ⟨rfl, rfl, rfl, by decide +kernel, rfl, by decide +kernel, by decide +kernel⟩
abbrev s_letter_times : Stmt := top 35
abbrev N_letter_times : List Str := ["q", "one", "other"]
abbrev P_letter_times : List Str := ["q", "one", "other"]
theorem sc_letter_times : FnScope N_letter_times P_letter_times (defScope s_letter_times) := ⟨rfl, rfl, rfl, by decide +kernel, rfl, by decide +kernel, by decide +kernel⟩
abbrev s_letter_inverse : Stmt := top 36
abbrev N_letter_inverse : List Str := ["q", "letter", "other"]
abbrev P_letter_inverse : List Str := ["q", "letter"]
theorem sc_letter_inverse : FnScope N_letter_inverse P_letter_inverse (defScope s_letter_inverse) := ⟨rfl, rfl, rfl, by decide +kernel, rfl, by decide +kernel, by decide +kernel⟩
abbrev s_row_sum : Stmt := top 37
abbrev N_row_sum : List Str := ["q", "one", "other", "left", "right"]
abbrev P_row_sum : List Str := ["q", "one", "other"]
theorem sc_row_sum : FnScope N_row_sum P_row_sum (defScope s_row_sum) := ⟨rfl, rfl, rfl, by decide +kernel, rfl, by decide +kernel, by decide +kernel⟩
abbrev s_row_times : Stmt := top 38
abbrev N_row_times : List Str := ["q", "letter", "row", "item"]
abbrev P_row_times : List Str := ["q", "letter", "row"]
theorem sc_row_times : FnScope N_row_times P_row_times (defScope s_row_times) := ⟨rfl, rfl, rfl, by decide +kernel, rfl, by decide +kernel, by decide +kernel⟩
abbrev s_row_support : Stmt := top 39
abbrev N_row_support : List Str := ["row", "place"]
abbrev P_row_support : List Str := ["row"]
theorem sc_row_support : FnScope N_row_support P_row_support (defScope s_row_support) := ⟨rfl, rfl, rfl, by decide +kernel, rfl, by decide +kernel, by decide +kernel⟩
abbrev s_check_field : Stmt := top 41
abbrev N_check_field : List Str := ["q"]
abbrev P_check_field : List Str := ["q"]
theorem sc_check_field : FnScope N_check_field P_check_field (defScope s_check_field) := ⟨rfl, rfl, rfl, by decide +kernel, rfl, by decide +kernel, by decide +kernel⟩
abbrev s_lead_of : Stmt := top 44
abbrev N_lead_of : List Str := ["row"]
abbrev P_lead_of : List Str := ["row"]
theorem sc_lead_of : FnScope N_lead_of P_lead_of (defScope s_lead_of) := ⟨rfl, rfl, rfl, by decide +kernel, rfl, by decide +kernel, by decide +kernel⟩
abbrev s_with_zero_at : Stmt := top 45
abbrev N_with_zero_at : List Str := ["q", "place", "row", "head"]
abbrev P_with_zero_at : List Str := ["q", "place", "row", "head"]
theorem sc_with_zero_at : FnScope N_with_zero_at P_with_zero_at (defScope s_with_zero_at) := ⟨rfl, rfl, rfl, by decide +kernel, rfl, by decide +kernel, by decide +kernel⟩
abbrev s_reduced_rows : Stmt := top 46
abbrev N_reduced_rows : List Str := ["q", "n", "rows", "left", "done", "place", "heads", "head", "row"]
abbrev P_reduced_rows : List Str := ["q", "n", "rows"]
theorem sc_reduced_rows : FnScope N_reduced_rows P_reduced_rows (defScope s_reduced_rows) := ⟨rfl, rfl, rfl, by decide +kernel, rfl, by decide +kernel, by decide +kernel⟩
abbrev s_Book___init__ : Stmt := inClass (top 49) 0
abbrev N_Book___init__ : List Str := ["self", "q", "n", "rows", "number", "row"]
abbrev P_Book___init__ : List Str := ["self", "q", "n", "rows"]
theorem sc_Book___init__ : FnScope N_Book___init__ P_Book___init__ (defScope s_Book___init__) := ⟨rfl, rfl, rfl, by decide +kernel, rfl, by decide +kernel, by decide +kernel⟩
abbrev s_Book___eq__ : Stmt := inClass (top 49) 1
abbrev N_Book___eq__ : List Str := ["self", "other"]
abbrev P_Book___eq__ : List Str := ["self", "other"]
theorem sc_Book___eq__ : FnScope N_Book___eq__ P_Book___eq__ (defScope s_Book___eq__) := ⟨rfl, rfl, rfl, by decide +kernel, rfl, by decide +kernel, by decide +kernel⟩
abbrev s_divided : Stmt := top 55
abbrev N_divided : List Str := ["polynomial", "root", "sums", "carried", "coefficient"]
abbrev P_divided : List Str := ["polynomial", "root"]
theorem sc_divided : FnScope N_divided P_divided (defScope s_divided) := ⟨rfl, rfl, rfl, by decide +kernel, rfl, by decide +kernel, by decide +kernel⟩
abbrev s_subcounts : Stmt := top 56
abbrev N_subcounts : List Str := ["q", "polynomial", "found", "left", "root", "remainder"]
abbrev P_subcounts : List Str := ["q", "polynomial"]
theorem sc_subcounts : FnScope N_subcounts P_subcounts (defScope s_subcounts) := ⟨rfl, rfl, rfl, by decide +kernel, rfl, by decide +kernel, by decide +kernel⟩
abbrev s__law_deck : Stmt := top 58
abbrev N__law_deck : List Str := ["_law_script", "_law_mixed", "_law_cell"]
abbrev P__law_deck : List Str := ["_law_script"]
theorem sc__law_deck : FnScope N__law_deck P__law_deck (defScope s__law_deck) := ⟨rfl, rfl, rfl, by decide +kernel, rfl, by decide +kernel, by decide +kernel⟩
abbrev s__law_draw : Stmt := top 59
abbrev N__law_draw : List Str := ["_law_deck_here", "_law_many", "_law_figure", "_law_cell"]
abbrev P__law_draw : List Str := ["_law_deck_here", "_law_many"]
theorem sc__law_draw : FnScope N__law_draw P__law_draw (defScope s__law_draw) := ⟨rfl, rfl, rfl, by decide +kernel, rfl, by decide +kernel, by decide +kernel⟩
abbrev s__law_pick : Stmt := top 60
abbrev N__law_pick : List Str := ["_law_deck_here", "_law_some"]
abbrev P__law_pick : List Str := ["_law_deck_here", "_law_some"]
theorem sc__law_pick : FnScope N__law_pick P__law_pick (defScope s__law_pick) := ⟨rfl, rfl, rfl, by decide +kernel, rfl, by decide +kernel, by decide +kernel⟩
abbrev s__law_figures : Stmt := top 61
abbrev N__law_figures : List Str := ["_law_deck_here", "_law_way", "_law_sign", "_law_found", "_law_piece"]
abbrev P__law_figures : List Str := ["_law_deck_here"]
theorem sc__law_figures : FnScope N__law_figures P__law_figures (defScope s__law_figures) := ⟨rfl, rfl, rfl, by decide +kernel, rfl, by decide +kernel, by decide +kernel⟩
abbrev s__law_polynomial : Stmt := top 62
abbrev N__law_polynomial : List Str := ["_law_deck_here", "_law_most", "_law_found", "_law_turn"]
abbrev P__law_polynomial : List Str := ["_law_deck_here", "_law_most"]
theorem sc__law_polynomial : FnScope N__law_polynomial P__law_polynomial (defScope s__law_polynomial) := ⟨rfl, rfl, rfl, by decide +kernel, rfl, by decide +kernel, by decide +kernel⟩
abbrev s__law_is_polynomial : Stmt := top 63
abbrev N__law_is_polynomial : List Str := ["_law_thing", "_law_it"]
abbrev P__law_is_polynomial : List Str := ["_law_thing"]
theorem sc__law_is_polynomial : FnScope N__law_is_polynomial P__law_is_polynomial (defScope s__law_is_polynomial) := ⟨rfl, rfl, rfl, by decide +kernel, rfl, by decide +kernel, by decide +kernel⟩
abbrev s__law_odd : Stmt := top 64
abbrev N__law_odd : List Str := ["_law_deck_here", "_law_it", "_law_some"]
abbrev P__law_odd : List Str := ["_law_deck_here", "_law_it"]
theorem sc__law_odd : FnScope N__law_odd P__law_odd (defScope s__law_odd) := ⟨rfl, rfl, rfl, by decide +kernel, rfl, by decide +kernel, by decide +kernel⟩
abbrev s__law_bent : Stmt := top 65
abbrev N__law_bent : List Str := ["_law_deck_here", "_law_it", "_law_at"]
abbrev P__law_bent : List Str := ["_law_deck_here", "_law_it"]
theorem sc__law_bent : FnScope N__law_bent P__law_bent (defScope s__law_bent) := ⟨rfl, rfl, rfl, by decide +kernel, rfl, by decide +kernel, by decide +kernel⟩
abbrev s__law_same : Stmt := top 66
abbrev N__law_same : List Str := ["_law_told", "_law_due"]
abbrev P__law_same : List Str := ["_law_told", "_law_due"]
theorem sc__law_same : FnScope N__law_same P__law_same (defScope s__law_same) := ⟨rfl, rfl, rfl, by decide +kernel, rfl, by decide +kernel, by decide +kernel⟩
abbrev s__law_is_refused : Stmt := top 67
abbrev N__law_is_refused : List Str := ["_law_word", "_law_book", "_law_call", "_law_told"]
abbrev P__law_is_refused : List Str := ["_law_word", "_law_book", "_law_call"]
theorem sc__law_is_refused : FnScope N__law_is_refused P__law_is_refused (defScope s__law_is_refused) := ⟨rfl, rfl, rfl, by decide +kernel, rfl, by decide +kernel, by decide +kernel⟩
abbrev s__law_value : Stmt := top 68
abbrev N__law_value : List Str := ["_law_deck_here", "_law_way", "_law_found"]
abbrev P__law_value : List Str := ["_law_deck_here"]
theorem sc__law_value : FnScope N__law_value P__law_value (defScope s__law_value) := ⟨rfl, rfl, rfl, by decide +kernel, rfl, by decide +kernel, by decide +kernel⟩
abbrev s__law_refused : Stmt := top 69
abbrev N__law_refused : List Str := ["_law_call", "e", "_law_is_other"]
abbrev P__law_refused : List Str := ["_law_call"]
theorem sc__law_refused : FnScope N__law_refused P__law_refused (defScope s__law_refused) := ⟨rfl, rfl, rfl, by decide +kernel, rfl, by decide +kernel, by decide +kernel⟩
abbrev s__law_two_right : Stmt := top 70
abbrev N__law_two_right : List Str := ["_law_deck_here", "_law_one", "_law_other", "_law_due", "_law_told"]
abbrev P__law_two_right : List Str := ["_law_deck_here", "_law_one", "_law_other"]
theorem sc__law_two_right : FnScope N__law_two_right P__law_two_right (defScope s__law_two_right) := ⟨rfl, rfl, rfl, by decide +kernel, rfl, by decide +kernel, by decide +kernel⟩
abbrev s__law_one_right : Stmt := top 71
abbrev N__law_one_right : List Str := ["_law_deck_here", "_law_one", "_law_due", "_law_bottom", "_law_told", "_law_integer", "_law_many", "_law_number", "_law_q"]
abbrev P__law_one_right : List Str := ["_law_deck_here", "_law_one"]
theorem sc__law_one_right : FnScope N__law_one_right P__law_one_right (defScope s__law_one_right) := ⟨rfl, rfl, rfl, by decide +kernel, rfl, by decide +kernel, by decide +kernel⟩
abbrev s__law_are_books_refused : Stmt := top 72
abbrev N__law_are_books_refused : List Str := ["_law_book"]
abbrev P__law_are_books_refused : List Str := ["_law_book"]
theorem sc__law_are_books_refused : FnScope N__law_are_books_refused P__law_are_books_refused (defScope s__law_are_books_refused) := ⟨rfl, rfl, rfl, by decide +kernel, rfl, by decide +kernel, by decide +kernel⟩
abbrev s__law_is_great_refused : Stmt := top 73
abbrev N__law_is_great_refused : List Str := ["_law_great", "_law_near", "_law_far", "_law_bad"]
abbrev P__law_is_great_refused : List Str := []
theorem sc__law_is_great_refused : FnScope N__law_is_great_refused P__law_is_great_refused (defScope s__law_is_great_refused) := ⟨rfl, rfl, rfl, by decide +kernel, rfl, by decide +kernel, by decide +kernel⟩
abbrev s_law : Stmt := top 74
abbrev N_law : List Str := ["_law_script", "_law_deck_here", "_law_turn", "_law_one", "_law_other", "_law_text"]
abbrev P_law : List Str := ["_law_script"]
theorem sc_law : FnScope N_law P_law (defScope s_law) := ⟨rfl, rfl, rfl, by decide +kernel, rfl, by decide +kernel, by decide +kernel⟩
def four : List (List Int) := [[0, 0, 0, 0], [0, 1, 2, 3], [0, 2, 3, 1], [0, 3, 1, 2]]
def FourTab (K : PySem.W.Frag) (t : Addr) : Prop := ∃ rs : List Addr, rs.length = 4 ∧ (∀ H : Hp, SqT K H t (rs.map V.ref)) ∧ ∀ (i : Nat) (r : Addr) (H : Hp), rs[i]? = some r → SqT K H r ((four.getD i []).map V.int)
structure ClsIs (K : PySem.W.Frag) (C : Addr) : Prop where
  ha : PySem.W.findIn K (.ref C) "__class__" = some (some (.builtin "object.__class__"))
  hn : PySem.W.specialIn K (.builtin "object.__class__") "__get__" = some (some (.builtin "getset_descriptor.__get__"))
  ht : PySem.W.takesIn K (.builtin "object.__class__") = some true
  hm : PySem.W.mroIn K C (.type "object") = some true
  nt : PySem.W.kitOne K (.ref C) (.type "tuple") = some false
  ni : PySem.W.kitOne K (.ref C) (.type "int") = some false
structure Txt (K : PySem.W.Frag) (mg : Str → Option Value) where
  a_is_integer : Addr
  d_is_integer : FuncData
  F_is_integer : Fun K "is_integer" "is_integer" s_is_integer a_is_integer d_is_integer
  m_is_integer : mg "is_integer" = some (.ref a_is_integer)
  b_is_integer : Binds K d_is_integer P_is_integer []
  a_is_integer_from : Addr
  d_is_integer_from : FuncData
  F_is_integer_from : Fun K "is_integer_from" "is_integer_from" s_is_integer_from a_is_integer_from d_is_integer_from
  m_is_integer_from : mg "is_integer_from" = some (.ref a_is_integer_from)
  b_is_integer_from : Binds K d_is_integer_from P_is_integer_from []
  a_are_integers : Addr
  d_are_integers : FuncData
  F_are_integers : Fun K "are_integers" "are_integers" s_are_integers a_are_integers d_are_integers
  m_are_integers : mg "are_integers" = some (.ref a_are_integers)
  b_are_integers : Binds K d_are_integers P_are_integers []
  a_are_integers_from : Addr
  d_are_integers_from : FuncData
  F_are_integers_from : Fun K "are_integers_from" "are_integers_from" s_are_integers_from a_are_integers_from d_are_integers_from
  m_are_integers_from : mg "are_integers_from" = some (.ref a_are_integers_from)
  b_are_integers_from : Binds K d_are_integers_from P_are_integers_from []
  a_are_letters : Addr
  d_are_letters : FuncData
  F_are_letters : Fun K "are_letters" "are_letters" s_are_letters a_are_letters d_are_letters
  m_are_letters : mg "are_letters" = some (.ref a_are_letters)
  b_are_letters : Binds K d_are_letters P_are_letters []
  a_is_row : Addr
  d_is_row : FuncData
  F_is_row : Fun K "is_row" "is_row" s_is_row a_is_row d_is_row
  m_is_row : mg "is_row" = some (.ref a_is_row)
  b_is_row : Binds K d_is_row P_is_row []
  a_lowest_terms : Addr
  d_lowest_terms : FuncData
  F_lowest_terms : Fun K "lowest_terms" "lowest_terms" s_lowest_terms a_lowest_terms d_lowest_terms
  m_lowest_terms : mg "lowest_terms" = some (.ref a_lowest_terms)
  b_lowest_terms : Binds K d_lowest_terms P_lowest_terms []
  a_is_polynomial : Addr
  d_is_polynomial : FuncData
  F_is_polynomial : Fun K "is_polynomial" "is_polynomial" s_is_polynomial a_is_polynomial d_is_polynomial
  m_is_polynomial : mg "is_polynomial" = some (.ref a_is_polynomial)
  b_is_polynomial : Binds K d_is_polynomial P_is_polynomial []
  a_check_polynomial : Addr
  d_check_polynomial : FuncData
  F_check_polynomial : Fun K "check_polynomial" "check_polynomial" s_check_polynomial a_check_polynomial d_check_polynomial
  m_check_polynomial : mg "check_polynomial" = some (.ref a_check_polynomial)
  b_check_polynomial : Binds K d_check_polynomial P_check_polynomial []
  a_check_two_polynomials : Addr
  d_check_two_polynomials : FuncData
  F_check_two_polynomials : Fun K "check_two_polynomials" "check_two_polynomials" s_check_two_polynomials a_check_two_polynomials d_check_two_polynomials
  m_check_two_polynomials : mg "check_two_polynomials" = some (.ref a_check_two_polynomials)
  b_check_two_polynomials : Binds K d_check_two_polynomials P_check_two_polynomials []
  a_trimmed : Addr
  d_trimmed : FuncData
  F_trimmed : Fun K "trimmed" "trimmed" s_trimmed a_trimmed d_trimmed
  m_trimmed : mg "trimmed" = some (.ref a_trimmed)
  b_trimmed : Binds K d_trimmed P_trimmed []
  a_plus : Addr
  d_plus : FuncData
  F_plus : Fun K "plus" "plus" s_plus a_plus d_plus
  m_plus : mg "plus" = some (.ref a_plus)
  b_plus : Binds K d_plus P_plus []
  q_plus_other_one : KBinds K d_plus P_plus ["other", "one"] two2s two2s
  a_minus : Addr
  d_minus : FuncData
  F_minus : Fun K "minus" "minus" s_minus a_minus d_minus
  m_minus : mg "minus" = some (.ref a_minus)
  b_minus : Binds K d_minus P_minus []
  q_minus_other_one : KBinds K d_minus P_minus ["other", "one"] two2s two2s
  a_times : Addr
  d_times : FuncData
  F_times : Fun K "times" "times" s_times a_times d_times
  m_times : mg "times" = some (.ref a_times)
  b_times : Binds K d_times P_times []
  q_times_other_one : KBinds K d_times P_times ["other", "one"] two2s two2s
  a_scaled : Addr
  d_scaled : FuncData
  F_scaled : Fun K "scaled" "scaled" s_scaled a_scaled d_scaled
  m_scaled : mg "scaled" = some (.ref a_scaled)
  b_scaled : Binds K d_scaled P_scaled []
  q_scaled_one_integer : KBinds K d_scaled P_scaled ["one", "integer"] two2s two2s
  a_power : Addr
  d_power : FuncData
  F_power : Fun K "power" "power" s_power a_power d_power
  m_power : mg "power" = some (.ref a_power)
  b_power : Binds K d_power P_power []
  q_power_many_one : KBinds K d_power P_power ["many", "one"] two2s two2s
  a_value : Addr
  d_value : FuncData
  F_value : Fun K "value" "value" s_value a_value d_value
  m_value : mg "value" = some (.ref a_value)
  b_value : Binds K d_value P_value []
  q_value_integer_one : KBinds K d_value P_value ["integer", "one"] two2s two2s
  a_value_at : Addr
  d_value_at : FuncData
  F_value_at : Fun K "value_at" "value_at" s_value_at a_value_at d_value_at
  m_value_at : mg "value_at" = some (.ref a_value_at)
  b_value_at : Binds K d_value_at P_value_at []
  q_value_at_number_one : KBinds K d_value_at P_value_at ["number", "one"] two2s two2s
  a_letter_sum : Addr
  d_letter_sum : FuncData
  F_letter_sum : Fun K "letter_sum" "letter_sum" s_letter_sum a_letter_sum d_letter_sum
  m_letter_sum : mg "letter_sum" = some (.ref a_letter_sum)
  b_letter_sum : Binds K d_letter_sum P_letter_sum []
  a_letter_negative : Addr
  d_letter_negative : FuncData
  F_letter_negative : Fun K "letter_negative" "letter_negative" s_letter_negative a_letter_negative d_letter_negative
  m_letter_negative : mg "letter_negative" = some (.ref a_letter_negative)
  b_letter_negative : Binds K d_letter_negative P_letter_negative []
  a_letter_times : Addr
  d_letter_times : FuncData
  F_letter_times : Fun K "letter_times" "letter_times" s_letter_times a_letter_times d_letter_times
  m_letter_times : mg "letter_times" = some (.ref a_letter_times)
  b_letter_times : Binds K d_letter_times P_letter_times []
  a_letter_inverse : Addr
  d_letter_inverse : FuncData
  F_letter_inverse : Fun K "letter_inverse" "letter_inverse" s_letter_inverse a_letter_inverse d_letter_inverse
  m_letter_inverse : mg "letter_inverse" = some (.ref a_letter_inverse)
  b_letter_inverse : Binds K d_letter_inverse P_letter_inverse []
  a_row_sum : Addr
  d_row_sum : FuncData
  F_row_sum : Fun K "row_sum" "row_sum" s_row_sum a_row_sum d_row_sum
  m_row_sum : mg "row_sum" = some (.ref a_row_sum)
  b_row_sum : Binds K d_row_sum P_row_sum []
  a_row_times : Addr
  d_row_times : FuncData
  F_row_times : Fun K "row_times" "row_times" s_row_times a_row_times d_row_times
  m_row_times : mg "row_times" = some (.ref a_row_times)
  b_row_times : Binds K d_row_times P_row_times []
  a_row_support : Addr
  d_row_support : FuncData
  F_row_support : Fun K "row_support" "row_support" s_row_support a_row_support d_row_support
  m_row_support : mg "row_support" = some (.ref a_row_support)
  b_row_support : Binds K d_row_support P_row_support []
  a_check_field : Addr
  d_check_field : FuncData
  F_check_field : Fun K "check_field" "check_field" s_check_field a_check_field d_check_field
  m_check_field : mg "check_field" = some (.ref a_check_field)
  b_check_field : Binds K d_check_field P_check_field []
  a_lead_of : Addr
  d_lead_of : FuncData
  F_lead_of : Fun K "lead_of" "lead_of" s_lead_of a_lead_of d_lead_of
  m_lead_of : mg "lead_of" = some (.ref a_lead_of)
  b_lead_of : Binds K d_lead_of P_lead_of []
  a_with_zero_at : Addr
  d_with_zero_at : FuncData
  F_with_zero_at : Fun K "with_zero_at" "with_zero_at" s_with_zero_at a_with_zero_at d_with_zero_at
  m_with_zero_at : mg "with_zero_at" = some (.ref a_with_zero_at)
  b_with_zero_at : Binds K d_with_zero_at P_with_zero_at []
  a_reduced_rows : Addr
  d_reduced_rows : FuncData
  F_reduced_rows : Fun K "reduced_rows" "reduced_rows" s_reduced_rows a_reduced_rows d_reduced_rows
  m_reduced_rows : mg "reduced_rows" = some (.ref a_reduced_rows)
  b_reduced_rows : Binds K d_reduced_rows P_reduced_rows []
  a_Book___init__ : Addr
  d_Book___init__ : FuncData
  F_Book___init__ : Fun K "__init__" "Book.__init__" s_Book___init__ a_Book___init__ d_Book___init__
  b_Book___init__ : Binds K d_Book___init__ P_Book___init__ []
  a_Book___eq__ : Addr
  d_Book___eq__ : FuncData
  F_Book___eq__ : Fun K "__eq__" "Book.__eq__" s_Book___eq__ a_Book___eq__ d_Book___eq__
  b_Book___eq__ : Binds K d_Book___eq__ P_Book___eq__ []
  a_divided : Addr
  d_divided : FuncData
  F_divided : Fun K "divided" "divided" s_divided a_divided d_divided
  m_divided : mg "divided" = some (.ref a_divided)
  b_divided : Binds K d_divided P_divided []
  a_subcounts : Addr
  d_subcounts : FuncData
  F_subcounts : Fun K "subcounts" "subcounts" s_subcounts a_subcounts d_subcounts
  m_subcounts : mg "subcounts" = some (.ref a_subcounts)
  b_subcounts : Binds K d_subcounts P_subcounts []
  q_subcounts_polynomial_q : KBinds K d_subcounts P_subcounts ["polynomial", "q"] two2s two2s
  a__law_deck : Addr
  d__law_deck : FuncData
  F__law_deck : Fun K "_law_deck" "_law_deck" s__law_deck a__law_deck d__law_deck
  m__law_deck : mg "_law_deck" = some (.ref a__law_deck)
  b__law_deck : Binds K d__law_deck P__law_deck []
  a__law_draw : Addr
  d__law_draw : FuncData
  F__law_draw : Fun K "_law_draw" "_law_draw" s__law_draw a__law_draw d__law_draw
  m__law_draw : mg "_law_draw" = some (.ref a__law_draw)
  b__law_draw : Binds K d__law_draw P__law_draw []
  a__law_pick : Addr
  d__law_pick : FuncData
  F__law_pick : Fun K "_law_pick" "_law_pick" s__law_pick a__law_pick d__law_pick
  m__law_pick : mg "_law_pick" = some (.ref a__law_pick)
  b__law_pick : Binds K d__law_pick P__law_pick []
  a__law_figures : Addr
  d__law_figures : FuncData
  F__law_figures : Fun K "_law_figures" "_law_figures" s__law_figures a__law_figures d__law_figures
  m__law_figures : mg "_law_figures" = some (.ref a__law_figures)
  b__law_figures : Binds K d__law_figures P__law_figures []
  a__law_polynomial : Addr
  d__law_polynomial : FuncData
  F__law_polynomial : Fun K "_law_polynomial" "_law_polynomial" s__law_polynomial a__law_polynomial d__law_polynomial
  m__law_polynomial : mg "_law_polynomial" = some (.ref a__law_polynomial)
  b__law_polynomial : Binds K d__law_polynomial P__law_polynomial []
  a__law_is_polynomial : Addr
  d__law_is_polynomial : FuncData
  F__law_is_polynomial : Fun K "_law_is_polynomial" "_law_is_polynomial" s__law_is_polynomial a__law_is_polynomial d__law_is_polynomial
  m__law_is_polynomial : mg "_law_is_polynomial" = some (.ref a__law_is_polynomial)
  b__law_is_polynomial : Binds K d__law_is_polynomial P__law_is_polynomial []
  a__law_odd : Addr
  d__law_odd : FuncData
  F__law_odd : Fun K "_law_odd" "_law_odd" s__law_odd a__law_odd d__law_odd
  m__law_odd : mg "_law_odd" = some (.ref a__law_odd)
  b__law_odd : Binds K d__law_odd P__law_odd []
  a__law_bent : Addr
  d__law_bent : FuncData
  F__law_bent : Fun K "_law_bent" "_law_bent" s__law_bent a__law_bent d__law_bent
  m__law_bent : mg "_law_bent" = some (.ref a__law_bent)
  b__law_bent : Binds K d__law_bent P__law_bent []
  a__law_same : Addr
  d__law_same : FuncData
  F__law_same : Fun K "_law_same" "_law_same" s__law_same a__law_same d__law_same
  m__law_same : mg "_law_same" = some (.ref a__law_same)
  b__law_same : Binds K d__law_same P__law_same []
  a__law_is_refused : Addr
  d__law_is_refused : FuncData
  F__law_is_refused : Fun K "_law_is_refused" "_law_is_refused" s__law_is_refused a__law_is_refused d__law_is_refused
  m__law_is_refused : mg "_law_is_refused" = some (.ref a__law_is_refused)
  b__law_is_refused : Binds K d__law_is_refused P__law_is_refused []
  a__law_value : Addr
  d__law_value : FuncData
  F__law_value : Fun K "_law_value" "_law_value" s__law_value a__law_value d__law_value
  m__law_value : mg "_law_value" = some (.ref a__law_value)
  b__law_value : Binds K d__law_value P__law_value []
  a__law_refused : Addr
  d__law_refused : FuncData
  F__law_refused : Fun K "_law_refused" "_law_refused" s__law_refused a__law_refused d__law_refused
  m__law_refused : mg "_law_refused" = some (.ref a__law_refused)
  b__law_refused : Binds K d__law_refused P__law_refused []
  a__law_two_right : Addr
  d__law_two_right : FuncData
  c__law_two_right : Addr
  tP__law_two_right : Addr
  F__law_two_right : FunL K "_law_two_right" "_law_two_right" s__law_two_right a__law_two_right d__law_two_right c__law_two_right
  m__law_two_right : mg "_law_two_right" = some (.ref a__law_two_right)
  b__law_two_right : Binds K d__law_two_right P__law_two_right []
  a__law_one_right : Addr
  d__law_one_right : FuncData
  c__law_one_right : Addr
  tP__law_one_right : Addr
  F__law_one_right : FunL K "_law_one_right" "_law_one_right" s__law_one_right a__law_one_right d__law_one_right c__law_one_right
  m__law_one_right : mg "_law_one_right" = some (.ref a__law_one_right)
  b__law_one_right : Binds K d__law_one_right P__law_one_right []
  a__law_are_books_refused : Addr
  d__law_are_books_refused : FuncData
  c__law_are_books_refused : Addr
  tP__law_are_books_refused : Addr
  F__law_are_books_refused : FunL K "_law_are_books_refused" "_law_are_books_refused" s__law_are_books_refused a__law_are_books_refused d__law_are_books_refused c__law_are_books_refused
  m__law_are_books_refused : mg "_law_are_books_refused" = some (.ref a__law_are_books_refused)
  b__law_are_books_refused : Binds K d__law_are_books_refused P__law_are_books_refused []
  a__law_is_great_refused : Addr
  d__law_is_great_refused : FuncData
  c__law_is_great_refused : Addr
  tP__law_is_great_refused : Addr
  F__law_is_great_refused : FunL K "_law_is_great_refused" "_law_is_great_refused" s__law_is_great_refused a__law_is_great_refused d__law_is_great_refused c__law_is_great_refused
  m__law_is_great_refused : mg "_law_is_great_refused" = some (.ref a__law_is_great_refused)
  b__law_is_great_refused : Binds K d__law_is_great_refused P__law_is_great_refused []
  a_law : Addr
  d_law : FuncData
  F_law : Fun K "law" "law" s_law a_law d_law
  m_law : mg "law" = some (.ref a_law)
  b_law : Binds K d_law P_law []
  B0 : Addr
  gB : mg "BookError" = some (.ref B0)
  C_BadPolynomial : Addr
  I_BadPolynomial : Addr
  e_BadPolynomial : Er.Txt P K mg B0 C_BadPolynomial I_BadPolynomial "BadPolynomial" "thing"
  C_Book : Addr
  g_Book : mg "Book" = some (.ref C_Book)
  cl_Book : Cls K C_Book
  mk_Book : Mk K C_Book a_Book___init__
  is_Book : ClsIs K C_Book
  no_Book_q : NoAttr K C_Book "q"
  no_Book_n : NoAttr K C_Book "n"
  no_Book_rows : NoAttr K C_Book "rows"
  no_Book_dimension : NoAttr K C_Book "dimension"
  eq_Book : PySem.W.findIn K (.ref C_Book) "__eq__" = some (some (.ref a_Book___eq__))
  eqf_Book : PySem.W.isFn K (.ref a_Book___eq__) = true
  t_MOST_PLACES : Tok
  m_MOST_PLACES : mg "MOST_PLACES" = some (.int 8 t_MOST_PLACES)
  t_MOST_ROWS : Tok
  m_MOST_ROWS : mg "MOST_ROWS" = some (.int 16 t_MOST_ROWS)
  t_four : Addr
  m_four : mg "FOUR_TIMES" = some (.ref t_four)
  four : FourTab K t_four
  ex_BadPolynomial : ExcC K C_BadPolynomial
  tnd : [tP__law_two_right, tP__law_one_right, tP__law_are_books_refused, tP__law_is_great_refused].Nodup
  k_B0 : PySem.W.kitOne K (.ref C_BadPolynomial) (.ref B0) = some true
  C_BadNumber : Addr
  g_BadNumber : mg "BadNumber" = some (.ref C_BadNumber)
  k_BadNumber : PySem.W.kitOne K (.ref C_BadPolynomial) (.ref C_BadNumber) = some false
  C_BadField : Addr
  g_BadField : mg "BadField" = some (.ref C_BadField)
  k_BadField : PySem.W.kitOne K (.ref C_BadPolynomial) (.ref C_BadField) = some false
  C_BadTable : Addr
  g_BadTable : mg "BadTable" = some (.ref C_BadTable)
  k_BadTable : PySem.W.kitOne K (.ref C_BadPolynomial) (.ref C_BadTable) = some false
  m_abs : mg "abs" = none
  m_all : mg "all" = none
  m_bool : mg "bool" = none
  m_enumerate : mg "enumerate" = none
  m_int : mg "int" = none
  m_isinstance : mg "isinstance" = none
  m_len : mg "len" = none
  m_list : mg "list" = none
  m_max : mg "max" = none
  m_min : mg "min" = none
  m_range : mg "range" = none
  m_repr : mg "repr" = none
  m_reversed : mg "reversed" = none
  m_str : mg "str" = none
  m_tuple : mg "tuple" = none
  m_zip : mg "zip" = none
  m_gcd : mg "gcd" = some (.builtin "math.gcd")
def spLaw (K : PySem.W.Frag) (TT : List (Addr × Str)) : Sp := fun vs H Q _ => ∃ (a : Addr) (ns : List Int), vs = [.ref a] ∧ SqL K H a (ns.map V.int) ∧ ns.length ≤ 63 ∧ Tabs TT H ∧ ∀ H', Q (.bl true) H'
def TI (K : PySem.W.Frag) (H : Hp) (v : V) (ns : List Int) : Prop := ∃ a, v = .ref a ∧ SqT K H a (ns.map V.int)
theorem _root_.L2.Same.tup {K : PySem.W.Frag} {H H' : Hp} {a : Addr} {xs : List V} (e : Same H H') (h : SqT K H a xs) : SqT K H' a xs := by
  rcases h with (h | ⟨o, h⟩) | h
  · exact .inl (.inl (e _ _ h))
  · exact .inl (.inr ⟨o, e _ _ h⟩)
  · exact .inr h
theorem TI.same {K : PySem.W.Frag} {H H' : Hp} {v : V} {ns : List Int} (h : TI K H v ns) (e : Same H H') : TI K H' v ns :=
  let ⟨a, h1, h2⟩ := h
  ⟨a, h1, e.tup h2⟩
theorem same_upd {H : Hp} {p : Addr} {o : HO} (h : H p = none) : Same H (upd H p o) := fun b u e => by
  rw [upd_ne (ne_of_none e h)]
  exact e
theorem same_set {H H' : Hp} {p : Addr} {o : HO} (h : H p = none) (e : Same H H') : Same H (upd H' p o) := fun b u q => by
  rw [upd_ne (ne_of_none q h)]
  exact e b u q
theorem tyx_tup {K : PySem.W.Frag} {H : Hp} {a : Addr} {xs : List V} (h : SqT K H a xs) : TyX K H (.ref a) (.type "tuple") := by
  rcases h with (h | ⟨o, h⟩) | ⟨o, its, n, h1, h2, _⟩
  · exact .base (.tup h)
  · exact .fTuple h
  · exact .kTuple h1 h2
theorem int_at {ns : List Int} {i : Nat} {x : V} (h : (ns.map V.int)[i]? = some x) : ∃ z, ns[i]? = some z ∧ x = .int z := by
  rw [List.getElem?_map] at h
  cases e : ns[i]? with
  | none =>
    rw [e] at h
    cases h
  | some z =>
    rw [e] at h
    exact ⟨z, rfl, (Option.some.inj h).symm⟩
theorem line_le {n : Nat} (h : n ≤ 100000) : n < sizeLine := Nat.lt_of_le_of_lt h (by decide)
end K24
end
section
set_option maxRecDepth 100000
set_option maxHeartbeats 4000000
set_option exponentiation.threshold 9000
namespace K24
open PySem PySem.Spec PyProof.Rows L2 MB PM
open LamX hiding takes0
abbrev kL : Str := "left"
theorem kOk : KOk kL := ⟨by decide +kernel, by decide +kernel⟩
theorem cut63 {ns : List Int} (h : ns.length ≤ 63) : cutV (ns.map V.int) none (some (63 : Int)) = ns.map V.int := by
  have e : HT.sIx ns.length ns.length (some (63 : Int)) = min 63 ns.length := HT.sIx_nat _ _ 63
  unfold cutV
  rw [HT.sIx_none, List.drop_zero, List.length_map, e, List.take_of_length_le (by rw [List.length_map]; omega)]
theorem get_left {H : Hp} {d l : Addr} {m n : Int} (h : H d = some (.dK (dk kL l m n))) : DGet H d (.str kL) (some (.ref l)) :=
  .inl ⟨_, .inr kL, .inl h, rfl, dk_left.symm⟩
theorem get_mixed {H : Hp} {d l : Addr} {m n : Int} (h : H d = some (.dK (dk kL l m n))) : DGet H d (.str "mixed") (some (.int m)) :=
  .inl ⟨_, .inr "mixed", .inl h, rfl, (dk_mixed kOk).symm⟩
theorem get_draws {H : Hp} {d l : Addr} {m n : Int} (h : H d = some (.dK (dk kL l m n))) : DGet H d (.str "draws") (some (.int n)) :=
  .inl ⟨_, .inr "draws", .inl h, rfl, (dk_draws kOk).symm⟩
section
variable {w : World} {K : PySem.W.Frag} {mg : Str → Option Value} {base : Heap}
def spDeck (K : PySem.W.Frag) : Sp := fun vs H Q _ => ∃ (a : Addr) (ns : List Int), vs = [.ref a] ∧ SqL K H a (ns.map V.int) ∧ ns.length ≤ 63 ∧
  ∀ d l H', Same H H' → Deck kL H' d l → Q (.ref d) H'
theorem ok__law_deck (T : Txt K mg) : FnOk P w K mg base CX0 1 T.a__law_deck T.d__law_deck P__law_deck (spDeck K) := by
  refine T.F__law_deck.ok sc__law_deck (fun vs H Q E h => ?_) (fun cdv A outer s H vs Q E hr h => ?_)
  · obtain ⟨a, ns, rfl, _⟩ := h
    rfl
  · obtain ⟨a, ns, rfl, ha, hl, q⟩ := h
    refine ⟨_, 
      (pss_cons (ps_set (i := 1) sc__law_deck.nd rfl (Or.inl rfl) pe_int)
      (pss_cons (ps_for PassesOwn.never rfl (pi_list (pe_slice sl_list (pv 0) po_none (po_some pe_int))) (pg_name (i := 2) sc__law_deck.nd rfl (Or.inl rfl)) (pss_one (ps_set (i := 1) sc__law_deck.nd rfl (Or.inl rfl) (pe_op op_mod (pe_callTy call_int1 (by rfl) T.m_int (by decide +kernel) (pa_cons (pe_op op_add (pe_op op_add (pe_op op_mul (pv 1) pe_int) (pe_op op_mod (pe_callTy call_int1 (by rfl) T.m_int (by decide +kernel) (pa_cons (pv 2) pa_nil)) pe_int)) pe_int) pa_nil)) pe_int))))
      (pss_one (ps_ret (pe_disp (pps_cons pe_str (pe_revL (pe_callTy call_list_of (by rfl) T.m_list (by decide +kernel) (pa_cons (pe_slice sl_list (pv 0) po_none (po_some pe_int)) pa_nil))) (pps_cons pe_str (pv 1) (pps_cons pe_str pe_int pps_nil))) (by rfl) (by rfl) (fun z => by cases z) (by decide)))))), ?_⟩
    refine ⟨_, rfl, _, rfl, a, _, rfl, ha, fun p hp => ?_⟩
    rw [cut63 hl]
    have s1 := same_upd (o := .lst (ns.map V.int)) hp
    refine ⟨p, rfl, ⟨_, SqL.of upd_same⟩, for_it (walk_list (K := K) (a := p) (xs := ns.map V.int))
      (fun i σ H' => ∃ (m : Int) (u : Option V), σ = [some (.ref a), some (.int m), u] ∧ 0 ≤ m ∧ m < 2147483648 ∧ H' = upd H p (.lst (ns.map V.int)))
      ⟨_, none, rfl, by decide, by decide, rfl⟩ (fun i σ H' _ ⟨_, _, _, _, _, e⟩ => by rw [e]; exact SqL.of upd_same) ?_ ?_⟩
    · rintro i v _ _ _ hi ⟨m, u, rfl, m0, m1, rfl⟩ ⟨rfl, hv⟩
      obtain ⟨c, hc, rfl⟩ := int_at hv
      refine ⟨_, rfl, _, _, rfl, rfl, .inr (by decide), _, rfl, .inl ⟨_, rfl, ?_⟩⟩
      refine ⟨_, _, rfl, rfl, (by decide : (0 : Int) < 2147483629), _, _, rfl, rfl, _, _, rfl, rfl, .inl ⟨_, rfl, ?_⟩⟩
      refine ⟨_, _, rfl, rfl, (by decide : (0 : Int) < 2147483587), _, _, rfl, ?_, ?_, rfl⟩
      · exact Int.emod_nonneg _ (by decide)
      · exact Int.lt_trans (Int.emod_lt_of_pos _ (by decide)) (by decide)
    · rintro _ _ ⟨m, u, rfl, m0, m1, rfl⟩
      refine fun d hd => ?_
      have s2 := s1.trans (same_upd (o := .dK []) hd)
      refine ⟨_, rfl, _, rfl, a, _, rfl, s2.seq ha, fun p2 hp2 => ?_⟩
      rw [cut63 hl]
      have s3 := s2.trans (same_upd (o := .lst (ns.map V.int)) hp2)
      refine ⟨p2, _, rfl, .inl (SqL.of upd_same), fun p3 hp3 => ?_⟩
      have s4 := s3.trans (same_upd (o := .lst (ns.map V.int)) hp3)
      refine ⟨p3, _, rfl, SqL.of upd_same, fun l hl4 => ?_⟩
      have s5 := s4.trans (same_upd (o := .lst (ns.map V.int).reverse) hl4)
      refine ⟨_, rfl, ?_⟩
      have at3 : ∀ {q : Addr} {o : HO} {G : Hp}, G d = some (.dK []) → G q = none → (upd G q o) d = some (.dK []) := fun h1 h2 => (upd_ne (ne_of_none h1 h2)).trans h1
      have hd4 := at3 (o := .lst (ns.map V.int)) (at3 (o := .lst (ns.map V.int)) upd_same hp2) hp3
      have hd5 := at3 (o := .lst (ns.map V.int).reverse) hd4 hl4
      refine ⟨hd5, dk kL l m 0, rfl, (by decide : 3 ≤ 15), ?_⟩
      rw [dk_merge kOk]
      have hdl : l ≠ d := (ne_of_none hd4 hl4).symm
      refine q d l _ (same_set (s1.free hd) s5) ⟨m, 0, ns.reverse, upd_same, ?_, ?_, m0, m1⟩
      · rw [upd_ne hdl, upd_same, List.map_reverse]
      · rw [List.length_reverse]
        exact hl
def spDraw : Sp := fun vs H Q _ => ∃ (d l : Addr) (k : Int), vs = [.ref d, .int k] ∧ 0 < k ∧ k.natAbs < 2 ^ 8000 ∧ Deck kL H d l ∧
  ∀ (r : Int) H', 0 ≤ r → r < k → But d l H H' → Deck kL H' d l → Q (.int r) H'
theorem ok__law_draw (T : Txt K mg) : FnOk P w K mg base CX0 1 T.a__law_draw T.d__law_draw P__law_draw spDraw := by
  refine T.F__law_draw.ok sc__law_draw (fun vs H Q E h => ?_) (fun cdv A outer s H vs Q E hr h => ?_)
  · obtain ⟨d, l, k, rfl, _⟩ := h
    rfl
  · obtain ⟨d, l, k, rfl, k0, kb, D, q⟩ := h
    have hne := D.ne
    obtain ⟨m, n, cs, hd, hl, lc, m0, m1⟩ := D.ex
    refine ⟨_, 
      (pss_cons (ps_dput (hu_of hr) (pv 0) pe_str (pe_op op_add (pe_dget (hu_of hr) (pv 0) pe_str (fun _ _ => rfl)) pe_int) rfl)
      (pss_cons (ps_set (i := 2) sc__law_draw.nd rfl (Or.inl rfl) (pe_op op_add (pe_dget (hu_of hr) (pv 0) pe_str (fun _ _ => rfl)) (pe_op op_mul pe_int (pe_dget (hu_of hr) (pv 0) pe_str (fun _ _ => rfl)))))
      (pss_cons (ps_if (pt_cmpR (op_neD hr.units) (pe_dget (hu_of hr) (pv 0) pe_str (fun _ _ => rfl)) (pe_lst pa_nil) (nomark _)) (pss_cons (ps_set (i := 3) sc__law_draw.nd rfl (Or.inl rfl) (pe_bm0 PySem.F.plainAttrs_list PySem.F.slot_list_pop PySem.F.type_list_pop mt_pop (pe_dget (hu_of hr) (pv 0) pe_str (fun _ _ => rfl))))
      (pss_cons (ps_if (pt_cmpR op_ge (pv 3) (pe_op op_pow pe_int pe_int) (nomark _)) (pss_cons (ps_expr (pe_bm PySem.F.plainAttrs_list PySem.F.slot_list_append PySem.F.type_list_append mt_append (pe_dget (hu_of hr) (pv 0) pe_str (fun _ _ => rfl)) (pa_cons (pe_op op_fdivW (pv 3) (pe_callB (call_max2 rfl) (by rfl) T.m_max (by decide +kernel) (pa_cons pe_int (pa_cons (pv 1) pa_nil)))) pa_nil)))
      (pss_one (ps_ret (pe_op op_modN (pe_callTy call_int1 (by rfl) T.m_int (by decide +kernel) (pa_cons (pv 3) pa_nil)) (pv 1))))) pss_nil)
      (pss_one (ps_set (i := 2) sc__law_draw.nd rfl (Or.inl rfl) (pe_op op_add (pv 2) (pe_op op_mod (pe_callTy call_int1 (by rfl) T.m_int (by decide +kernel) (pa_cons (pv 3) pa_nil)) pe_int)))))) pss_nil)
      (pss_cons (ps_set (i := 2) sc__law_draw.nd rfl (Or.inl rfl) (pe_op op_mod (pe_callTy call_int1 (by rfl) T.m_int (by decide +kernel) (pa_cons (pe_op op_add (pe_op op_mul (pv 2) pe_int) pe_int) pa_nil)) pe_int))
      (pss_cons (ps_set (i := 2) sc__law_draw.nd rfl (Or.inl rfl) (pe_op op_mod (pe_callTy call_int1 (by rfl) T.m_int (by decide +kernel) (pa_cons (pe_op op_add (pe_op op_add (pe_op op_mulW (pv 2) (pv 2)) (pe_op op_mul pe_int (pe_dget (hu_of hr) (pv 0) pe_str (fun _ _ => rfl)))) pe_int) pa_nil)) pe_int))
      (pss_cons (ps_set (i := 2) sc__law_draw.nd rfl (Or.inl rfl) (pe_op op_mod (pe_callTy call_int1 (by rfl) T.m_int (by decide +kernel) (pa_cons (pe_op op_mul (pv 2) pe_int) pa_nil)) pe_int))
      (pss_one (ps_ret (pe_op op_modN (pe_callTy call_int1 (by rfl) T.m_int (by decide +kernel) (pa_cons (pe_op op_fdiv (pv 2) pe_int) pa_nil)) (pv 1)))))))))), ?_⟩
    refine ⟨_, rfl, d, _, rfl, get_draws hd, _, _, rfl, rfl, _, rfl, d, _, rfl, DPut.k (k := Sum.inr ("draws" : Str)) hd (line_le (by decide : 3 ≤ 100000)), ?_⟩
    rw [dk_put kOk]
    have hd1 : (upd H d (.dK (dk kL l m (n + 1)))) d = some (.dK (dk kL l m (n + 1))) := upd_same
    have hl1 : (upd H d (.dK (dk kL l m (n + 1)))) l = some (.lst (cs.map V.int)) := (upd_ne hne.symm).trans hl
    have e1 : But d l H (upd H d (.dK (dk kL l m (n + 1)))) := fun b o h h1 _ => (upd_ne h1).trans h
    have D1 : Deck kL (upd H d (.dK (dk kL l m (n + 1)))) d l := ⟨m, n + 1, cs, hd1, hl1, lc, m0, m1⟩
    refine ⟨_, rfl, d, _, rfl, get_mixed hd1, _, rfl, d, _, rfl, get_draws hd1, _, _, rfl, rfl, .inl (by decide), _, _, rfl, rfl, ?_⟩
    refine ⟨_, rfl, d, _, rfl, get_left hd1, (by decide : 0 ≤ sizeLine), fun p hp => ?_⟩
    have s2 := same_upd (o := .lst []) hp
    refine ne_nil_rd (SqL.of (s2 _ _ hl1)) (SqL.of upd_same) ⟨_, rfl, ?_⟩
    generalize hH2 : upd (upd H d (.dK (dk kL l m (n + 1)))) p (.lst []) = H2
    rw [hH2] at s2
    have hd2 := s2 _ _ hd1
    have hl2 := s2 _ _ hl1
    have e2 : But d l H H2 := e1.same s2
    have D2 : Deck kL H2 d l := D1.same s2
    clear hH2 s2 hp e1 D1 hd1 hl1
    cases hcs : cs with
    | nil =>
      refine iteF ?_
      have bnd : ∀ x : Int, (x % 2147483563).natAbs < 2 ^ 32 := fun x => by
        have h1 := Int.emod_nonneg x (by decide : (2147483563 : Int) ≠ 0)
        have h2 := Int.emod_lt_of_pos x (by decide : (0 : Int) < 2147483563)
        omega
      refine ⟨_, rfl, _, _, rfl, rfl, .inr (by decide), _, _, rfl, rfl, .inl ⟨_, rfl, ?_⟩⟩
      refine ⟨_, _, rfl, rfl, (by decide : (0 : Int) < 2147483563), ?_⟩
      refine ⟨_, rfl, _, rfl, _, _, rfl, rfl, wide_mul (bnd _) (bnd _) (by decide) (by decide) (by decide), _, rfl, d, _, rfl, get_draws hd2, _, _, rfl, rfl, .inl (by decide), _, _, rfl, rfl, _, _, rfl, rfl, .inl ⟨_, rfl, ?_⟩⟩
      refine ⟨_, _, rfl, rfl, (by decide : (0 : Int) < 2147483399), ?_⟩
      refine ⟨_, rfl, _, _, rfl, rfl, .inr (by decide), .inl ⟨_, rfl, ?_⟩⟩
      refine ⟨_, _, rfl, rfl, (by decide : (0 : Int) < 2147483647), ?_⟩
      refine ⟨_, rfl, _, _, rfl, rfl, ⟨by decide, by decide⟩, .inl ⟨_, rfl, ?_⟩⟩
      refine ⟨_, rfl, _, _, rfl, rfl, (by omega : k ≠ 0), ?_⟩
      exact q _ _ (Int.fmod_nonneg_of_pos _ k0) (Int.fmod_lt_of_pos _ k0) e2 D2
    | cons c0 cr =>
      refine iteT ?_
      obtain ⟨ys, c, hys⟩ : ∃ ys c, cs = ys ++ [c] := ⟨cs.dropLast, cs.getLast (by rw [hcs]; simp), (List.dropLast_concat_getLast _).symm⟩
      clear hcs
      subst hys
      rw [List.length_append, List.length_singleton] at lc
      rw [List.map_append] at hl2
      refine ⟨_, rfl, d, _, rfl, get_left hd2, .inl ⟨rfl, _, SqL.of hl2⟩, l, _, .int c, rfl, rfl, hl2, ?_, ?_⟩
      · simp
      have edl : (ys.map V.int ++ [c].map V.int).dropLast = ys.map V.int := by
        show (ys.map V.int ++ [V.int c]).dropLast = _
        rw [List.dropLast_concat]
      rw [edl]
      have hd3 : (upd H2 l (.lst (ys.map V.int))) d = some (.dK (dk kL l m (n + 1))) := (upd_ne hne).trans hd2
      have hl3 : (upd H2 l (.lst (ys.map V.int))) l = some (.lst (ys.map V.int)) := upd_same
      have e3 : But d l H (upd H2 l (.lst (ys.map V.int))) := fun b o h h1 h2 => (upd_ne h2).trans (e2 b o h h1 h2)
      have D3 : Deck kL (upd H2 l (.lst (ys.map V.int))) d l := ⟨m, n + 1, ys, hd3, hl3, by omega, m0, m1⟩
      generalize upd H2 l (.lst (ys.map V.int)) = H3 at hd3 hl3 e3 D3
      clear e2 D2 hd2 hl2
      refine ⟨_, rfl, _, _, rfl, rfl, ⟨by decide, by decide, by decide⟩, _, _, rfl, rfl, _, rfl, ?_⟩
      refine ite2 (fun _ => ?_) (fun _ => ?_)
      ·
        have dv : CDivW c (if k > 2 then k else 2) := by
          split
          · exact wide_div k0 kb (by decide) (by decide)
          · exact wide_div (by decide) (b := 8) (by decide) (by decide) (by decide)
        refine ⟨_, rfl, d, _, rfl, get_left hd3, .inl ⟨rfl, _, SqL.of hl3⟩, _, rfl, _, rfl, _, _, rfl, _, _, rfl, rfl, dv, l, _, _, rfl, rfl, hl3, ?_, ?_⟩
        · rw [List.length_map]
          exact line_le (by omega)
        refine ⟨_, rfl, .inl ⟨_, rfl, ?_⟩⟩
        refine ⟨_, rfl, _, _, rfl, rfl, (by omega : k ≠ 0), ?_⟩
        refine q _ _ (Int.fmod_nonneg_of_pos _ k0) (Int.fmod_lt_of_pos _ k0) (fun b o h h1 h2 => (upd_ne h2).trans (e3 b o h h1 h2)) ?_
        refine ⟨m, n + 1, ys ++ [c / (if k > 2 then k else 2)], (upd_ne hne).trans hd3, ?_, by rw [List.length_append]; simp; omega, m0, m1⟩
        rw [upd_same, List.map_append]
        rfl
      ·
        refine ⟨_, rfl, _, rfl, .inl ⟨_, rfl, ?_⟩⟩
        refine ⟨_, _, rfl, rfl, (by decide : (0 : Int) < 2147483629), _, _, rfl, rfl, ?_⟩
        have bnd : ∀ x : Int, (x % 2147483563).natAbs < 2 ^ 32 := fun x => by
          have h1 := Int.emod_nonneg x (by decide : (2147483563 : Int) ≠ 0)
          have h2 := Int.emod_lt_of_pos x (by decide : (0 : Int) < 2147483563)
          omega
        refine ⟨_, rfl, _, _, rfl, rfl, .inr (by decide), _, _, rfl, rfl, .inl ⟨_, rfl, ?_⟩⟩
        refine ⟨_, _, rfl, rfl, (by decide : (0 : Int) < 2147483563), ?_⟩
        refine ⟨_, rfl, _, rfl, _, _, rfl, rfl, wide_mul (bnd _) (bnd _) (by decide) (by decide) (by decide), _, rfl, d, _, rfl, get_draws hd3, _, _, rfl, rfl, .inl (by decide), _, _, rfl, rfl, _, _, rfl, rfl, .inl ⟨_, rfl, ?_⟩⟩
        refine ⟨_, _, rfl, rfl, (by decide : (0 : Int) < 2147483399), ?_⟩
        refine ⟨_, rfl, _, _, rfl, rfl, .inr (by decide), .inl ⟨_, rfl, ?_⟩⟩
        refine ⟨_, _, rfl, rfl, (by decide : (0 : Int) < 2147483647), ?_⟩
        refine ⟨_, rfl, _, _, rfl, rfl, ⟨by decide, by decide⟩, .inl ⟨_, rfl, ?_⟩⟩
        refine ⟨_, rfl, _, _, rfl, rfl, (by omega : k ≠ 0), ?_⟩
        exact q _ _ (Int.fmod_nonneg_of_pos _ k0) (Int.fmod_lt_of_pos _ k0) e3 D3
end
end K24
end
section
set_option maxRecDepth 100000
set_option maxHeartbeats 4000000
namespace K24
open PySem PySem.Spec PyProof.Rows L2 MB PM
open LamX hiding takes0
section
variable {w : World} {K : PySem.W.Frag} {mg : Str → Option Value} {base : Heap}
def spInt (K : PySem.W.Frag) : Sp := fun vs H Q _ => ∃ (v : V) (o : Option Int), vs = [v] ∧ IntQ K H v o ∧ Q (.bl o.isSome) H
theorem ok_is_integer (T : Txt K mg) : FnOk P w K mg base CX0 1 T.a_is_integer T.d_is_integer P_is_integer (spInt K) := by
  refine T.F_is_integer.ok sc_is_integer (fun vs H Q E h => ?_) (fun cdv A outer s H vs Q E hr h => ?_)
  · obtain ⟨v, o, rfl, _⟩ := h
    rfl
  · obtain ⟨v, o, rfl, hv, q⟩ := h
    refine ⟨_, 
      (pss_one (ps_ret (pe_and (pe_callB (id := "isinstance") (r := rIsi K) call_isi (by rfl) T.m_isinstance (by decide +kernel) (pa_cons (pv 0) (pa_cons (pe_bltn (by rfl) T.m_int (v := .ty "int") (by decide +kernel) rfl) pa_nil))) (pe_one (pe_not (pe_callB (id := "isinstance") (r := rIsi K) call_isi (by rfl) T.m_isinstance (by decide +kernel) (pa_cons (pv 0) (pa_cons (pe_bltn (by rfl) T.m_bool (v := .ty "bool") (by decide +kernel) rfl) pa_nil)))))))), ?_⟩
    cases o with
    | some i =>
      obtain rfl : v = .int i := hv
      refine ⟨_, rfl, _, _, _, _, _, rfl, .ty "int", .base (.int i), kit_ty (r := true) (by decide +kernel), true, rfl, ?_⟩
      refine iteT ?_
      exact ⟨_, rfl, _, _, _, _, _, rfl, .ty "bool", .base (.int i), kit_ty (r := false) (by decide +kernel), false, rfl, q⟩
    | none =>
      rcases hv with ⟨b, rfl⟩ | ⟨t, ht, hk⟩
      · refine ⟨_, rfl, _, _, _, _, _, rfl, .ty "int", .base (.bl b), kit_ty (r := true) (by decide +kernel), true, rfl, ?_⟩
        refine iteT ?_
        exact ⟨_, rfl, _, _, _, _, _, rfl, .ty "bool", .base (.bl b), kit_ty (r := true) (by decide +kernel), true, rfl, q⟩
      · refine ⟨_, rfl, _, _, _, _, _, rfl, .ty "int", ht, hk, false, rfl, ?_⟩
        exact iteF q
def Lev (K : PySem.W.Frag) (H : Hp) (v : V) : Option (List (Option Int)) → Prop
  | none => TupQ K H v none
  | some os => ∃ xs, TupQ K H v (some xs) ∧ Paired (IntQ K H) xs os ∧ xs.length ≤ 1000
def allInt : Option (List (Option Int)) → Bool
  | none => false
  | some os => os.all (·.isSome)
theorem paired_at {α β : Type} {R : α → β → Prop} {xs : List α} {ys : List β} (h : Paired R xs ys) {i : Nat} {x : α} (e : xs[i]? = some x) : ∃ y, ys[i]? = some y ∧ R x y := by
  induction h generalizing i with
  | nil => simp at e
  | cons r rs ih =>
    cases i with
    | zero =>
      obtain rfl := Option.some.inj e
      exact ⟨_, rfl, r⟩
    | succ i => exact ih e
theorem take_map_add {α β : Type} (f : α → β) {l : List α} {i : Nat} {x : α} (e : l[i]? = some x) : (l.take (i + 1)).map f = (l.take i).map f ++ [f x] := by
  rw [List.take_add_one, e]
  simp
def spInts (K : PySem.W.Frag) : Sp := fun vs H Q _ => ∃ (v : V) (o : Option (List (Option Int))), vs = [v] ∧ Lev K H v o ∧ ∀ H', Same H H' → Q (.bl (allInt o)) H'
theorem ok_are_integers (T : Txt K mg) : FnOk P w K mg base CX0 2 T.a_are_integers T.d_are_integers P_are_integers (spInts K) := by
  refine T.F_are_integers.ok sc_are_integers (fun vs H Q E h => ?_) (fun cdv A outer s H vs Q E hr h => ?_)
  · obtain ⟨v, o, rfl, _⟩ := h
    rfl
  · obtain ⟨v, o, rfl, hv, q⟩ := h
    refine ⟨_, 
      (pss_one (ps_ret (pe_and (pe_callB (id := "isinstance") (r := rIsi K) call_isi (by rfl) T.m_isinstance (by decide +kernel) (pa_cons (pv 0) (pa_cons (pe_bltn (by rfl) T.m_tuple (v := .ty "tuple") (by decide +kernel) rfl) pa_nil))) (pe_one (pe_callB (cr_all rfl) (by rfl) T.m_all (by decide +kernel) (pa_cons (pe_lc (own := [("item", 1)]) (g := gName 1) (tt := tYes) rfl sc_are_integers.nd (pi_tup (pv 0)) (blkOk_by (own := [("item", 1)]) (N := N_are_integers) (sc := defScope s_are_integers) (by decide +kernel)) (fun _ _ _ _ _ => (pg_name (i := 1) sc_are_integers.nd rfl (Or.inl rfl))) (fun _ _ _ _ _ => pts_nil) (fun _ _ _ _ _ => (pe_call (ok_is_integer T) (hr.mono (by decide)) rfl T.m_is_integer T.F_is_integer.kp T.b_is_integer .nil pass0 (pa_cons (pv 1) pa_nil)))) pa_nil)))))), ?_⟩
    cases o with
    | none =>
      obtain ⟨t, ht, hk⟩ := hv
      refine ⟨_, rfl, _, _, _, _, _, rfl, .ty "tuple", ht, hk, false, rfl, ?_⟩
      exact iteF (q H (Same.refl _))
    | some os =>
      obtain ⟨xs, ⟨a, rfl, ha⟩, hp, hl⟩ := hv
      refine ⟨_, rfl, _, _, _, _, _, rfl, .ty "tuple", tyx_tup ha, kit_ty (r := true) (by decide +kernel), true, rfl, ?_⟩
      refine iteT ?_
      refine ⟨_, rfl, a, rfl, ⟨_, ha⟩, fun D hD => lc_it (walk_tup (K := K) (a := a) (xs := xs))
        (fun i H' => ∃ H0, Same H H0 ∧ H' = upd H0 D (.lst ((os.take i).map fun o => V.bl o.isSome))) ⟨H, Same.refl _, rfl⟩ ?_ ?_ ?_⟩
      · rintro i _ _ ⟨H0, e, rfl⟩
        exact (same_set hD e).tup ha
      · rintro i x _ _ hi ⟨H0, e, rfl⟩ ⟨rfl, hx⟩
        obtain ⟨y, hy, r⟩ := paired_at hp hx
        refine ⟨rfl, ?_⟩
        refine ⟨_, rfl, x, y, rfl, r.same (same_set hD e), _, upd_same, by rw [List.length_map, List.length_take]; exact line_le (by omega), H0, e, ?_⟩
        rw [upd_upd, take_map_add _ hy]
      · rintro _ ⟨H0, e, rfl⟩
        have hle : os.length = xs.length := hp.length.symm
        refine ⟨D, os.map (·.isSome), rfl, SqL.of (by rw [upd_same, ← hle, List.take_length, List.map_map]; rfl), ?_⟩
        have z := q _ (same_set (o := .lst ((os.take xs.length).map fun o => V.bl o.isSome)) hD e)
        rw [List.all_map]
        exact z
end
end K24
end
section
set_option maxRecDepth 100000
set_option maxHeartbeats 4000000
namespace K24
open PySem PySem.Spec PyProof.Rows L2 MB PM
open LamX hiding takes0
theorem all_ints {K : PySem.W.Frag} {H : Hp} {xs : List V} {os : List (Option Int)} (h : Paired (IntQ K H) xs os) (e : os.all (·.isSome) = true) : ∃ ns : List Int, os = ns.map some ∧ xs = ns.map V.int := by
  induction h with
  | nil => exact ⟨[], rfl, rfl⟩
  | @cons x o xs os r rs ih =>
    rw [List.all_cons, Bool.and_eq_true] at e
    obtain ⟨ns, e1, e2⟩ := ih e.2
    cases o with
    | none => exact absurd e.1 (by decide)
    | some i =>
      obtain rfl : x = .int i := r
      exact ⟨i :: ns, by rw [e1]; rfl, by rw [e2]; rfl⟩
theorem poly_snoc (ys : List Int) (c : Int) : isPoly (ys ++ [c]) = (c != 0) := by
  unfold isPoly
  rw [List.getLast?_concat]
  cases e : (c != 0) <;> simp_all
theorem dec_int (a b : Int) : decide (V.int a = V.int b) = decide (a = b) := by
  by_cases h : a = b
  · subst h
    simp
  · rw [decide_eq_false h, decide_eq_false (fun e => h (V.int.inj e))]
theorem snoc_of {α : Type} {l : List α} (h : l ≠ []) : ∃ ys c, l = ys ++ [c] := ⟨l.dropLast, l.getLast h, (List.dropLast_concat_getLast h).symm⟩
def polyQ : Option (List (Option Int)) → Bool
  | none => false
  | some os => os.all (·.isSome) && isPoly (os.filterMap id)
theorem polyQ_ints (ns : List Int) : polyQ (some (ns.map some)) = isPoly ns := by
  have e1 : (ns.map some).all (fun o : Option Int => o.isSome) = true := by
    rw [List.all_map]
    exact List.all_eq_true.mpr fun _ _ => rfl
  have e2 : (ns.map some).filterMap (id : Option Int → Option Int) = ns := by
    rw [List.filterMap_map]
    exact List.filterMap_some
  show ((ns.map some).all (fun o : Option Int => o.isSome) && isPoly ((ns.map some).filterMap (id : Option Int → Option Int))) = _
  rw [e1, e2, Bool.true_and]
section
variable {w : World} {K : PySem.W.Frag} {mg : Str → Option Value} {base : Heap}
def spPoly (K : PySem.W.Frag) : Sp := fun vs H Q _ => ∃ (v : V) (o : Option (List (Option Int))), vs = [v] ∧ Lev K H v o ∧ ∀ H', Same H H' → Q (.bl (polyQ o)) H'
theorem ok_is_polynomial (T : Txt K mg) : FnOk P w K mg base CX0 3 T.a_is_polynomial T.d_is_polynomial P_is_polynomial (spPoly K) := by
  refine T.F_is_polynomial.ok sc_is_polynomial (fun vs H Q E h => ?_) (fun cdv A outer s H vs Q E hr h => ?_)
  · obtain ⟨v, o, rfl, _⟩ := h
    rfl
  · obtain ⟨v, o, rfl, hv, q⟩ := h
    refine ⟨_, 
      (pss_one (ps_ret (pe_and (pe_call (ok_are_integers T) (hr.mono (by decide)) rfl T.m_are_integers T.F_are_integers.kp T.b_are_integers .nil pass0 (pa_cons (pv 0) pa_nil)) (pe_one (pe_or (pe_cmpR op_eq (pe_callB call_len_seq (by rfl) T.m_len (by decide +kernel) (pa_cons (pv 0) pa_nil)) pe_int (nomark _)) (pe_one (pe_cmpR op_ne (pe_ix (r := rIxT K) ix_tup (pv 0) (pe_un un_neg pe_int) (fun _ _ => rfl)) pe_int (nomark _)))))))), ?_⟩
    refine ⟨_, rfl, _, o, rfl, hv, fun H1 s1 => ⟨allInt o, rfl, ?_⟩⟩
    cases o with
    | none => exact iteF (q H1 s1)
    | some os =>
      refine ite2 (fun e => ?_) (fun e => ?_)
      · obtain ⟨xs, ⟨a, rfl, ha⟩, hp, hl⟩ := hv
        obtain ⟨ns, rfl, rfl⟩ := all_ints hp e
        rw [polyQ_ints] at q
        have h1 := s1.tup ha
        refine ⟨_, rfl, a, _, rfl, .inr h1, rfl, _, rfl, ?_⟩
        rw [dec_int]
        refine ite2 (fun e => ?_) (fun e => ?_)
        · have e' := of_decide_eq_true e
          rw [List.length_map] at e'
          obtain rfl : ns = [] := List.eq_nil_of_length_eq_zero (by omega)
          exact q H1 s1
        · obtain ⟨ys, c, rfl⟩ : ∃ ys c, ns = ys ++ [c] := snoc_of (by rintro rfl; exact e rfl)
          refine ⟨_, rfl, 1, rfl, a, _, _, .int c, rfl, rfl, h1, ?_, rfl, ?_⟩
          · rw [List.map_append]
            exact atI_last _ _
          · rw [dec_int]
            have z := q H1 s1
            rw [poly_snoc] at z
            have e2 : (!decide (c = 0)) = (c != 0) := by
              cases h : (c != 0) <;> simp_all
            rw [e2]
            exact z
      · have z := q H1 s1
        have e' : os.all (·.isSome) = false := by
          have : allInt (some os) = os.all (·.isSome) := rfl
          rw [← this]
          simpa using e
        have z2 : polyQ (some os) = false := by
          show (os.all (·.isSome) && isPoly (os.filterMap id)) = false
          rw [e', Bool.false_and]
        rw [z2] at z
        exact z
def spTrim (K : PySem.W.Frag) (C : Addr) : Sp := fun vs H Q E => ∃ (v : V) (o : Option (List (Option Int))), vs = [v] ∧ Lev K H v o ∧
  (allInt o = false → ∀ H', Same H H' → ∀ d, H' d = none → E (.ref C) (some d) (upd H' d (.xd [("thing", v)]))) ∧
  ∀ ns : List Int, o = some (ns.map some) → ∀ H' v', Same H H' → TI K H' v' (trimL ns) → Q v' H'
theorem allInt_ints (ns : List Int) : allInt (some (ns.map some)) = true := by
  show (ns.map some).all (fun o : Option Int => o.isSome) = true
  rw [List.all_map]
  exact List.all_eq_true.mpr fun _ _ => rfl
theorem ok_trimmed (T : Txt K mg) : FnOk P w K mg base (L2.CX P w) 3 T.a_trimmed T.d_trimmed P_trimmed (spTrim K T.C_BadPolynomial) := by
  refine T.F_trimmed.okX sc_trimmed (fun vs H Q E h => ?_) (fun cdv A outer s H vs Q E hr h => ?_)
  · obtain ⟨v, o, rfl, _⟩ := h
    rfl
  · obtain ⟨v, o, rfl, hv, bad, q⟩ := h
    refine ⟨_, 
      (pss_cons (ps_if (pt_not (pt_val (pe_call (ok_are_integers T) (hr.mono (by decide)) rfl T.m_are_integers T.F_are_integers.kp T.b_are_integers .nil pass0 (pa_cons (pv 0) pa_nil)))) (pss_one (ps_raiseErr rfl T.e_BadPolynomial hr (takes_of rfl rfl rfl rfl) (by exact (pa_cons (pv 0) pa_nil)) rfl)) pss_nil)
      (pss_cons (ps_set (i := 1) sc_trimmed.nd rfl (Or.inl rfl) (pe_callB call_len_seq (by rfl) T.m_len (by decide +kernel) (pa_cons (pv 0) pa_nil)))
      (pss_cons (ps_while (passes_of rfl) (PW.pt (pw_and (pt_cmpR op_gt (pv 1) pe_int (nomark _)) (pw_and1 (pt_cmpR op_eq (pe_ix (r := rIxT K) ix_tup (pv 0) (pe_op op_sub (pv 1) pe_int) (fun _ _ => rfl)) pe_int (nomark _))))) (pss_one (ps_set (i := 1) sc_trimmed.nd rfl (Or.inl rfl) (pe_op op_sub (pv 1) pe_int))))
      (pss_one (ps_ret (pe_slice sl_tupA (pv 0) po_none (po_some (pv 1)))))))), ?_⟩
    refine ⟨_, rfl, _, o, rfl, hv, fun H1 s1 => ⟨_, rfl, ?_⟩⟩
    rcases Bool.eq_false_or_eq_true (allInt o) with e | e
    · rw [e]
      refine iteF ?_
      obtain ⟨os, rfl⟩ : ∃ os, o = some os := by
        cases o with
        | none => exact absurd e (by decide)
        | some os => exact ⟨os, rfl⟩
      obtain ⟨xs, ⟨a, rfl, ha⟩, hp, hl⟩ := hv
      obtain ⟨ns, rfl, rfl⟩ := all_ints hp e
      have q := fun H' v' (s1 : Same H H') z => q ns rfl H' v' s1 z
      have h1 := s1.tup ha
      refine ⟨_, rfl, a, _, rfl, .inr h1, ?_⟩
      refine ⟨fun m σ H' => H' = H1 ∧ m ≤ ns.length ∧ σ = [some (.ref a), some (.int (m : Int))] ∧ trimL (ns.take m) = trimL ns,
        ⟨ns.length, rfl, Nat.le_refl _, by rw [List.length_map]; rfl, by rw [List.take_length]⟩, ?_⟩
      rintro m _ H1 ⟨rfl, hm, rfl, et⟩
      refine ⟨_, rfl, _, _, rfl, rfl, _, rfl, ?_⟩
      have cut : cutV (ns.map V.int) none (some (m : Int)) = (ns.take m).map V.int := by
        unfold cutV
        rw [HT.sIx_none, HT.sIx_nat, List.drop_zero, List.length_map, List.map_take]
        rw [show min m ns.length - 0 = m by omega]
      refine ite2 (fun e => ?_) (fun e => ?_)
      · have m0 : 0 < m := by
          have := of_decide_eq_true e
          omega
        obtain ⟨c, hc⟩ : ∃ c, ns[m - 1]? = some c := ⟨_, List.getElem?_eq_getElem (by omega)⟩
        have tk : ns.take m = ns.take (m - 1) ++ [c] := by
          have z := List.take_add_one (l := ns) (i := m - 1)
          rw [show m - 1 + 1 = m by omega, hc] at z
          exact z
        refine ⟨_, rfl, _, rfl, _, _, rfl, rfl, a, _, _, .int c, rfl, rfl, h1, ?_, rfl, _, rfl, ?_⟩
        · have z : ((m : Int) - 1) = ((m - 1 : Nat) : Int) := by omega
          rw [z]
          exact atI_nat (by rw [List.getElem?_map, hc]; rfl)
        · rw [dec_int]
          refine ite2 (fun e2 => ?_) (fun e2 => ?_)
          · have c0 := of_decide_eq_true e2
            subst c0
            refine ⟨fun σ' H' => H' = H1 ∧ σ' = [some (.ref a), some (.int ((m - 1 : Nat) : Int))], fun σ' H' ⟨e3, e4⟩ => ⟨m - 1, by omega, e3, by omega, e4, ?_⟩, ?_⟩
            · rw [← et, tk, trimL_snoc]
            · refine ⟨_, rfl, _, _, rfl, rfl, rfl, ?_⟩
              show [some (V.ref a), some (V.int ((m : Int) - 1))] = _
              rw [show ((m : Int) - 1) = ((m - 1 : Nat) : Int) by omega]
          · have ex : trimL (ns.take m) = ns.take m := by
              rw [tk]
              exact trimL_of_last (fun z => e2 (decide_eq_true z))
            refine ⟨_, rfl, _, rfl, _, rfl, a, _, rfl, h1, fun hw => ?_, fun hw p hp => ?_⟩
            · have hmn : m = ns.length := by
                have := hw.2
                rw [HT.sIx_nat, List.length_map] at this
                omega
              refine q _ _ s1 ⟨a, rfl, ?_⟩
              rw [← et, ex, hmn, List.take_length]
              exact h1
            · refine q _ _ (s1.trans (same_upd hp)) ⟨p, rfl, ?_⟩
              rw [cut, ← et, ex]
              exact SqT.of upd_same
      · have m0 : m = 0 := by
          have : ¬ ((0 : Int) < (m : Int)) := fun z => e (decide_eq_true z)
          omega
        have ex : trimL (ns.take m) = ns.take m := by
          rw [m0]
          rfl
        refine ⟨_, rfl, _, rfl, _, rfl, a, _, rfl, h1, fun hw => ?_, fun hw p hp => ?_⟩
        · have hmn : m = ns.length := by
            have := hw.2
            rw [HT.sIx_nat, List.length_map] at this
            omega
          refine q _ _ s1 ⟨a, rfl, ?_⟩
          rw [← et, ex, hmn, List.take_length]
          exact h1
        · refine q _ _ (s1.trans (same_upd hp)) ⟨p, rfl, ?_⟩
          rw [cut, ← et, ex]
          exact SqT.of upd_same
    · rw [e]
      refine iteT ?_
      exact ⟨_, rfl, v, rfl, fun d hd => bad e H1 s1 d hd⟩
end
theorem line_s {n : Nat} (h : n ≤ 100000) : n ≤ sizeLine := Nat.le_of_lt (line_le h)
def Flies (E : XK) (C : Addr) (v : V) (H : Hp) : Prop := ∀ d, H d = none → E (.ref C) (some d) (upd H d (.xd [("thing", v)]))
theorem poly_of {o : Option (List (Option Int))} (h : polyQ o = true) : ∃ ns : List Int, o = some (ns.map some) ∧ isPoly ns = true := by
  cases o with
  | none => cases h
  | some os =>
    have h' : (os.all (·.isSome) && isPoly (os.filterMap id)) = true := h
    rw [Bool.and_eq_true] at h'
    obtain ⟨h1, h2⟩ := h'
    have : ∃ ns : List Int, os = ns.map some ∧ os.filterMap id = ns := by
      clear h h2
      induction os with
      | nil => exact ⟨[], rfl, rfl⟩
      | cons d r ih =>
        rw [List.all_cons, Bool.and_eq_true] at h1
        obtain ⟨ns, e1, e2⟩ := ih h1.2
        cases d with
        | none => exact absurd h1.1 (by decide)
        | some c => exact ⟨c :: ns, by rw [e1]; rfl, by rw [← e2]; rfl⟩
    obtain ⟨ns, e1, e2⟩ := this
    exact ⟨ns, by rw [e1], by rw [← e2]; exact h2⟩
theorem some_inj : ∀ {as bs : List Int}, as.map some = bs.map some → as = bs
  | [], [], _ => rfl
  | [], _ :: _, h => by cases h
  | _ :: _, [], h => by cases h
  | a :: as, b :: bs, h => by
    rw [List.map_cons, List.map_cons, List.cons.injEq] at h
    rw [Option.some.inj h.1, some_inj h.2]
theorem lev_ti {K : PySem.W.Frag} {H : Hp} {v : V} {ns : List Int} (h : Lev K H v (some (ns.map some))) : TI K H v ns ∧ ns.length ≤ 1000 := by
  obtain ⟨xs, ⟨a, rfl, ha⟩, hp, hl⟩ := h
  obtain ⟨ms, e1, e2⟩ := all_ints hp (by rw [List.all_map]; exact List.all_eq_true.mpr fun _ _ => rfl)
  obtain rfl := some_inj e1
  rw [e2] at ha hl
  exact ⟨⟨a, rfl, ha⟩, by rw [List.length_map] at hl; exact hl⟩
theorem ti_lev {K : PySem.W.Frag} {H : Hp} {v : V} {ns : List Int} (h : TI K H v ns) (hl : ns.length ≤ 1000) : Lev K H v (some (ns.map some)) := by
  obtain ⟨a, rfl, ha⟩ := h
  refine ⟨ns.map V.int, ⟨a, rfl, ha⟩, ?_, by rw [List.length_map]; exact hl⟩
  clear ha hl
  induction ns with
  | nil => exact .nil
  | cons c r ih => exact .cons rfl ih
theorem Lev.same {K : PySem.W.Frag} {H H' : Hp} {v : V} {o : Option (List (Option Int))} (h : Lev K H v o) (e : Same H H') : Lev K H' v o := by
  cases o with
  | none => exact TupQ.same (o := none) h e
  | some os =>
    obtain ⟨xs, h1, h2, h3⟩ := h
    refine ⟨xs, TupQ.same h1 e, ?_, h3⟩
    clear h1 h3
    induction h2 with
    | nil => exact .nil
    | cons r _ ih => exact .cons (r.same e) ih
section
variable {w : World} {K : PySem.W.Frag} {mg : Str → Option Value} {base : Heap}
def spChk (K : PySem.W.Frag) (C : Addr) : Sp := fun vs H Q E => ∃ (v : V) (o : Option (List (Option Int))), vs = [v] ∧ Lev K H v o ∧ (polyQ o = false → ∀ H', Same H H' → Flies E C v H') ∧ (polyQ o = true → ∀ H', Same H H' → Q .non H')
theorem ok_check_polynomial (T : Txt K mg) : FnOk P w K mg base (L2.CX P w) 4 T.a_check_polynomial T.d_check_polynomial P_check_polynomial (spChk K T.C_BadPolynomial) := by
  refine T.F_check_polynomial.okX sc_check_polynomial (fun vs H Q E h => ?_) (fun cdv A outer s H vs Q E hr h => ?_)
  · obtain ⟨v, o, rfl, _⟩ := h
    rfl
  · obtain ⟨v, o, rfl, hv, bad, q⟩ := h
    refine ⟨_, 
      (pss_one (ps_if (pt_not (pt_val (pe_call (ok_is_polynomial T) (hr.mono (by decide)) rfl T.m_is_polynomial T.F_is_polynomial.kp T.b_is_polynomial .nil pass0 (pa_cons (pv 0) pa_nil)))) (pss_one (ps_raiseErr rfl T.e_BadPolynomial hr (takes_of rfl rfl rfl rfl) (by exact (pa_cons (pv 0) pa_nil)) rfl)) pss_nil)), ?_⟩
    refine ⟨_, rfl, v, o, rfl, hv, fun H1 s1 => ⟨_, rfl, ?_⟩⟩
    rcases Bool.eq_false_or_eq_true (polyQ o) with e | e
    · rw [e]
      exact iteF (q e H1 s1)
    · rw [e]
      exact iteT ⟨_, rfl, v, rfl, fun d hd => bad e H1 s1 d hd⟩
def spChk2 (K : PySem.W.Frag) (C : Addr) : Sp := fun vs H Q E => ∃ (u v : V) (ou ov : Option (List (Option Int))), vs = [u, v] ∧ Lev K H u ou ∧ Lev K H v ov ∧
  (polyQ ou = false → ∀ H', Same H H' → Flies E C u H') ∧ (polyQ ou = true → polyQ ov = false → ∀ H', Same H H' → Flies E C v H') ∧ (polyQ ou = true → polyQ ov = true → ∀ H', Same H H' → Q .non H')
theorem ok_check_two_polynomials (T : Txt K mg) : FnOk P w K mg base (L2.CX P w) 5 T.a_check_two_polynomials T.d_check_two_polynomials P_check_two_polynomials (spChk2 K T.C_BadPolynomial) := by
  refine T.F_check_two_polynomials.okX sc_check_two_polynomials (fun vs H Q E h => ?_) (fun cdv A outer s H vs Q E hr h => ?_)
  · obtain ⟨u, v, ou, ov, rfl, _⟩ := h
    rfl
  · obtain ⟨u, v, ou, ov, rfl, hu, hv, b1, b2, q⟩ := h
    refine ⟨_, 
      (pss_cons (ps_expr (pe_callS (ok_check_polynomial T) (hr.mono (by decide)) rfl T.m_check_polynomial T.F_check_polynomial.kp T.b_check_polynomial (fun σ => passAt (takes_of rfl rfl rfl rfl) σ) (pa_cons (pv 0) pa_nil)))
      (pss_one (ps_expr (pe_callS (ok_check_polynomial T) (hr.mono (by decide)) rfl T.m_check_polynomial T.F_check_polynomial.kp T.b_check_polynomial (fun σ => passAt (takes_of rfl rfl rfl rfl) σ) (pa_cons (pv 1) pa_nil))))), ?_⟩
    refine ⟨_, rfl, u, ou, rfl, hu, b1, fun e1 H1 s1 => ?_⟩
    exact ⟨_, rfl, v, ov, rfl, hv.same s1, fun e2 H2 s2 => b2 e1 e2 H2 (s1.trans s2), fun e2 H2 s2 => q e1 e2 H2 (s1.trans s2)⟩
end
end K24
end
section
set_option maxRecDepth 100000
set_option maxHeartbeats 4000000
set_option exponentiation.threshold 9000
namespace K24
open PySem PySem.Spec PyProof.Rows L2 MB PM
open LamX hiding takes0
section
variable {w : World} {K : PySem.W.Frag} {mg : Str → Option Value} {base : Heap}
def spPick (K : PySem.W.Frag) : Sp := fun vs H Q _ => ∃ (d l a : Addr) (xs : List V), vs = [.ref d, .ref a] ∧ SqAny K (hide d l H) a xs ∧ xs ≠ [] ∧ xs.length ≤ 1000 ∧ Deck kL H d l ∧
  ∀ (x : V) H', x ∈ xs → But d l H H' → Deck kL H' d l → Q x H'
theorem small_bits {k : Int} (h0 : 0 ≤ k) (h : k ≤ 1000000) : k.natAbs < 2 ^ 8000 :=
  Nat.lt_of_le_of_lt (show k.natAbs ≤ 2 ^ 20 by have : (2 : Nat) ^ 20 = 1048576 := rfl; omega) (Nat.pow_lt_pow_right (by decide) (by decide))
theorem ok__law_pick (T : Txt K mg) : FnOk P w K mg base CX0 2 T.a__law_pick T.d__law_pick P__law_pick (spPick K) := by
  refine T.F__law_pick.ok sc__law_pick (fun vs H Q E h => ?_) (fun cdv A outer s H vs Q E hr h => ?_)
  · obtain ⟨d, l, a, xs, rfl, _⟩ := h
    rfl
  · obtain ⟨d, l, a, xs, rfl, ha, hne, hl, D, q⟩ := h
    refine ⟨_, 
      (pss_one (ps_ret (pe_ix (r := rIx K) ix_seq (pv 1) (pe_call (ok__law_draw T) (hr.mono (by decide)) rfl T.m__law_draw T.F__law_draw.kp T.b__law_draw .nil pass0 (pa_cons (pv 0) (pa_cons (pe_callB call_len_seq (by rfl) T.m_len (by decide +kernel) (pa_cons (pv 1) pa_nil)) pa_nil))) (fun _ _ => rfl)))), ?_⟩
    have hp : 0 < xs.length := List.length_pos_iff.mpr hne
    have h0 : SqL K H a xs ∨ SqT K H a xs := (ha.same hide_sub).symm
    refine ⟨_, rfl, _, rfl, _, rfl, a, _, rfl, h0, d, l, _, rfl, ?_, ?_, D, fun r H1 r0 r1 e D1 => ?_⟩
    · omega
    · exact small_bits (by omega) (by omega)
    obtain ⟨k, rfl⟩ : ∃ k : Nat, r = (k : Int) := ⟨r.toNat, by omega⟩
    have hk : k < xs.length := by omega
    have ha1 : SqAny K H1 a xs := (ha.same e.hide).same hide_sub
    have fin := q _ _ (List.getElem_mem hk) e D1
    have ix : atI xs (k : Int) = some xs[k] := atI_nat (List.getElem?_eq_getElem hk)
    rcases ha1 with h | h
    · exact .inr (.inl ⟨a, _, _, xs[k], rfl, rfl, h, ix, fin⟩)
    · exact .inl ⟨a, _, _, xs[k], rfl, rfl, h, ix, fin⟩
theorem mil_le : ∀ i : Nat, i ≤ 6 → (1000000 : Int) ^ i ≤ 1000000000000000000000000000000000000 := by
  intro i h
  have : i = 0 ∨ i = 1 ∨ i = 2 ∨ i = 3 ∨ i = 4 ∨ i = 5 ∨ i = 6 := by omega
  rcases this with rfl | rfl | rfl | rfl | rfl | rfl | rfl <;> decide
theorem sign_abs {r x : Int} (r0 : 0 ≤ r) (r1 : r < 2) : ((1 - 2 * r) * x).natAbs = x.natAbs := by
  rw [Int.natAbs_mul]
  have : (1 - 2 * r).natAbs = 1 := by omega
  rw [this, Nat.one_mul]
theorem sign_bits {r : Int} (r0 : 0 ≤ r) (r1 : r < 2) : (1 - 2 * r).natAbs < 2 ^ 1 := by
  have : (1 - 2 * r).natAbs = 1 := by omega
  omega
def spFig : Sp := fun vs H Q _ => ∃ (d l : Addr), vs = [.ref d] ∧ Deck kL H d l ∧ ∀ (r : Int) H', r.natAbs < 10 ^ 40 → But d l H H' → Deck kL H' d l → Q (.int r) H'
theorem ok__law_figures (T : Txt K mg) : FnOk P w K mg base CX0 2 T.a__law_figures T.d__law_figures P__law_figures spFig := by
  refine T.F__law_figures.ok sc__law_figures (fun vs H Q E h => ?_) (fun cdv A outer s H vs Q E hr h => ?_)
  · obtain ⟨d, l, rfl, _⟩ := h
    rfl
  · obtain ⟨d, l, rfl, D, q⟩ := h
    refine ⟨_, 
      (pss_cons (ps_par3 (i := 1) (j := 2) (l := 3) (by rfl) sc__law_figures.nd rfl rfl rfl (by decide) (by decide) (by decide) rfl rfl rfl (pa_cons (pe_call (ok__law_draw T) (hr.mono (by decide)) rfl T.m__law_draw T.F__law_draw.kp T.b__law_draw .nil pass0 (pa_cons (pv 0) (pa_cons pe_int pa_nil))) (pa_cons (pe_op op_sub pe_int (pe_op op_mul pe_int (pe_call (ok__law_draw T) (hr.mono (by decide)) rfl T.m__law_draw T.F__law_draw.kp T.b__law_draw .nil pass0 (pa_cons (pv 0) (pa_cons pe_int pa_nil))))) (pa_cons pe_int pa_nil))) (by rfl))
      (pss_cons (ps_if (pt_cmpR op_eq (pv 1) pe_int (nomark _)) (pss_one (ps_ret pe_int)) pss_nil)
      (pss_cons (ps_if (pt_cmpR op_eq (pv 1) pe_int (nomark _)) (pss_one (ps_ret (pe_op op_mulW (pv 2) (pe_op op_sub (pe_op op_sub (pe_op op_pow pe_int pe_int) pe_int) (pe_call (ok__law_draw T) (hr.mono (by decide)) rfl T.m__law_draw T.F__law_draw.kp T.b__law_draw .nil pass0 (pa_cons (pv 0) (pa_cons pe_int pa_nil))))))) pss_nil)
      (pss_cons (ps_if (pt_cmpR op_lt (pv 1) pe_int (nomark _)) (pss_one (ps_ret (pe_op op_mulW (pv 2) (pe_call (ok__law_draw T) (hr.mono (by decide)) rfl T.m__law_draw T.F__law_draw.kp T.b__law_draw .nil pass0 (pa_cons (pv 0) (pa_cons (pe_ix (r := rIxT K) ix_tup (pe_tup (pa_cons pe_int (pa_cons pe_int (pa_cons pe_int (pa_cons pe_int (pa_cons pe_int pa_nil)))))) (pv 1) (fun _ _ => rfl)) pa_nil)))))) pss_nil)
      (pss_cons (ps_for PassesOwn.never rfl (pi_range1 rfl T.m_range (pa_cons (pe_op op_add pe_int (pe_call (ok__law_draw T) (hr.mono (by decide)) rfl T.m__law_draw T.F__law_draw.kp T.b__law_draw .nil pass0 (pa_cons (pv 0) (pa_cons pe_int pa_nil)))) pa_nil)) (pg_name (i := 4) sc__law_figures.nd rfl (Or.inl rfl)) (pss_one (ps_set (i := 3) sc__law_figures.nd rfl (Or.inl rfl) (pe_op op_add (pe_op op_mulW (pv 3) (pe_op op_pow pe_int pe_int)) (pe_call (ok__law_draw T) (hr.mono (by decide)) rfl T.m__law_draw T.F__law_draw.kp T.b__law_draw .nil pass0 (pa_cons (pv 0) (pa_cons (pe_op op_pow pe_int pe_int) pa_nil)))))))
      (pss_one (ps_ret (pe_op op_mulW (pv 2) (pv 3))))))))), ?_⟩
    refine ⟨_, rfl, d, l, 7, rfl, by decide, by decide, D, fun way H1 w0 w1 e1 D1 => ?_⟩
    refine ⟨_, rfl, d, l, 2, rfl, by decide, by decide, D1, fun sg H2 g0 g1 e2 D2 => ?_⟩
    have e12 := e1.trans e2
    have sb := sign_bits g0 g1
    refine ⟨_, _, rfl, rfl, .inl (by decide), _, _, rfl, rfl, _, _, _, rfl, ?_⟩
    refine ⟨_, rfl, rfl, _, rfl, ?_⟩
    rw [dec_int]
    refine ite2 (fun _ => q 0 _ (by decide) e12 D2) (fun h0 => ?_)
    refine ⟨_, rfl, rfl, _, rfl, ?_⟩
    rw [dec_int]
    refine ite2 (fun _ => ?_) (fun h1 => ?_)
    · refine ⟨_, rfl, _, _, rfl, rfl, ⟨by decide, by decide, by decide⟩, _, _, rfl, rfl, _, rfl, d, l, 50, rfl, by decide, by decide, D2, fun r H3 r0 r1 e3 D3 => ?_⟩
      have hb : ((10 : Int) ^ (40 : Int).toNat - 1 - r).natAbs < 10 ^ 40 := by
        have z : (10 : Int) ^ (40 : Int).toNat = 10000000000000000000000000000000000000000 := rfl
        rw [z]
        omega
      refine ⟨_, _, rfl, rfl, _, _, rfl, rfl, wide_mul sb (b := 140) (Nat.lt_trans hb (by decide)) (by decide) (by decide) (by decide), ?_⟩
      refine q _ _ ?_ (e12.trans e3) D3
      show ((1 - 2 * sg) * _).natAbs < _
      rw [sign_abs g0 g1]
      exact hb
    refine ⟨_, rfl, _, _, rfl, rfl, _, rfl, ?_⟩
    refine ite2 (fun h2 => ?_) (fun h2 => ?_)
    · have w2 : 2 ≤ way ∧ way < 5 := by
        have a0 : ¬ way = 0 := fun z => h0 (decide_eq_true z)
        have a1 : ¬ way = 1 := fun z => h1 (decide_eq_true z)
        have a2 := of_decide_eq_true h2
        omega
      refine ⟨_, rfl, _, rfl, (by decide : 5 ≤ sizeLine), fun p hp => ?_⟩
      have e3 := same_upd (o := .tup [.int 0, .int 0, .int 4, .int 13, .int 1000]) hp
      have D3 := D2.same e3
      obtain ⟨m, hm, hm0, hm1⟩ : ∃ m : Int, atI ([.int 0, .int 0, .int 4, .int 13, .int 1000] : List V) way = some (.int m) ∧ 0 < m ∧ m ≤ 1000 := by
        have : way = 2 ∨ way = 3 ∨ way = 4 := by omega
        rcases this with rfl | rfl | rfl
        · exact ⟨4, rfl, by decide, by decide⟩
        · exact ⟨13, rfl, by decide, by decide⟩
        · exact ⟨1000, rfl, by decide, by decide⟩
      refine ⟨_, rfl, p, _, _, _, rfl, rfl, SqT.of upd_same, hm, d, l, m, rfl, hm0, small_bits (by omega) (by omega), D3, fun r H4 r0 r1 e4 D4 => ?_⟩
      refine ⟨_, _, rfl, rfl, wide_mul sb (b := 20) (by omega) (by decide) (by decide) (by decide), ?_⟩
      refine q _ _ ?_ ((e12.same e3).trans e4) D4
      show ((1 - 2 * sg) * r).natAbs < _
      rw [sign_abs g0 g1]
      omega
    refine ⟨_, rfl, d, l, 6, rfl, by decide, by decide, D2, fun r H3 r0 r1 e3 D3 => ?_⟩
    refine ⟨_, _, rfl, rfl, _, rfl, by omega, by omega, for_range (lo := 0) (n := (1 + r).toNat)
      (fun i σ H' => ∃ (f : Int) (u : Option V), σ = [some (.ref d), some (.int way), some (.int (1 - 2 * sg)), some (.int f), u] ∧ But d l H H' ∧ Deck kL H' d l ∧ 0 ≤ f ∧ f < 1000000 ^ i)
      ⟨0, none, rfl, e12.trans e3, D3, by decide, by decide⟩ ?_ ?_⟩
    · rintro i _ H' hi ⟨f, u, rfl, e, D', f0, f1⟩
      have hi6 : i < 6 := by omega
      have f2 : f.natAbs < 2 ^ 120 := by
        have z := mil_le i (by omega)
        have z3 : (2 : Nat) ^ 120 = 1329227995784915872903807060280344576 := rfl
        omega
      refine ⟨_, rfl, _, _, rfl, rfl, ⟨by decide, by decide, by decide⟩, _, _, rfl, rfl, wide_mul f2 (b := 20) (by decide) (by decide) (by decide) (by decide), _, rfl, _, _, rfl, rfl, ⟨by decide, by decide, by decide⟩, d, l, _, rfl, by decide, by decide, D', fun x H4 x0 x1 e4 D4 => ?_⟩
      refine ⟨_, _, rfl, rfl, _, _, rfl, e.trans e4, D4, ?_, ?_⟩
      · show 0 ≤ f * 1000000 + x
        omega
      · show f * 1000000 + x < 1000000 ^ (i + 1)
        have x1' : x < 1000000 := x1
        rw [Int.pow_succ]
        omega
    · rintro _ H' ⟨f, u, rfl, e, D', f0, f1⟩
      have z := mil_le (1 + r).toNat (by omega)
      have fb : f.natAbs < 10 ^ 40 := by
        have z3 : (10 : Nat) ^ 40 = 10000000000000000000000000000000000000000 := rfl
        omega
      refine ⟨_, rfl, _, rfl, _, _, rfl, rfl, wide_mul sb (b := 140) (Nat.lt_trans fb (by decide)) (by decide) (by decide) (by decide), ?_⟩
      refine q _ _ ?_ e D'
      rw [sign_abs g0 g1]
      exact fb
end
end K24
end
section
set_option maxRecDepth 100000
set_option maxHeartbeats 4000000
set_option exponentiation.threshold 9000
namespace K24
open PySem PySem.Spec PyProof.Rows L2 MB PM
open LamX hiding takes0
section
variable {w : World} {K : PySem.W.Frag} {mg : Str → Option Value} {base : Heap}
def spPol (K : PySem.W.Frag) : Sp := fun vs H Q _ => ∃ (d l : Addr) (mo : Int), vs = [.ref d, .int mo] ∧ 0 ≤ mo ∧ mo ≤ 20 ∧ Deck kL H d l ∧
  ∀ (v : V) (ns : List Int) H', But d l H H' → Deck kL H' d l → TI K H' v ns → isPoly ns = true → ns.length ≤ 20 → (∀ c ∈ ns, c.natAbs < 10 ^ 40) → Q v H'
theorem ok__law_polynomial (T : Txt K mg) : FnOk P w K mg base CX0 3 T.a__law_polynomial T.d__law_polynomial P__law_polynomial (spPol K) := by
  refine T.F__law_polynomial.ok sc__law_polynomial (fun vs H Q E h => ?_) (fun cdv A outer s H vs Q E hr h => ?_)
  · obtain ⟨d, l, mo, rfl, _⟩ := h
    rfl
  · obtain ⟨d, l, mo, rfl, mo0, mo1, D, q⟩ := h
    refine ⟨_, 
      (pss_cons (ps_setLc (i := 2) (own := [("_law_turn", 3)]) (g := gName 3) (tt := tYes) rfl sc__law_polynomial.nd rfl rfl (sw_true rfl rfl rfl (by decide +kernel)) (pi_range1 rfl T.m_range (pa_cons (pe_callB (call_min2 rfl) (by rfl) T.m_min (by decide +kernel) (pa_cons (pv 1) (pa_cons (pe_call (ok__law_pick T) (hr.mono (by decide)) rfl T.m__law_pick T.F__law_pick.kp T.b__law_pick .nil pass0 (pa_cons (pv 0) (pa_cons (pe_tup (pa_cons pe_int (pa_cons pe_int (pa_cons pe_int (pa_cons pe_int (pa_cons pe_int (pa_cons pe_int (pa_cons pe_int (pa_cons pe_int (pa_cons pe_int (pa_cons pe_int pa_nil))))))))))) pa_nil))) pa_nil))) pa_nil)) (blkOk_by (own := [("_law_turn", 3)]) (N := N__law_polynomial) (sc := defScope s__law_polynomial) (by decide +kernel)) (fun _ _ _ _ _ => (pg_name (i := 3) sc__law_polynomial.nd rfl (Or.inl rfl))) (fun _ _ _ _ _ => pts_nil) (fun _ _ _ _ _ => (pe_call (ok__law_figures T) (hr.mono (by decide)) rfl T.m__law_figures T.F__law_figures.kp T.b__law_figures .nil pass0 (pa_cons (pv 0) pa_nil))))
      (pss_cons (ps_if (PW.pt (pw_and (pt_cmpR (op_neD hr.units) (pv 2) (pe_lst pa_nil) (nomark _)) (pw_and1 (pt_cmpR op_eq (pe_ix (r := rIxL K) ix_list (pv 2) (pe_un un_neg pe_int) (fun _ _ => rfl)) pe_int (nomark _))))) (pss_one (ps_asg (pe_op op_sub pe_int (pe_op op_mul pe_int (pe_call (ok__law_draw T) (hr.mono (by decide)) rfl T.m__law_draw T.F__law_draw.kp T.b__law_draw .nil pass0 (pa_cons (pv 0) (pa_cons pe_int pa_nil))))) (pg_sub (pv 2) (pe_un un_neg pe_int) set_list))) pss_nil)
      (pss_one (ps_ret (pe_callTy call_tuple_of (by rfl) T.m_tuple (by decide +kernel) (pa_cons (pv 2) pa_nil)))))), ?_⟩
    refine ⟨_, rfl, _, rfl, (by decide : 10 ≤ sizeLine), fun p hp => ?_⟩
    have e1 := same_upd (o := .tup [.int 3, .int 2, .int 4, .int 1, .int 5, .int 0, .int 8, .int 20, .int 2, .int 6]) hp
    have D1 := D.same e1
    refine ⟨d, l, p, [.int 3, .int 2, .int 4, .int 1, .int 5, .int 0, .int 8, .int 20, .int 2, .int 6], rfl, .inl (SqT.of (D.at_new hp)), by simp, by decide, D1, fun x H2 hx e2 D2 => ?_⟩
    obtain ⟨r, rfl, rb⟩ : ∃ r : Int, x = .int r ∧ 0 ≤ r ∧ r ≤ 20 := by
      simp only [List.mem_cons, List.not_mem_nil, or_false] at hx
      rcases hx with rfl | rfl | rfl | rfl | rfl | rfl | rfl | rfl | rfl | rfl <;> exact ⟨_, rfl, by decide, by decide⟩
    refine ⟨_, _, rfl, _, rfl, by split <;> omega, by split <;> omega, fun L hL => ?_⟩
    obtain ⟨L1, L2⟩ := D2.off hL
    have e12 : But d l H H2 := (But.of e1).trans e2
    refine lc_it (walk_range (lo := 0) (n := (if r < mo then r else mo).toNat))
      (fun i H' => But d l H2 H' ∧ Deck kL H' d l ∧ ∃ ns : List Int, ns.length = i ∧ (∀ c ∈ ns, c.natAbs < 10 ^ 40) ∧ H' L = some (.lst (ns.map V.int)))
      ⟨(But.refl (d := d) (l := l)).upd hL, D2.upd L1 L2, [], rfl, by simp, upd_same⟩ (fun _ _ _ _ => trivial) ?_ ?_
    · rintro i x H' _ hi ⟨e, D', ns, hn, hb, hN⟩ ⟨rfl, rfl⟩
      have hi20 : i < 20 := by split at hi <;> omega
      refine ⟨rfl, ?_⟩
      refine ⟨_, rfl, d, l, rfl, D', fun c H4 hc e4 D4 => ?_⟩
      have hN4 := e4 _ _ hN L1 L2
      refine ⟨_, hN4, ?_, (e.trans e4).upd hL, D4.upd L1 L2, ns ++ [c], by rw [List.length_append, hn]; rfl, ?_, ?_⟩
      · rw [List.length_map, hn]
        exact line_le (by omega)
      · intro z hz
        rcases List.mem_append.mp hz with hz | hz
        · exact hb z hz
        · rw [List.mem_singleton.mp hz]
          exact hc
      · rw [upd_same, List.map_append]
        rfl
    · rintro H' ⟨e, D', ns, hn, hb, hN⟩
      have hn20 : ns.length ≤ 20 := by
        rw [hn]
        split <;> omega
      refine ⟨_, rfl, (by decide : 0 ≤ sizeLine), fun p3 hp3 => ?_⟩
      have e3 := same_upd (o := .lst []) hp3
      have hN3 := e3 _ _ hN
      have D3 := D'.same e3
      refine ne_nil_rd (SqL.of hN3) (SqL.of upd_same) ⟨_, rfl, ?_⟩
      have eAll : But d l H (upd H' p3 (.lst [])) := (e12.trans e).same e3
      cases hns : ns with
      | nil =>
        refine iteF ?_
        refine ⟨_, rfl, L, _, rfl, .inl ⟨SqL.of hN3, fun p4 hp4 => ?_⟩⟩
        refine q _ ns _ (eAll.same (same_upd hp4)) (D3.same (same_upd hp4)) ⟨p4, rfl, SqT.of upd_same⟩ ?_ hn20 hb
        rw [hns]
        rfl
      | cons c0 cr =>
        refine iteT ?_
        obtain ⟨ys, c, hys⟩ : ∃ ys c, ns = ys ++ [c] := snoc_of (by rw [hns]; simp)
        clear hns
        subst hys
        have eN : (ys ++ [c]).map V.int = ys.map V.int ++ [V.int c] := by rw [List.map_append]; rfl
        refine ⟨_, rfl, 1, rfl, L, _, _, .int c, rfl, rfl, SqL.of hN3, by rw [eN]; exact atI_last _ _, rfl, _, rfl, ?_⟩
        rw [dec_int]
        refine ite2 (fun _ => ?_) (fun hc => ?_)
        ·
          refine ⟨_, rfl, d, l, 2, rfl, by decide, by decide, D3, fun g H5 g0 g1 e5 D5 => ?_⟩
          have hN5 := e5 _ _ hN3 L1 L2
          have LH : H L = none := by
            have : H2 L = none := hL
            exact e12.free D2 this
          refine ⟨_, _, rfl, rfl, .inl (by decide), _, _, rfl, rfl, _, rfl, 1, rfl, L, _, _, ys.length, rfl, rfl, hN5, ?_, ?_⟩
          · rw [eN]
            show ixN (ys.map V.int ++ [V.int c]).length (-1) = _
            unfold ixN
            rw [if_neg (by decide), List.length_append, List.length_map, List.length_singleton, if_pos (by omega)]
            congr 1
            omega
          · have eS : ((ys ++ [c]).map V.int).set ys.length (.int (1 - 2 * g)) = (ys ++ [1 - 2 * g]).map V.int := by
              rw [eN, List.set_append_right _ _ (by rw [List.length_map]; omega), List.length_map, Nat.sub_self]
              simp
            have hN6 : (upd H5 L (.lst (((ys ++ [c]).map V.int).set ys.length (.int (1 - 2 * g))))) L = some (.lst ((ys ++ [1 - 2 * g]).map V.int)) := by
              rw [upd_same, eS]
            refine ⟨_, rfl, L, _, rfl, .inl ⟨SqL.of hN6, fun p4 hp4 => ?_⟩⟩
            refine q _ (ys ++ [1 - 2 * g]) _ ?_ ((D5.upd L1 L2).same (same_upd hp4)) ⟨p4, rfl, SqT.of upd_same⟩ ?_ ?_ ?_
            · exact ((eAll.trans e5).upd LH).same (same_upd hp4)
            · rw [poly_snoc]
              have : 1 - 2 * g ≠ 0 := by omega
              simpa using this
            · rw [List.length_append] at hn20 ⊢
              exact hn20
            · intro z hz
              rcases List.mem_append.mp hz with hz | hz
              · exact hb z (List.mem_append_left _ hz)
              · rw [List.mem_singleton.mp hz]
                have : (1 - 2 * g).natAbs = 1 := by omega
                rw [this]
                decide
        · refine ⟨_, rfl, L, _, rfl, .inl ⟨SqL.of hN3, fun p4 hp4 => ?_⟩⟩
          refine q _ (ys ++ [c]) _ (eAll.same (same_upd hp4)) (D3.same (same_upd hp4)) ⟨p4, rfl, SqT.of upd_same⟩ ?_ hn20 hb
          rw [poly_snoc]
          have : c ≠ 0 := fun z => hc (decide_eq_true z)
          simpa using this
end
end K24
end
section
set_option maxRecDepth 100000
set_option maxHeartbeats 4000000
namespace K24
open PySem PySem.Spec PyProof.Rows L2 MB PM
open LamX hiding takes0
section
variable {w : World} {K : PySem.W.Frag} {mg : Str → Option Value} {base : Heap}
def spSame (K : PySem.W.Frag) : Sp := fun vs H Q _ => ∃ (u v : V) (dd : PyData), vs = [u, v] ∧ Dq K H u dd ∧ Dq K H v dd ∧ Told dd ∧ Q (.bl true) H
theorem ok__law_same (T : Txt K mg) (sm : SM base) : FnG P w K mg base 1 T.a__law_same T.d__law_same P__law_same (spSame K) := by
  refine fnG T.F__law_same sc__law_same (fun vs H Q E h => ?_) (fun cdv A outer s H vs Q E hr hgu h => ?_)
  · obtain ⟨u, v, dd, rfl, _⟩ := h
    rfl
  · obtain ⟨u, v, dd, rfl, hu, hv, ht, q⟩ := h
    refine ⟨_, 
      (pss_one (ps_ret (pe_cmpR op_eq (pe_callB (call_tell sm hgu hr.units) (by rfl) T.m_repr (by decide +kernel) (pa_cons (pv 0) pa_nil)) (pe_callB (call_tell sm hgu hr.units) (by rfl) T.m_repr (by decide +kernel) (pa_cons (pv 1) pa_nil)) (nomark _)))), ?_⟩
    refine ⟨_, rfl, _, dd, rfl, hu, ht, _, rfl, _, dd, rfl, hv, ht, rfl, ?_⟩
    rw [decide_eq_true rfl]
    exact q
def bads (os : List (Option Int)) : Nat := (os.filter (·.isNone)).length
theorem bads_add {os : List (Option Int)} {i : Nat} {y : Option Int} (h : os[i]? = some y) : bads (os.take (i + 1)) = bads (os.take i) + (if y.isNone then 1 else 0) := by
  unfold bads
  rw [List.take_add_one, h, List.filter_append, List.length_append]
  cases y <;> rfl
theorem bads_le (os : List (Option Int)) (i : Nat) : bads (os.take i) ≤ os.length := by
  unfold bads
  exact Nat.le_trans (List.length_filter_le _ _) (by rw [List.length_take]; omega)
theorem bads_all : ∀ os : List (Option Int), (List.replicate (bads os) (1 : Int)).isEmpty = os.all (·.isSome)
  | [] => rfl
  | none :: r => rfl
  | some z :: r => by
    have ih := bads_all r
    have e : bads (some z :: r) = bads r := by
      unfold bads
      rw [List.filter_cons_of_neg (by simp)]
    rw [e, ih]
    rfl
def spIsPoly (K : PySem.W.Frag) : Sp := fun vs H Q _ => ∃ (v : V) (o : Option (List (Option Int))), vs = [v] ∧ Lev K H v o ∧ ∀ H', Same H H' → Q (.bl (polyQ o)) H'
theorem ok__law_is_polynomial (T : Txt K mg) : FnOk P w K mg base CX0 1 T.a__law_is_polynomial T.d__law_is_polynomial P__law_is_polynomial (spIsPoly K) := by
  refine T.F__law_is_polynomial.ok sc__law_is_polynomial (fun vs H Q E h => ?_) (fun cdv A outer s H vs Q E hr h => ?_)
  · obtain ⟨v, o, rfl, _⟩ := h
    rfl
  · obtain ⟨v, o, rfl, hv, q⟩ := h
    refine ⟨_, 
      (pss_cons (ps_if (pt_not (pt_val (pe_callB (id := "isinstance") (r := rIsi K) call_isi (by rfl) T.m_isinstance (by decide +kernel) (pa_cons (pv 0) (pa_cons (pe_bltn (by rfl) T.m_tuple (v := .ty "tuple") (by decide +kernel) rfl) pa_nil))))) (pss_one (ps_ret pe_bl)) pss_nil)
      (pss_cons (ps_if (pt_cmpR (op_neD hr.units) (pe_lc (own := [("_law_it", 1)]) (g := gName 1)  rfl sc__law_is_polynomial.nd (pi_tup (pv 0)) (blkOk_by (own := [("_law_it", 1)]) (N := N__law_is_polynomial) (sc := defScope s__law_is_polynomial) (by decide +kernel)) (fun _ _ _ _ _ => (pg_name (i := 1) sc__law_is_polynomial.nd rfl (Or.inl rfl))) (fun _ _ _ _ _ => (pts_one (PW.pt (pw_or (pt_not (pt_val (pe_callB (id := "isinstance") (r := rIsi K) call_isi (by rfl) T.m_isinstance (by decide +kernel) (pa_cons (pv 1) (pa_cons (pe_bltn (by rfl) T.m_int (v := .ty "int") (by decide +kernel) rfl) pa_nil))))) (pw_or1 (pt_val (pe_callB (id := "isinstance") (r := rIsi K) call_isi (by rfl) T.m_isinstance (by decide +kernel) (pa_cons (pv 1) (pa_cons (pe_bltn (by rfl) T.m_bool (v := .ty "bool") (by decide +kernel) rfl) pa_nil))))))))) (fun _ _ _ _ _ => pe_int)) (pe_lst pa_nil) (nomark _)) (pss_one (ps_ret pe_bl)) pss_nil)
      (pss_one (ps_ret (pe_or (pe_cmpR (op_eqD hr.units) (pv 0) (pe_tup pa_nil) (nomark _)) (pe_one (pe_cmpR op_ne (pe_ix (r := rIxT K) ix_tup (pv 0) (pe_un un_neg pe_int) (fun _ _ => rfl)) pe_int (nomark _)))))))), ?_⟩
    cases o with
    | none =>
      obtain ⟨t, ht, hk⟩ := hv
      refine ⟨_, rfl, _, _, _, _, _, rfl, .ty "tuple", ht, hk, false, rfl, ?_⟩
      exact iteT (q H (Same.refl _))
    | some os =>
      obtain ⟨xs, ⟨a, rfl, ha⟩, hp, hl⟩ := hv
      refine ⟨_, rfl, _, _, _, _, _, rfl, .ty "tuple", tyx_tup ha, kit_ty (r := true) (by decide +kernel), true, rfl, ?_⟩
      refine iteF ?_
      refine ⟨_, rfl, a, rfl, ⟨_, ha⟩, fun D hD => lc_it (walk_tup (K := K) (a := a) (xs := xs))
        (fun i H' => ∃ H0, Same H H0 ∧ H' = upd H0 D (.lst ((List.replicate (bads (os.take i)) (1 : Int)).map V.int))) ⟨H, Same.refl _, rfl⟩ ?_ ?_ ?_⟩
      · rintro i _ _ ⟨H0, e, rfl⟩
        exact (same_set hD e).tup ha
      · rintro i x _ _ hi ⟨H0, e, rfl⟩ ⟨rfl, hx⟩
        obtain ⟨y, hy, r⟩ := paired_at hp hx
        have r1 := r.same (same_set (o := .lst ((List.replicate (bads (os.take i)) (1 : Int)).map V.int)) hD e)
        have tk := bads_add hy
        refine ⟨rfl, ?_⟩
        have le := bads_le os i
        have hlo : os.length = xs.length := hp.length.symm
        have put : y.isNone = true → ∃ H0', Same H H0' ∧ upd (upd H0 D (.lst ((List.replicate (bads (os.take i)) (1 : Int)).map V.int))) D (.lst ((List.replicate (bads (os.take i)) (1 : Int)).map V.int ++ [V.int 1])) =
            upd H0' D (.lst ((List.replicate (bads (os.take (i + 1))) (1 : Int)).map V.int)) := fun z => by
          refine ⟨H0, e, ?_⟩
          rw [upd_upd, tk, z, if_pos rfl, List.replicate_succ', List.map_append]
          rfl
        have sz : ((List.replicate (bads (os.take i)) (1 : Int)).map V.int).length < sizeLine := by
          rw [List.length_map, List.length_replicate]
          exact line_le (by omega)
        cases y with
        | some z =>
          obtain rfl : x = .int z := r
          refine ⟨_, rfl, _, _, _, _, _, rfl, .ty "int", .base (.int z), kit_ty (r := true) (by decide +kernel), true, rfl, ?_⟩
          refine iteF ⟨_, rfl, _, _, _, _, _, rfl, .ty "bool", .base (.int z), kit_ty (r := false) (by decide +kernel), false, rfl, iteF ⟨H0, e, ?_⟩⟩
          rw [tk]
          rfl
        | none =>
          rcases r1 with ⟨b, rfl⟩ | ⟨t, ht, hk⟩
          · refine ⟨_, rfl, _, _, _, _, _, rfl, .ty "int", .base (.bl b), kit_ty (r := true) (by decide +kernel), true, rfl, ?_⟩
            refine iteF ⟨_, rfl, _, _, _, _, _, rfl, .ty "bool", .base (.bl b), kit_ty (r := true) (by decide +kernel), true, rfl, iteT ?_⟩
            exact ⟨_, upd_same, sz, put rfl⟩
          · refine ⟨_, rfl, _, _, _, _, _, rfl, .ty "int", ht, hk, false, rfl, ?_⟩
            refine iteT (iteT ?_)
            exact ⟨_, upd_same, sz, put rfl⟩
      · rintro _ ⟨H0, e, rfl⟩
        refine ⟨(by decide : 0 ≤ sizeLine), fun p hp2 => ?_⟩
        have e2 := same_upd (o := .lst []) hp2
        have hle : os.length = xs.length := hp.length.symm
        have ev : (List.replicate (bads (os.take xs.length)) (1 : Int)).isEmpty = os.all (·.isSome) := by
          rw [← hle, List.take_length]
          exact bads_all os
        refine ne_nil_rd (SqL.of (e2 _ _ upd_same)) (SqL.of upd_same) ⟨_, rfl, ?_⟩
        rw [ev]
        have s2 := (same_set (o := .lst ((List.replicate (bads (os.take xs.length)) (1 : Int)).map V.int)) hD e).trans e2
        generalize upd (upd H0 D (.lst ((List.replicate (bads (os.take xs.length)) (1 : Int)).map V.int))) p (.lst []) = H2 at s2
        cases hall : os.all (·.isSome) with
        | false =>
          refine iteT ?_
          have z := q H2 s2
          have z2 : polyQ (some os) = false := by
            show (os.all (·.isSome) && isPoly (os.filterMap id)) = false
            rw [hall, Bool.false_and]
          rw [z2] at z
          exact z
        | true =>
          refine iteF ?_
          obtain ⟨ns, rfl, rfl⟩ := all_ints hp hall
          rw [polyQ_ints] at q
          have h1 := s2.tup ha
          refine ⟨_, rfl, (by decide : 0 ≤ sizeLine), fun p3 hp3 => ?_⟩
          have e0 := same_upd (o := .tup []) hp3
          have h1' := sqT_same e0 h1
          refine ⟨.tuple (ns.map PyData.int), .tuple [], .tup h1' (dp_ints ns), .tup (SqT.of upd_same) .nil, tup_shaped ns, tup_shaped [], ?_⟩
          rw [eqv_tnil]
          refine ⟨ns.isEmpty, rfl, ?_⟩
          cases hns : ns.isEmpty with
          | true =>
            obtain rfl : ns = [] := List.isEmpty_iff.mp hns
            exact iteT (q _ (s2.trans e0))
          | false =>
            obtain ⟨ys, c, rfl⟩ : ∃ ys c, ns = ys ++ [c] := snoc_of (by rintro rfl; cases hns)
            refine iteF ⟨_, rfl, 1, rfl, a, _, _, .int c, rfl, rfl, h1', by rw [List.map_append]; exact atI_last _ _, rfl, ?_⟩
            rw [dec_int]
            have z := q _ (s2.trans e0)
            rw [poly_snoc] at z
            have e2 : (!decide (c = 0)) = (c != 0) := by
              cases h : (c != 0) <;> simp_all
            rw [e2]
            exact z
end
end K24
end
section
set_option maxRecDepth 100000
set_option maxHeartbeats 4000000
namespace K24
open PySem PySem.Spec PyProof.Rows L2 MB PM
open LamX hiding takes0
def odd1 : List PyData := [.none, .bool true, .bool false, .int 0, .int 1, .int (-1), .int 2, .str "", .str "0", .tuple [], .tuple [.tuple []], .list [], .dict [], .tuple [.int 0], .tuple [.int 0, .int 1], .list [.int 0, .int 1],
  .tuple [.int 1, .int 0], .int (10 ^ (39 : Int).toNat), .str "a b\n~"]
def odd2 : List PyData := [.dict [(.str "a", .tuple [.int 1, .int 2])], .tuple [.tuple [.int 0, .int 1], .int 1], .tuple [.int 0, .int 0, .int 0, .int 1], .tuple [.int 0, .int 1, .int 1, .int 1], .tuple [.none, .int 0], .int (-(10 ^ (39 : Int).toNat)),
  .tuple [.str "0", .int 1], .tuple [.int 0, .int 2]]
def odd3 (es : List PyData) : List PyData := [.list es, .tuple (es ++ [.int 0]), .tuple (MB.cutD es (some 1) none), .tuple (MB.cutD es none (some (-1))), .tuple es.reverse, .tuple (es ++ MB.cutD es none (some 1)), .tuple [.tuple es], .tuple (MB.cutD es none (some 1) ++ es)]
def odd4 (i : Int) : List PyData := [.int (i + 1), .int (i - 1), .int (-i), .bool (decide (i = 1)), .list [.int i], .tuple [.int i], .str (Str.ofString (toString i)), .int (i + 256)]
theorem cp39 : CPow 10 39 := ⟨by decide, by decide, by decide⟩
def OddOf : PyData → Prop
  | .none => True
  | .int i => i.natAbs < 10 ^ 40
  | .tuple es => ∃ ns : List Int, es = ns.map PyData.int ∧ ns.length ≤ 25 ∧ ∀ c ∈ ns, c.natAbs < 10 ^ 40
  | _ => False
theorem odd12_sz : ∀ dd ∈ odd1 ++ odd2, Sz 80 4 dd := by
  unfold odd1 odd2
  intro dd hm
  simp only [List.cons_append, List.nil_append, List.mem_cons, List.not_mem_nil, or_false] at hm
  rcases hm with rfl | rfl | rfl | rfl | rfl | rfl | rfl | rfl | rfl | rfl | rfl | rfl | rfl | rfl | rfl | rfl | rfl | rfl | rfl | rfl | rfl | rfl | rfl | rfl | rfl | rfl | rfl <;>
    exact ⟨by decide +kernel, by decide +kernel, by decide +kernel, by decide +kernel⟩
theorem rep_mem {n : Nat} {ds : List PyData} {dd : PyData} (h : dd ∈ (List.replicate n ds).flatten) : dd ∈ ds := by
  obtain ⟨l, h1, h2⟩ := List.mem_flatten.mp h
  rw [List.eq_of_mem_replicate h1] at h2
  exact h2
theorem big_int {i j : Int} (h : i.natAbs < 10 ^ 40) (h2 : j.natAbs ≤ i.natAbs + 300) : j.natAbs < 10 ^ 42 := by
  have e : (10 : Nat) ^ 40 + 300 < 10 ^ 42 := by decide
  exact Nat.lt_trans (Nat.lt_of_le_of_lt h2 (Nat.add_lt_add_right h 300)) e
theorem odd4_sz {i : Int} (h : i.natAbs < 10 ^ 40) : ∀ dd ∈ odd4 i, Sz 80 4 dd := by
  intro dd hm
  have one : SzAll 1 0 [PyData.int i] := (szAll_cons (b := 0) (k := 0) (sz_int (Nat.lt_trans h (by decide))) (szAll_nil (b := 0) (k := 0))).mono (by decide) (by decide)
  simp only [odd4, List.mem_cons, List.not_mem_nil, or_false] at hm
  rcases hm with rfl | rfl | rfl | rfl | rfl | rfl | rfl | rfl
  · exact sz_int (big_int h (by omega))
  · exact sz_int (big_int h (by omega))
  · exact sz_int (big_int h (by omega))
  · exact sz_bool
  · exact (sz_lst one).mono
  · exact (sz_tup one).mono
  · refine sz_text ?_
    have := int_text_length_le10 (k := 40) (by decide) h
    omega
  · exact sz_int (big_int h (by omega))
theorem sz_ints {ms : List Int} (hl : ms.length ≤ 60) (hb : ∀ c ∈ ms, c.natAbs < 10 ^ 40) : SzAll 60 0 (ms.map PyData.int) :=
  (szAll_ints (k := 0) ms fun c hc => Nat.lt_trans (hb c hc) (by decide)).mono hl (by decide)
theorem cut_ints (ns : List Int) (lo hi : Option Int) : ∃ ms : List Int, MB.cutD (ns.map PyData.int) lo hi = ms.map PyData.int ∧ ms.length ≤ ns.length ∧ ∀ c ∈ ms, c ∈ ns := by
  refine ⟨(ns.drop (HT.sIx ns.length 0 lo)).take (HT.sIx ns.length ns.length hi - HT.sIx ns.length 0 lo), ?_, ?_, ?_⟩
  · unfold MB.cutD
    rw [List.length_map, List.map_take, List.map_drop]
  · rw [List.length_take, List.length_drop]
    omega
  · intro c hc
    exact List.mem_of_mem_drop (List.mem_of_mem_take hc)
theorem odd3_sz {ns : List Int} (hl : ns.length ≤ 25) (hb : ∀ c ∈ ns, c.natAbs < 10 ^ 40) : ∀ dd ∈ odd3 (ns.map PyData.int), Sz 80 4 dd := by
  intro dd hm
  have z0 : SzAll 60 0 (ns.map PyData.int) := sz_ints (by omega) hb
  simp only [odd3, List.mem_cons, List.not_mem_nil, or_false] at hm
  rcases hm with rfl | rfl | rfl | rfl | rfl | rfl | rfl | rfl
  · exact (sz_lst z0).mono
  · have e : ns.map PyData.int ++ [PyData.int 0] = (ns ++ [0]).map PyData.int := by rw [List.map_append]; rfl
    rw [e]
    refine (sz_tup (sz_ints (by rw [List.length_append]; simp; omega) fun c hc => ?_)).mono
    rcases List.mem_append.mp hc with hc | hc
    · exact hb c hc
    · rw [List.mem_singleton.mp hc]
      decide
  · obtain ⟨ms, e, l1, m1⟩ := cut_ints ns (some 1) none
    rw [e]
    exact (sz_tup (sz_ints (by omega) fun c hc => hb c (m1 c hc))).mono
  · obtain ⟨ms, e, l1, m1⟩ := cut_ints ns none (some (-1))
    rw [e]
    exact (sz_tup (sz_ints (by omega) fun c hc => hb c (m1 c hc))).mono
  · rw [← List.map_reverse]
    exact (sz_tup (sz_ints (by rw [List.length_reverse]; omega) fun c hc => hb c (List.mem_reverse.mp hc))).mono
  · obtain ⟨ms, e, l1, m1⟩ := cut_ints ns none (some 1)
    rw [e, ← List.map_append]
    refine (sz_tup (sz_ints (by rw [List.length_append]; omega) fun c hc => ?_)).mono
    rcases List.mem_append.mp hc with hc | hc
    · exact hb c hc
    · exact hb c (m1 c hc)
  · have z := szAll_cons (sz_tup z0) (szAll_nil (b := 0) (k := 1))
    exact (sz_tup z).mono
  · obtain ⟨ms, e, l1, m1⟩ := cut_ints ns none (some 1)
    rw [e, ← List.map_append]
    refine (sz_tup (sz_ints (by rw [List.length_append]; omega) fun c hc => ?_)).mono
    rcases List.mem_append.mp hc with hc | hc
    · exact hb c (m1 c hc)
    · exact hb c hc
section
variable {w : World} {K : PySem.W.Frag} {mg : Str → Option Value} {base : Heap}
def spOdd (K : PySem.W.Frag) : Sp := fun vs H Q _ => ∃ (d l : Addr) (v : V) (dv : PyData), vs = [.ref d, v] ∧ Deck kL H d l ∧ Dq K (hide d l H) v dv ∧ OddOf dv ∧
  ∀ (x : V) (dd : PyData) H', But d l H H' → Deck kL H' d l → Dq K (hide d l H') x dd → Sz 80 4 dd → Q x H'
theorem ok__law_odd (T : Txt K mg) : FnOk P w K mg base CX0 3 T.a__law_odd T.d__law_odd P__law_odd (spOdd K) := by
  refine T.F__law_odd.ok sc__law_odd (fun vs H Q E h => ?_) (fun cdv A outer s H vs Q E hr h => ?_)
  · obtain ⟨d, l, v, dv, rfl, _⟩ := h
    rfl
  · obtain ⟨d, l, v, dv, rfl, D, hv, ho, q⟩ := h
    refine ⟨_, 
      (pss_cons (ps_set (i := 2) sc__law_odd.nd rfl (Or.inl rfl) (pe_lst (pa_cons pe_non (pa_cons pe_bl (pa_cons pe_bl (pa_cons pe_int (pa_cons pe_int (pa_cons (pe_un un_neg pe_int) (pa_cons pe_int (pa_cons pe_str (pa_cons pe_str (pa_cons (pe_tup pa_nil) (pa_cons (pe_tup (pa_cons (pe_tup pa_nil) pa_nil)) (pa_cons (pe_lst pa_nil) (pa_cons pe_dnewK (pa_cons (pe_tup (pa_cons pe_int pa_nil)) (pa_cons (pe_tup (pa_cons pe_int (pa_cons pe_int pa_nil))) (pa_cons (pe_lst (pa_cons pe_int (pa_cons pe_int pa_nil))) (pa_cons (pe_tup (pa_cons pe_int (pa_cons pe_int pa_nil))) (pa_cons (pe_op op_pow pe_int pe_int) (pa_cons pe_str pa_nil)))))))))))))))))))))
      (pss_cons (ps_set (i := 2) sc__law_odd.nd rfl (Or.inl rfl) (pe_op op_cat (pv 2) (pe_lst (pa_cons (pe_disp (pps_cons pe_str (pe_tup (pa_cons pe_int (pa_cons pe_int pa_nil))) pps_nil) (by rfl) (by rfl) (fun z => by cases z) (by decide)) (pa_cons (pe_tup (pa_cons (pe_tup (pa_cons pe_int (pa_cons pe_int pa_nil))) (pa_cons pe_int pa_nil))) (pa_cons (pe_tup (pa_cons pe_int (pa_cons pe_int (pa_cons pe_int (pa_cons pe_int pa_nil))))) (pa_cons (pe_tup (pa_cons pe_int (pa_cons pe_int (pa_cons pe_int (pa_cons pe_int pa_nil))))) (pa_cons (pe_tup (pa_cons pe_non (pa_cons pe_int pa_nil))) (pa_cons (pe_un un_neg (pe_op op_pow pe_int pe_int)) (pa_cons (pe_tup (pa_cons pe_str (pa_cons pe_int pa_nil))) (pa_cons (pe_tup (pa_cons pe_int (pa_cons pe_int pa_nil))) pa_nil)))))))))))
      (pss_cons (ps_if (pt_val (pe_callB (id := "isinstance") (r := rIsi K) call_isi (by rfl) T.m_isinstance (by decide +kernel) (pa_cons (pv 1) (pa_cons (pe_bltn (by rfl) T.m_tuple (v := .ty "tuple") (by decide +kernel) rfl) pa_nil)))) (pss_one (ps_set (i := 2) sc__law_odd.nd rfl (Or.inl rfl) (pe_op op_cat (pv 2) (pe_op op_rep (pe_lst (pa_cons (pe_callTy call_list_of (by rfl) T.m_list (by decide +kernel) (pa_cons (pv 1) pa_nil)) (pa_cons (pe_op op_catA (pv 1) (pe_tup (pa_cons pe_int pa_nil))) (pa_cons (pe_slice sl_tupA (pv 1) (po_some pe_int) po_none) (pa_cons (pe_slice sl_tupA (pv 1) po_none (po_some (pe_un un_neg pe_int))) (pa_cons (pe_revT (pv 1)) (pa_cons (pe_op op_catA (pv 1) (pe_slice sl_tupA (pv 1) po_none (po_some pe_int))) (pa_cons (pe_tup (pa_cons (pv 1) pa_nil)) (pa_cons (pe_op op_catA (pe_slice sl_tupA (pv 1) po_none (po_some pe_int)) (pv 1)) pa_nil))))))))) pe_int)))) (pss_one (ps_if (PW.pt (pw_and (pt_val (pe_callB (id := "isinstance") (r := rIsi K) call_isi (by rfl) T.m_isinstance (by decide +kernel) (pa_cons (pv 1) (pa_cons (pe_bltn (by rfl) T.m_int (v := .ty "int") (by decide +kernel) rfl) pa_nil)))) (pw_and1 (pt_cmpR op_lt (pe_callB call_abs (by rfl) T.m_abs (by decide +kernel) (pa_cons (pv 1) pa_nil)) (pe_op op_pow pe_int pe_int) (nomark _))))) (pss_one (ps_set (i := 2) sc__law_odd.nd rfl (Or.inl rfl) (pe_op op_cat (pv 2) (pe_op op_rep (pe_lst (pa_cons (pe_op op_add (pv 1) pe_int) (pa_cons (pe_op op_sub (pv 1) pe_int) (pa_cons (pe_un un_neg (pv 1)) (pa_cons (pe_cmpR op_eq (pv 1) pe_int (nomark _)) (pa_cons (pe_lst (pa_cons (pv 1) pa_nil)) (pa_cons (pe_tup (pa_cons (pv 1) pa_nil)) (pa_cons (pe_callTy call_str_int (by rfl) T.m_str (by decide +kernel) (pa_cons (pv 1) pa_nil)) (pa_cons (pe_op op_add (pv 1) pe_int) pa_nil))))))))) pe_int)))) pss_nil)))
      (pss_one (ps_ret (pe_call (ok__law_pick T) (hr.mono (by decide)) rfl T.m__law_pick T.F__law_pick.kp T.b__law_pick .nil pass0 (pa_cons (pv 0) (pa_cons (pv 2) pa_nil)))))))), ?_⟩
    refine seq_tl (tl_lst (K := K) D (ds := odd1) ?_ (by decide)) (Same.refl _) (fun L1 xs1 H1 s1 a1 b1 h1 x1 => ?_)
    · unfold odd1
      (repeat (first | exact tds_nil | refine tds_cons ?_ ?_ | exact td_none | exact td_bool | exact td_int | exact td_str | exact td_neg | exact td_pow cp39 | exact td_npow cp39 | exact td_dict0 D | exact td_dict1 D | refine td_tup D ?_ | refine td_lst D ?_))
    have D1 := D.same s1
    have hv1 := Dq.same (same_hide s1) _ _ hv
    refine seq_tl (tl_cat (K := K) D1 (tl_var (i := 2) rfl a1 b1 h1 x1) (tl_lst D1 (ds := odd2) ?_ (by decide)) (by decide)) (Same.refl _) (fun L2 xs2 H2 s2 a2 b2 h2 x2 => ?_)
    · unfold odd2
      (repeat (first | exact tds_nil | refine tds_cons ?_ ?_ | exact td_none | exact td_bool | exact td_int | exact td_str | exact td_neg | exact td_pow cp39 | exact td_npow cp39 | exact td_dict0 D1 | exact td_dict1 D1 | refine td_tup D1 ?_ | refine td_lst D1 ?_))
    have D2 := D1.same s2
    have hv2 := Dq.same (same_hide s2) _ _ hv1
    have fin : ∀ L xs H3 ds, Same H H3 → L ≠ d → L ≠ l → H3 L = some (.lst xs) → DqAll K (hide d l H3) xs ds → ds ≠ [] → ds.length ≤ 1000 → (∀ dd ∈ ds, Sz 80 4 dd) →
        (tRet (tCall (spPick K) [] E0 (tCons (tVar 0) (tCons (tVar 2) tNil))) : TS) { nx := fun _ H' => Q .non H', rt := Q } [some (.ref d), some v, some (.ref L)] H3 := by
      intro L xs H3 ds s3 n1 n2 h3 x3 ne le all
      refine ⟨_, rfl, _, rfl, d, l, L, xs, rfl, .inr (SqL.of ((hide_off n1 n2).trans h3)), ?_, ?_, D.same s3, fun x H4 hx e4 D4 => ?_⟩
      · rintro rfl
        cases x3
        exact ne rfl
      · rw [x3.length]
        exact le
      · obtain ⟨dd, hm, hd⟩ := x3.mem hx
        exact q x dd H4 ((But.of s3).trans e4) D4 (Dq.same e4.hide _ _ hd) (all dd hm)
    have s12 := s1.trans s2
    cases dv with
    | none =>
      cases hv
      refine ⟨_, rfl, _, _, _, _, _, rfl, .ty "tuple", .base .non, kit_ty (r := false) (by decide +kernel), false, rfl, iteF ?_⟩
      refine ⟨_, rfl, _, _, _, _, _, rfl, .ty "int", .base .non, kit_ty (r := false) (by decide +kernel), false, rfl, iteF ?_⟩
      exact fin L2 xs2 H2 _ s12 a2 b2 h2 x2 (by simp [odd1]) (by decide) odd12_sz
    | int i =>
      cases hv
      have hi : i.natAbs < 10 ^ 40 := ho
      refine ⟨_, rfl, _, _, _, _, _, rfl, .ty "tuple", .base (.int i), kit_ty (r := false) (by decide +kernel), false, rfl, iteF ?_⟩
      refine ⟨_, rfl, _, _, _, _, _, rfl, .ty "int", .base (.int i), kit_ty (r := true) (by decide +kernel), true, rfl, iteT ?_⟩
      refine ⟨_, rfl, i, rfl, _, _, rfl, rfl, ⟨by decide, by decide, by decide⟩, _, _, rfl, rfl, _, rfl, ?_⟩
      refine ite2 (fun _ => ?_) (fun _ => ?_)
      · have tv : TD K d l H2 [some (.ref d), some (.int i), some (.ref L2)] (tVar 1) (.int i) := td_var rfl (.int i)
        refine asg_tl (tl_cat (K := K) D2 (tl_var (i := 2) rfl a2 b2 h2 x2) (tl_rep D2 (tl_lst D2 (ds := odd4 i) ?_ (Nat.le_of_ble_eq_true rfl)) (by decide) (by decide) (Nat.le_of_ble_eq_true rfl)) (Nat.le_of_ble_eq_true rfl)) (Same.refl _) (fun L3 xs3 H3 s3 a3 b3 h3 x3 => ?_)
        · refine tds_cons (td_pure (fun _ _ q => ⟨_, rfl, _, _, rfl, rfl, q⟩) fun _ => .int _) (tds_cons (td_pure (fun _ _ q => ⟨_, rfl, _, _, rfl, rfl, q⟩) fun _ => .int _)
            (tds_cons (td_pure (fun _ _ q => ⟨_, rfl, _, rfl, q⟩) fun _ => .int _) (tds_cons (td_pure (fun _ _ q => ⟨_, rfl, rfl, by rw [dec_int]; exact q⟩) fun _ => .bl _)
            (tds_cons (td_lst D2 (tds_cons tv tds_nil) (Nat.le_of_ble_eq_true rfl)) (tds_cons (td_tup D2 (tds_cons tv tds_nil) (Nat.le_of_ble_eq_true rfl)) (tds_cons (td_pure (fun _ _ q => ⟨_, rfl, i, rfl, ?_, q⟩) fun _ => .str _)
            (tds_cons (td_pure (fun _ _ q => ⟨_, rfl, _, _, rfl, rfl, q⟩) fun _ => .int _) tds_nil)))))))
          have z := (sz_int (b := 0) (k := 0) (Nat.lt_trans hi (by decide))).sh
          simpa only [PyData.showable, decide_eq_true_eq] using z
        · refine fin L3 xs3 H3 _ (s12.trans s3) a3 b3 h3 x3 (by simp [odd1]) (Nat.le_of_ble_eq_true rfl) fun dd hm => ?_
          rcases List.mem_append.mp hm with hm | hm
          · exact odd12_sz dd hm
          · exact odd4_sz hi dd (rep_mem hm)
      · exact fin L2 xs2 H2 _ s12 a2 b2 h2 x2 (by simp [odd1]) (by decide) odd12_sz
    | tuple es =>
      obtain ⟨ns, rfl, ln, bn⟩ := ho
      cases hv with
      | @tup a xs _ ht hx =>
        refine ⟨_, rfl, _, _, _, _, _, rfl, .ty "tuple", tyx_tpl (sqT_same s12 (sqT_same hide_sub ht)), kit_ty (r := true) (by decide +kernel), true, rfl, iteT ?_⟩
        have tv : TD K d l H2 [some (.ref d), some (.ref a), some (.ref L2)] (tVar 1) (.tuple (ns.map PyData.int)) := td_var rfl hv2
        have le : (ns.map PyData.int).length ≤ 25 := by rw [List.length_map]; exact ln
        have lc : ∀ lo hi, (MB.cutD (ns.map PyData.int) lo hi).length ≤ 25 := fun lo hi => by
          unfold MB.cutD
          rw [List.length_take, List.length_drop]
          omega
        refine asg_tl (tl_cat (K := K) D2 (tl_var (i := 2) rfl a2 b2 h2 x2) (tl_rep D2 (tl_lst D2 (ds := odd3 (ns.map PyData.int)) ?_ (Nat.le_of_ble_eq_true rfl)) (by decide) (by decide) (Nat.le_of_ble_eq_true rfl)) (Nat.le_of_ble_eq_true rfl)) (Same.refl _) (fun L3 xs3 H3 s3 a3 b3 h3 x3 => ?_)
        · refine tds_cons (td_listOf D2 tv) (tds_cons (td_catT D2 tv (td_tup D2 (tds_cons td_int tds_nil)) ?_) (tds_cons (td_slice D2 tv to_int to_no) (tds_cons (td_slice D2 tv to_no to_neg)
            (tds_cons (td_revT D2 tv) (tds_cons (td_catT D2 tv (td_slice D2 tv to_no to_int) ?_) (tds_cons (td_tup D2 (tds_cons tv tds_nil) (Nat.le_of_ble_eq_true rfl)) (tds_cons (td_catT D2 (td_slice D2 tv to_no to_int) tv ?_) tds_nil)))))))
          · show _ + 1 ≤ 100000
            omega
          · have := lc none (some 1)
            omega
          · have := lc none (some 1)
            omega
        · refine fin L3 xs3 H3 _ (s12.trans s3) a3 b3 h3 x3 (by simp [odd1]) (Nat.le_of_ble_eq_true rfl) fun dd hm => ?_
          rcases List.mem_append.mp hm with hm | hm
          · exact odd12_sz dd hm
          · exact odd3_sz ln bn dd (rep_mem hm)
    | bool b => exact ho.elim
    | str x => exact ho.elim
    | list es => exact ho.elim
    | dict es => exact ho.elim
end
end K24
end
section
set_option maxRecDepth 100000
set_option maxHeartbeats 4000000
set_option exponentiation.threshold 9000
namespace K24
open PySem PySem.Spec PyProof.Rows L2 MB PM
open LamX hiding takes0
theorem cat_val {K : PySem.W.Frag} {d l : Addr} {H : Hp} {v u : V} {ds es : List PyData} {Q : VK} (D : Deck kL H d l) (hv : Dq K (hide d l H) v (.tuple ds)) (hu : Dq K (hide d l H) u (.tuple es)) (hl : ds.length + es.length ≤ 100000)
    (q : ∀ x H', Same H H' → Dq K (hide d l H') x (.tuple (ds ++ es)) → Q x H') : rCatA K v u H Q := by
  obtain ⟨_, e1, _, e2, h⟩ := (td_catT D (σ := [some v, some u]) (td_var (i := 0) rfl hv) (td_var (i := 1) rfl hu) hl) H Q (Same.refl _) q
  obtain rfl := Option.some.inj (Option.some.inj e1)
  obtain rfl := Option.some.inj (Option.some.inj e2)
  exact h
theorem ints_eq {K : PySem.W.Frag} {H : Hp} : ∀ {xs : List V} {ns : List Int}, DqAll K H xs (ns.map PyData.int) → xs = ns.map V.int
  | _, [], h => by cases h; rfl
  | _, c :: r, h => by
    cases h with
    | cons h1 h2 =>
      cases h1
      rw [ints_eq h2]
      rfl
def Cnt (dd : PyData) : Prop := ∀ ds, dd = .tuple ds → ds.length ≤ 80
theorem bulk_len : ∀ ds : List PyData, ds.length ≤ PyData.bulkAll ds
  | [] => Nat.zero_le _
  | d :: r => by
    simp only [PyData.bulkAll, List.length_cons]
    have := bulk_len r
    omega
theorem Cnt.of_sz {k : Nat} {dd : PyData} (h : Sz 80 k dd) : Cnt dd := fun ds e => by
  subst e
  have h1 := h.bu
  simp only [PyData.bulk] at h1
  exact Nat.le_trans (bulk_len ds) h1
section
variable {w : World} {K : PySem.W.Frag} {mg : Str → Option Value} {base : Heap}
theorem ok_bentF (T : Txt K mg) : FnOk P w K mg base CX0 1 T.a__law_bent T.d__law_bent P__law_bent (fun _ _ _ _ => False) where
  len := fun _ _ _ _ h => h.elim
  run := by
    intros
    rename_i h
    exact h.elim
def spBent (K : PySem.W.Frag) (leaf : Bool) : Sp := fun vs H Q _ => ∃ (d l : Addr) (v : V) (dv : PyData), vs = [.ref d, v] ∧ Deck kL H d l ∧ Dq K (hide d l H) v dv ∧ OddOf dv ∧ (leaf = true → asTuple dv = none) ∧
  ∀ (x : V) (dd : PyData) H', But d l H H' → Deck kL H' d l → Dq K (hide d l H') x dd → Sz (if leaf then 80 else 200) (if leaf then 4 else 8) dd → Cnt dd → Q x H'
theorem ok_bent0 (T : Txt K mg) : FnOk P w K mg base CX0 (3 + 1) T.a__law_bent T.d__law_bent P__law_bent (spBent K true) := by
  refine T.F__law_bent.ok sc__law_bent (fun vs H Q E h => ?_) (fun cdv A outer s H vs Q E hr h => ?_)
  · obtain ⟨d, l, v, dv, rfl, _⟩ := h
    rfl
  · obtain ⟨d, l, v, dv, rfl, D, hv, ho, lf, q⟩ := h
    refine ⟨_, 
      (pss_cons (ps_if (PW.pt (pw_or (pt_not (pt_val (pe_callB (id := "isinstance") (r := rIsi K) call_isi (by rfl) T.m_isinstance (by decide +kernel) (pa_cons (pv 1) (pa_cons (pe_bltn (by rfl) T.m_tuple (v := .ty "tuple") (by decide +kernel) rfl) pa_nil))))) (pw_or (pt_cmpR (op_eqD hr.units) (pv 1) (pe_tup pa_nil) (nomark _)) (pw_or1 (pt_cmpR op_eq (pe_call (ok__law_draw T) (hr.mono (by decide)) rfl T.m__law_draw T.F__law_draw.kp T.b__law_draw .nil pass0 (pa_cons (pv 0) (pa_cons pe_int pa_nil))) pe_int (nomark _)))))) (pss_one (ps_ret (pe_call (ok__law_odd T) (hr.mono (by decide)) rfl T.m__law_odd T.F__law_odd.kp T.b__law_odd .nil pass0 (pa_cons (pv 0) (pa_cons (pv 1) pa_nil))))) pss_nil)
      (pss_cons (ps_set (i := 2) sc__law_bent.nd rfl (Or.inl rfl) (pe_call (ok__law_draw T) (hr.mono (by decide)) rfl T.m__law_draw T.F__law_draw.kp T.b__law_draw .nil pass0 (pa_cons (pv 0) (pa_cons (pe_callB call_len_seq (by rfl) T.m_len (by decide +kernel) (pa_cons (pv 1) pa_nil)) pa_nil))))
      (pss_one (ps_ret (pe_op op_catA (pe_op op_catA (pe_slice sl_tupA (pv 1) po_none (po_some (pv 2))) (pe_tup (pa_cons (pe_call (ok_bentF T) (hr.mono (by decide)) rfl T.m__law_bent T.F__law_bent.kp T.b__law_bent .nil pass0 (pa_cons (pv 0) (pa_cons (pe_ix (r := rIxT K) ix_tup (pv 1) (pv 2) (fun _ _ => rfl)) pa_nil))) pa_nil))) (pe_slice sl_tupA (pv 1) (po_some (pe_op op_add (pv 2) pe_int)) po_none)))))), ?_⟩
    obtain ⟨t, ht, hk⟩ := Dq.noTuple (Dq.same hide_sub _ _ hv) (lf rfl)
    refine ⟨_, rfl, _, _, _, _, _, rfl, .ty "tuple", ht, hk, false, rfl, iteT (iteT ?_)⟩
    exact ⟨_, rfl, _, rfl, d, l, v, dv, rfl, D, hv, ho, fun x dd H' e2 D2 hx sz => q x dd H' e2 D2 hx sz (.of_sz sz)⟩
theorem ok__law_bent (T : Txt K mg) : FnOk P w K mg base CX0 (3 + 2) T.a__law_bent T.d__law_bent P__law_bent (spBent K false) := by
  refine T.F__law_bent.ok sc__law_bent (fun vs H Q E h => ?_) (fun cdv A outer s H vs Q E hr h => ?_)
  · obtain ⟨d, l, v, dv, rfl, _⟩ := h
    rfl
  · obtain ⟨d, l, v, dv, rfl, D, hv, ho, lf, q⟩ := h
    refine ⟨_, 
      (pss_cons (ps_if (PW.pt (pw_or (pt_not (pt_val (pe_callB (id := "isinstance") (r := rIsi K) call_isi (by rfl) T.m_isinstance (by decide +kernel) (pa_cons (pv 1) (pa_cons (pe_bltn (by rfl) T.m_tuple (v := .ty "tuple") (by decide +kernel) rfl) pa_nil))))) (pw_or (pt_cmpR (op_eqD hr.units) (pv 1) (pe_tup pa_nil) (nomark _)) (pw_or1 (pt_cmpR op_eq (pe_call (ok__law_draw T) (hr.mono (by decide)) rfl T.m__law_draw T.F__law_draw.kp T.b__law_draw .nil pass0 (pa_cons (pv 0) (pa_cons pe_int pa_nil))) pe_int (nomark _)))))) (pss_one (ps_ret (pe_call (ok__law_odd T) (hr.mono (by decide)) rfl T.m__law_odd T.F__law_odd.kp T.b__law_odd .nil pass0 (pa_cons (pv 0) (pa_cons (pv 1) pa_nil))))) pss_nil)
      (pss_cons (ps_set (i := 2) sc__law_bent.nd rfl (Or.inl rfl) (pe_call (ok__law_draw T) (hr.mono (by decide)) rfl T.m__law_draw T.F__law_draw.kp T.b__law_draw .nil pass0 (pa_cons (pv 0) (pa_cons (pe_callB call_len_seq (by rfl) T.m_len (by decide +kernel) (pa_cons (pv 1) pa_nil)) pa_nil))))
      (pss_one (ps_ret (pe_op op_catA (pe_op op_catA (pe_slice sl_tupA (pv 1) po_none (po_some (pv 2))) (pe_tup (pa_cons (pe_call (ok_bent0 T) (hr.mono (by decide)) rfl T.m__law_bent T.F__law_bent.kp T.b__law_bent .nil pass0 (pa_cons (pv 0) (pa_cons (pe_ix (r := rIxT K) ix_tup (pv 1) (pv 2) (fun _ _ => rfl)) pa_nil))) pa_nil))) (pe_slice sl_tupA (pv 1) (po_some (pe_op op_add (pv 2) pe_int)) po_none)))))), ?_⟩
    have odd : ∀ H1, But d l H H1 → Deck kL H1 d l → (tRet (tCall (spOdd K) [] E0 (tCons (tVar 0) (tCons (tVar 1) tNil))) : TS) { nx := fun _ H' => Q .non H', rt := Q } [some (.ref d), some v, none] H1 := fun H1 e1 D1 =>
      ⟨_, rfl, _, rfl, d, l, v, dv, rfl, D1, Dq.same e1.hide _ _ hv, ho, fun x dd H' e2 D2 hx sz => q x dd H' (e1.trans e2) D2 hx sz.mono (.of_sz sz)⟩
    cases hat : asTuple dv with
    | none =>
      obtain ⟨t, ht, hk⟩ := Dq.noTuple (Dq.same hide_sub _ _ hv) hat
      refine ⟨_, rfl, _, _, _, _, _, rfl, .ty "tuple", ht, hk, false, rfl, iteT (iteT ?_)⟩
      exact odd H But.refl D
    | some es =>
      obtain rfl : dv = .tuple es := by
        cases dv <;> first | (cases hat; rfl) | cases hat
      obtain ⟨ns, rfl, ln, bn⟩ := ho
      cases hv with
      | @tup a xs _ ha hx =>
        have haH := sqT_same hide_sub ha
        refine ⟨_, rfl, _, _, _, _, _, rfl, .ty "tuple", tyx_tpl haH, kit_ty (r := true) (by decide +kernel), true, rfl, iteF ?_⟩
        obtain rfl := ints_eq hx
        refine ⟨_, rfl, (by decide : 0 ≤ sizeLine), fun p hp => ?_⟩
        have e0 := same_upd (o := .tup []) hp
        have b0 : But d l H (upd H p (.tup [])) := But.of e0
        have D0 := D.same e0
        refine ⟨.tuple (ns.map PyData.int), .tuple [], .tup (sqT_same e0 haH) (dp_ints ns), .tup (SqT.of upd_same) .nil, tup_shaped ns, tup_shaped [], ?_⟩
        rw [eqv_tnil]
        refine ⟨_, rfl, ?_⟩
        generalize upd H p (.tup []) = H0 at e0 b0 D0
        cases hns : ns.isEmpty with
        | true => exact iteT (iteT (odd H0 b0 D0))
        | false =>
          have hn : 0 < ns.length := by
            rw [List.isEmpty_eq_false_iff] at hns
            exact List.length_pos_iff.mpr hns
          refine iteF ?_
          refine ⟨_, rfl, d, l, 4, rfl, by decide, by decide, D0, fun r H1 r0 r1 e1 D1 => ?_⟩
          refine ⟨rfl, _, rfl, ?_⟩
          rw [dec_int]
          have b1 := b0.trans e1
          refine ite2 (fun _ => odd H1 b1 D1) (fun _ => ?_)
          have ha1 := sqT_same b1.hide ha
          have hv1 : Dq K (hide d l H1) (.ref a) (.tuple (ns.map PyData.int)) := .tup ha1 (DqAll.same b1.hide _ _ hx)
          refine ⟨_, rfl, _, rfl, a, _, rfl, .inr (sqT_same hide_sub ha1), d, l, _, rfl, by rw [List.length_map]; omega, by rw [List.length_map]; exact small_bits (by omega) (by omega), D1, fun at_ H2 t0 t1 e2 D2 => ?_⟩
          rw [List.length_map] at t1
          obtain ⟨k, rfl⟩ : ∃ k : Nat, at_ = (k : Int) := ⟨at_.toNat, by omega⟩
          have hk : k < ns.length := by omega
          have ha2 := sqT_same e2.hide ha1
          have hv2 := Dq.same e2.hide _ _ hv1
          refine (td_slice (K := K) D2 (td_var (i := 1) rfl hv2) to_no (hi := some (k : Int)) (fun _ _ q => ⟨_, rfl, _, rfl, q⟩)) H2 _ (Same.refl _) (fun v3 H3 s3 hv3 => ?_)
          have D3 := D2.same s3
          have ha3 := sqT_same (same_hide s3) ha2
          have b3 := (b1.trans e2).same s3
          refine ⟨_, rfl, _, rfl, _, rfl, a, _, _, .int ns[k], rfl, rfl, sqT_same hide_sub ha3, atI_nat (by rw [List.getElem?_map, List.getElem?_eq_getElem hk]; rfl), d, l, .int ns[k], .int ns[k], rfl, D3, .int _, bn _ (List.getElem_mem hk), fun _ => rfl,
            fun x dd H4 e4 D4 hx4 sz4 _ => ?_⟩
          refine ⟨(by rw [sizeLine_eq]; exact (by decide : 1 ≤ 16777216)), fun p5 hp5 => ?_⟩
          have b4 := b3.trans e4
          have n5 := D4.same_new (o := .tup [x]) hp5
          have D5 := D4.same (same_upd (o := .tup [x]) hp5)
          have b5 := b4.same (same_upd (o := .tup [x]) hp5)
          have lc : ∀ lo hi, (MB.cutD (ns.map PyData.int) lo hi).length ≤ 25 := fun lo hi => by
            obtain ⟨ms, e, l1, _⟩ := cut_ints ns lo hi
            rw [e, List.length_map]
            omega
          refine cat_val D5 (Dq.same n5 _ _ (Dq.same e4.hide _ _ hv3)) (.tup (SqT.of (D4.at_new hp5)) (.cons (Dq.same n5 _ _ hx4) .nil)) (by have := lc none (some (k : Int)); simp; omega) (fun y H6 s6 hy => ?_)
          have D6 := D5.same s6
          have b6 := b5.same s6
          have hv6 : Dq K (hide d l H6) (.ref a) (.tuple (ns.map PyData.int)) := .tup (sqT_same b6.hide ha) (DqAll.same b6.hide _ _ hx)
          refine (td_slice (K := K) D6 (td_var (i := 1) rfl hv6) (lo := some ((k : Int) + 1)) (fun _ _ q => ⟨_, rfl, _, _, rfl, rfl, _, rfl, q⟩) to_no) H6 _ (Same.refl _) (fun v7 H7 s7 hv7 => ?_)
          have D7 := D6.same s7
          have b7 := b6.same s7
          refine cat_val D7 (Dq.same (same_hide s7) _ _ hy) hv7 (by have := lc none (some (k : Int)); have := lc (some ((k : Int) + 1)) none; simp; omega) (fun z H8 s8 hz => ?_)
          refine q z _ H8 (b7.same s8) (D7.same s8) hz ?_ (fun ds e => by
            have h1 := lc none (some (k : Int))
            have h2 := lc (some ((k : Int) + 1)) none
            rw [← PyData.tuple.inj e, List.length_append, List.length_append, List.length_singleton]
            omega)
          obtain ⟨m1, c1, l1, i1⟩ := cut_ints ns none (some (k : Int))
          obtain ⟨m2, c2, l2, i2⟩ := cut_ints ns (some ((k : Int) + 1)) none
          rw [c1, c2]
          have z1 : SzAll 60 4 (m1.map PyData.int) := (sz_ints (by omega) fun c hc => bn c (i1 c hc)).mono (by decide) (by decide)
          have z2 : SzAll 58 4 (m2.map PyData.int) := ((szAll_ints (k := 4) m2 fun c hc => Nat.lt_trans (bn c (i2 c hc)) (by decide))).mono (by omega) (by decide)
          exact (sz_tup (szAll_app (szAll_app z1 (szAll_cons sz4 (szAll_nil (b := 0)))) z2)).mono
end
end K24
end
section
set_option maxRecDepth 100000
set_option maxHeartbeats 4000000
set_option exponentiation.threshold 9000
namespace K24
open PySem PySem.Spec PyProof.Rows L2 MB PM
open LamX hiding takes0
theorem dq_ints {K : PySem.W.Frag} {H : Hp} : ∀ ns : List Int, DqAll K H (ns.map V.int) (ns.map PyData.int)
  | [] => .nil
  | c :: r => .cons (.int c) (dq_ints r)
theorem TI.dq {K : PySem.W.Frag} {d l : Addr} {H : Hp} {v : V} {ns : List Int} (D : Deck kL H d l) (h : TI K H v ns) : Dq K (hide d l H) v (.tuple (ns.map PyData.int)) := by
  obtain ⟨a, rfl, ha⟩ := h
  exact .tup (sqT_hide D ha) (dq_ints ns)
section
variable {w : World} {K : PySem.W.Frag} {mg : Str → Option Value} {base : Heap}
def spValueD (K : PySem.W.Frag) : Sp := fun vs H Q _ => ∃ (d l : Addr), vs = [.ref d] ∧ Deck kL H d l ∧
  ∀ (x : V) (dd : PyData) H', But d l H H' → Deck kL H' d l → Dq K (hide d l H') x dd → Sz 200 8 dd → Cnt dd → Q x H'
theorem ok__law_value (T : Txt K mg) : FnOk P w K mg base CX0 6 T.a__law_value T.d__law_value P__law_value (spValueD K) := by
  refine T.F__law_value.ok sc__law_value (fun vs H Q E h => ?_) (fun cdv A outer s H vs Q E hr h => ?_)
  · obtain ⟨d, l, rfl, _⟩ := h
    rfl
  · obtain ⟨d, l, rfl, D, q⟩ := h
    refine ⟨_, 
      (pss_cons (ps_set (i := 1) sc__law_value.nd rfl (Or.inl rfl) (pe_call (ok__law_draw T) (hr.mono (by decide)) rfl T.m__law_draw T.F__law_draw.kp T.b__law_draw .nil pass0 (pa_cons (pv 0) (pa_cons pe_int pa_nil))))
      (pss_cons (ps_set (i := 2) sc__law_value.nd rfl (Or.inl rfl) (pe_call (ok__law_polynomial T) (hr.mono (by decide)) rfl T.m__law_polynomial T.F__law_polynomial.kp T.b__law_polynomial .nil pass0 (pa_cons (pv 0) (pa_cons pe_int pa_nil))))
      (pss_cons (ps_if (pt_cmpR op_eq (pv 1) pe_int (nomark _)) (pss_one (ps_ret (pe_call (ok__law_bent T) (hr.mono (by decide)) rfl T.m__law_bent T.F__law_bent.kp T.b__law_bent .nil pass0 (pa_cons (pv 0) (pa_cons (pv 2) pa_nil))))) pss_nil)
      (pss_cons (ps_if (pt_cmpR op_eq (pv 1) pe_int (nomark _)) (pss_one (ps_ret (pe_call (ok__law_bent T) (hr.mono (by decide)) rfl T.m__law_bent T.F__law_bent.kp T.b__law_bent .nil pass0 (pa_cons (pv 0) (pa_cons (pe_op op_catA (pe_slice sl_tupA (pe_tup (pa_cons pe_int (pa_cons pe_int (pa_cons (pe_un un_neg pe_int) (pa_cons pe_int pa_nil))))) po_none (po_some (pe_op op_add pe_int (pe_call (ok__law_draw T) (hr.mono (by decide)) rfl T.m__law_draw T.F__law_draw.kp T.b__law_draw .nil pass0 (pa_cons (pv 0) (pa_cons pe_int pa_nil)))))) (pv 2)) pa_nil))))) pss_nil)
      (pss_cons (ps_if (pt_cmpR op_eq (pv 1) pe_int (nomark _)) (pss_one (ps_ret (pe_call (ok__law_odd T) (hr.mono (by decide)) rfl T.m__law_odd T.F__law_odd.kp T.b__law_odd .nil pass0 (pa_cons (pv 0) (pa_cons pe_non pa_nil))))) pss_nil)
      (pss_one (ps_ret (pv 2)))))))), ?_⟩
    refine ⟨_, rfl, d, l, 5, rfl, by decide, by decide, D, fun way H1 w0 w1 e1 D1 => ?_⟩
    refine ⟨_, rfl, d, l, 12, rfl, by decide, by decide, D1, fun v ns H2 e2 D2 hv _ hl hb => ?_⟩
    have b2 := e1.trans e2
    have bent : ∀ (x : V) (zs : List Int) H', But d l H H' → Deck kL H' d l → Dq K (hide d l H') x (.tuple (zs.map PyData.int)) → zs.length ≤ 25 → (∀ c ∈ zs, c.natAbs < 10 ^ 40) → spBent K false [.ref d, x] H' Q E0 :=
      fun x zs H' b D' hx l1 c1 => ⟨d, l, x, _, rfl, D', hx, ⟨zs, rfl, l1, c1⟩, fun z => Bool.noConfusion z, fun y dd H'' e D'' hy sz cn => q y dd H'' (b.trans e) D'' hy sz cn⟩
    refine ⟨_, rfl, rfl, _, rfl, ?_⟩
    rw [dec_int]
    refine ite2 (fun _ => ?_) (fun _ => ?_)
    · exact ⟨_, rfl, _, rfl, bent v ns H2 b2 D2 (TI.dq D2 hv) (by omega) hb⟩
    refine ⟨_, rfl, rfl, _, rfl, ?_⟩
    rw [dec_int]
    refine ite2 (fun _ => ?_) (fun _ => ?_)
    · refine ⟨_, rfl, 2, rfl, (by rw [sizeLine_eq]; exact (by decide : 4 ≤ 16777216)), fun p hp => ?_⟩
      have n3 := D2.at_new (o := .tup [.int 0, .int 3, .int (-2), .int 1]) hp
      have s3 := same_upd (o := .tup [.int 0, .int 3, .int (-2), .int 1]) hp
      have D3 := D2.same s3
      have hp3 : (upd H2 p (.tup [.int 0, .int 3, .int (-2), .int 1])) p = some (.tup [.int 0, .int 3, .int (-2), .int 1]) := upd_same
      refine ⟨_, rfl, d, l, 4, rfl, by decide, by decide, D3, fun r H4 r0 r1 e4 D4 => ?_⟩
      have b4 := (b2.same s3).trans e4
      have hp4 : SqT K H4 p ([0, 3, -2, 1].map V.int) := e4.tup D3 (SqT.of hp3)
      have hq4 : Dq K (hide d l H4) (.ref p) (.tuple ([0, 3, -2, 1].map PyData.int)) := .tup (sqT_hide D4 hp4) (dq_ints _)
      have hv4 : Dq K (hide d l H4) v (.tuple (ns.map PyData.int)) := Dq.same ((same_hide s3).trans e4.hide) _ _ (TI.dq D2 hv)
      have b0 : ∀ c ∈ ([0, 3, -2, 1] : List Int), c.natAbs < 10 ^ 40 := by decide
      have fin : ∀ (u : V) (H5 : Hp) (ms : List Int), Same H4 H5 → Dq K (hide d l H5) u (.tuple (ms.map PyData.int)) → ms.length ≤ 4 → (∀ c ∈ ms, c ∈ ([0, 3, -2, 1] : List Int)) → ∀ Q' : VK, (∀ x (zs : List Int) H', But d l H H' → Deck kL H' d l → Dq K (hide d l H') x (.tuple (zs.map PyData.int)) → zs.length ≤ 25 → (∀ c ∈ zs, c.natAbs < 10 ^ 40) → Q' x H') → rCatA K u v H5 Q' := fun u H5 ms s5 hu lm mm Q' k => by
        have D5 := D4.same s5
        refine cat_val D5 hu (Dq.same (same_hide s5) _ _ hv4) (by rw [List.length_map, List.length_map]; omega) fun x H6 s6 hx => ?_
        rw [← List.map_append] at hx
        refine k x _ H6 ((b4.same s5).same s6) (D5.same s6) hx (by rw [List.length_append]; omega) fun c hc => ?_
        rcases List.mem_append.mp hc with hc | hc
        · exact b0 c (mm c hc)
        · exact hb c hc
      obtain ⟨ms, em, lm, mm⟩ := cut_ints [0, 3, -2, 1] none (some (1 + r))
      refine ⟨_, _, rfl, rfl, _, rfl, p, _, rfl, hp4, fun hw => ?_, fun hw p2 hp2 => ?_⟩
      · exact ⟨_, rfl, fin _ H4 _ (Same.refl _) hq4 (by decide) (fun c hc => hc) _ fun x zs H' b D' hx l1 c1 => bent x zs H' b D' hx l1 c1⟩
      · refine ⟨_, rfl, fin _ _ ms (same_upd hp2) (.tup (SqT.of (D4.at_new hp2)) ?_) lm mm _ fun x zs H' b D' hx l1 c1 => bent x zs H' b D' hx l1 c1⟩
        rw [← em]
        exact DqAll.cut (dq_ints _) _ _
    refine ⟨_, rfl, rfl, _, rfl, ?_⟩
    rw [dec_int]
    refine ite2 (fun _ => ?_) (fun _ => ?_)
    · exact ⟨_, rfl, d, l, .non, .none, rfl, D2, .non, trivial, fun x dd H' e2 D2 hx sz => q x dd H' (b2.trans e2) D2 hx sz.mono (.of_sz sz)⟩
    · refine ⟨_, rfl, q v _ H2 b2 D2 (TI.dq D2 hv) (sz_tup (sz_ints (by omega) hb)).mono fun ds e => ?_⟩
      rw [← PyData.tuple.inj e, List.length_map]
      omega
end
end K24
end
section
set_option maxRecDepth 100000
set_option maxHeartbeats 4000000
namespace K24
open PySem PySem.Spec PyProof.Rows L2 MB PM
open LamX hiding takes0
def lsum (q a b : Int) : Int := if q = 4 then Builtin.bitXor a b else (a + b).fmod q
def lneg (q a : Int) : Int := if q = 4 then a else (0 - a).fmod q
def ltim (q a b : Int) : Int := if q = 4 then (four.getD a.toNat []).getD b.toNat 0 else (a * b).fmod q
structure LetQ (q : Int) : Prop where
  lo : 2 ≤ q
  hi : q ≤ 5
section
variable {w : World} {K : PySem.W.Frag} {mg : Str → Option Value} {base : Heap}
def spLsum : Sp := fun vs H Q _ => ∃ q a b : Int, vs = [.int q, .int a, .int b] ∧ LetQ q ∧ Q (.int (lsum q a b)) H
theorem ok_letter_sum (T : Txt K mg) : FnOk P w K mg base CX0 1 T.a_letter_sum T.d_letter_sum P_letter_sum spLsum := by
  refine T.F_letter_sum.ok sc_letter_sum (fun vs H Q E h => ?_) (fun cdv A outer s H vs Q E hr h => ?_)
  · obtain ⟨q, a, b, rfl, _⟩ := h
    rfl
  · obtain ⟨q, a, b, rfl, hq, k⟩ := h
    refine ⟨_, 
      (pss_cons (ps_if (pt_cmpR op_eq (pv 0) pe_int (nomark _)) (pss_one (ps_ret (pe_op op_xor (pv 1) (pv 2)))) pss_nil)
      (pss_one (ps_ret (pe_op op_modN (pe_op op_add (pv 1) (pv 2)) (pv 0))))), ?_⟩
    have := hq.lo
    refine ⟨_, rfl, rfl, _, rfl, ?_⟩
    rw [dec_int]
    unfold lsum at k
    refine ite2 (fun e => ?_) (fun e => ?_)
    · rw [if_pos (of_decide_eq_true e)] at k
      exact ⟨_, rfl, _, rfl, _, _, rfl, rfl, k⟩
    · rw [if_neg (fun z => e (decide_eq_true z))] at k
      exact ⟨_, rfl, _, rfl, _, _, rfl, rfl, _, rfl, _, _, rfl, rfl, by omega, k⟩
def spLneg : Sp := fun vs H Q _ => ∃ q a : Int, vs = [.int q, .int a] ∧ LetQ q ∧ Q (.int (lneg q a)) H
theorem ok_letter_negative (T : Txt K mg) : FnOk P w K mg base CX0 1 T.a_letter_negative T.d_letter_negative P_letter_negative spLneg := by
  refine T.F_letter_negative.ok sc_letter_negative (fun vs H Q E h => ?_) (fun cdv A outer s H vs Q E hr h => ?_)
  · obtain ⟨q, a, rfl, _⟩ := h
    rfl
  · obtain ⟨q, a, rfl, hq, k⟩ := h
    refine ⟨_, 
      (pss_cons (ps_if (pt_cmpR op_eq (pv 0) pe_int (nomark _)) (pss_one (ps_ret (pv 1))) pss_nil)
      (pss_one (ps_ret (pe_op op_modN (pe_op op_sub pe_int (pv 1)) (pv 0))))), ?_⟩
    have := hq.lo
    refine ⟨_, rfl, rfl, _, rfl, ?_⟩
    rw [dec_int]
    unfold lneg at k
    refine ite2 (fun e => ?_) (fun e => ?_)
    · rw [if_pos (of_decide_eq_true e)] at k
      exact ⟨_, rfl, k⟩
    · rw [if_neg (fun z => e (decide_eq_true z))] at k
      exact ⟨_, rfl, _, _, rfl, rfl, _, rfl, _, _, rfl, rfl, by omega, k⟩
def spLtim : Sp := fun vs H Q _ => ∃ q a b : Int, vs = [.int q, .int a, .int b] ∧ LetQ q ∧ (0 ≤ a ∧ a < q) ∧ (0 ≤ b ∧ b < q) ∧ Q (.int (ltim q a b)) H
theorem ok_letter_times (T : Txt K mg) : FnOk P w K mg base CX0 1 T.a_letter_times T.d_letter_times P_letter_times spLtim := by
  refine T.F_letter_times.ok sc_letter_times (fun vs H Q E h => ?_) (fun cdv A outer s H vs Q E hr h => ?_)
  · obtain ⟨q, a, b, rfl, _⟩ := h
    rfl
  · obtain ⟨q, a, b, rfl, hq, ⟨a0, a1⟩, ⟨b0, b1⟩, k⟩ := h
    refine ⟨_, 
      (pss_cons (ps_if (pt_cmpR op_eq (pv 0) pe_int (nomark _)) (pss_one (ps_ret (pe_ix (r := rIxT K) ix_tup (pe_ix (r := rIxT K) ix_tup (pe_glob (v := .ref T.t_four) rfl T.m_four rfl) (pv 1) (fun _ _ => rfl)) (pv 2) (fun _ _ => rfl)))) pss_nil)
      (pss_one (ps_ret (pe_op op_modN (pe_op op_mulW (pv 1) (pv 2)) (pv 0))))), ?_⟩
    have := hq.lo
    have := hq.hi
    refine ⟨_, rfl, rfl, _, rfl, ?_⟩
    rw [dec_int]
    unfold ltim at k
    refine ite2 (fun e => ?_) (fun e => ?_)
    · have e4 := of_decide_eq_true e
      rw [if_pos e4] at k
      obtain ⟨rs, rl, rt, rr⟩ := T.four
      obtain ⟨i, rfl⟩ : ∃ i : Nat, a = (i : Int) := ⟨a.toNat, by omega⟩
      obtain ⟨j, rfl⟩ : ∃ j : Nat, b = (j : Int) := ⟨b.toNat, by omega⟩
      have hi : i < 4 := by omega
      have hj : j < 4 := by omega
      have hir : i < rs.length := by omega
      have hrow := rr i rs[i] H (List.getElem?_eq_getElem hir)
      refine ⟨_, rfl, T.t_four, _, _, .ref rs[i], rfl, rfl, rt H, atI_nat (by rw [List.getElem?_map, List.getElem?_eq_getElem hir]; rfl), _, rfl, rs[i], _, _, .int ((four.getD i []).getD j 0), rfl, rfl, hrow, atI_nat ?_, ?_⟩
      · have : ∀ i < 4, ∀ j < 4, ((four.getD i []).map V.int)[j]? = some (.int ((four.getD i []).getD j 0)) := by decide
        exact this i hi j hj
      · simpa using k
    · rw [if_neg (fun z => e (decide_eq_true z))] at k
      exact ⟨_, rfl, _, rfl, _, _, rfl, rfl, wide_mul (a := 3) (b := 3) (by omega) (by omega) (by decide) (by decide) (by decide), _, rfl, _, _, rfl, rfl, by omega, k⟩
def linv (q a : Int) : Int := (((List.range q.toNat).map (fun n : Nat => (n : Int))).find? fun x => decide (ltim q a x = 1)).getD 0
def IsLet (q a : Int) : Prop := 0 ≤ a ∧ a < q
theorem invs_next (q a : Int) (i : Nat) : (((List.range (i + 1)).map (fun n : Nat => (n : Int))).filter fun x => decide (ltim q a x = 1)) =
    (((List.range i).map (fun n : Nat => (n : Int))).filter fun x => decide (ltim q a x = 1)) ++ (if decide (ltim q a (i : Int) = 1) = true then [(i : Int)] else []) := by
  rw [List.range_succ, List.map_append, List.filter_append]
  congr 1
  by_cases c : ltim q a (i : Int) = 1
  · simp [c]
  · simp [c]
theorem linv_some {q a : Int} (hq : LetQ q) (ha : IsLet q a) (a0 : a ≠ 0) : (((List.range q.toNat).map (fun n : Nat => (n : Int))).find? fun x => decide (ltim q a x = 1)).isSome = true := by
  obtain ⟨h1, h2⟩ := hq
  obtain ⟨h3, h4⟩ := ha
  have hc : q = 2 ∨ q = 3 ∨ q = 4 ∨ q = 5 := by omega
  have ac : a = 1 ∨ a = 2 ∨ a = 3 ∨ a = 4 := by omega
  rcases hc with rfl | rfl | rfl | rfl <;> rcases ac with rfl | rfl | rfl | rfl <;> first | (exfalso; omega) | decide
def spLinv : Sp := fun vs H Q _ => ∃ q a : Int, vs = [.int q, .int a] ∧ LetQ q ∧ IsLet q a ∧ a ≠ 0 ∧ ∀ H', Same H H' → Q (.int (linv q a)) H'
theorem ok_letter_inverse (T : Txt K mg) : FnOk P w K mg base CX0 2 T.a_letter_inverse T.d_letter_inverse P_letter_inverse spLinv := by
  refine T.F_letter_inverse.ok sc_letter_inverse (fun vs H Q E h => ?_) (fun cdv A outer s H vs Q E hr h => ?_)
  · obtain ⟨q, a, rfl, _⟩ := h
    rfl
  · obtain ⟨q, a, rfl, hq, ha, a0, k⟩ := h
    refine ⟨_, 
      (pss_one (ps_ret (pe_ix (r := rIxL K) ix_list (pe_lc (own := [("other", 2)]) (g := gName 2)  rfl sc_letter_inverse.nd (pi_range1 rfl T.m_range (pa_cons (pv 0) pa_nil)) (blkOk_by (own := [("other", 2)]) (N := N_letter_inverse) (sc := defScope s_letter_inverse) (by decide +kernel)) (fun _ _ _ _ _ => (pg_name (i := 2) sc_letter_inverse.nd rfl (Or.inl rfl))) (fun _ _ _ _ _ => (pts_one (pt_cmpR op_eq (pe_call (ok_letter_times T) (hr.mono (by decide)) rfl T.m_letter_times T.F_letter_times.kp T.b_letter_times .nil pass0 (pa_cons (pv 0) (pa_cons (pv 1) (pa_cons (pv 2) pa_nil)))) pe_int (nomark _)))) (fun _ _ _ _ _ => (pv 2))) pe_int (fun _ _ => rfl)))), ?_⟩
    have := hq.lo
    have := hq.hi
    refine ⟨_, rfl, _, rfl, by omega, by omega, fun D hD => ?_⟩
    have nat : ∀ n : Nat, ((List.range n).map (fun n : Nat => (n : Int))).length = n := fun n => by rw [List.length_map, List.length_range]
    refine lc_it (walk_range (lo := 0) (n := q.toNat))
      (fun i H' => Same H H' ∧ H' D = some (.lst ((((List.range i).map (fun n : Nat => (n : Int))).filter fun x => decide (ltim q a x = 1)).map V.int)))
      ⟨same_upd hD, upd_same⟩ (fun _ _ _ _ => trivial) ?_ ?_
    · rintro i x H' _ hi ⟨e, hN⟩ ⟨rfl, rfl⟩
      refine ⟨rfl, ?_⟩
      refine ⟨_, rfl, _, rfl, _, rfl, q, a, _, rfl, hq, ha, ⟨by omega, by omega⟩, rfl, _, rfl, ?_⟩
      rw [dec_int]
      have z0 : (0 : Int) + (i : Int) = (i : Int) := Int.zero_add _
      rw [z0]
      have sz : ((((List.range i).map (fun n : Nat => (n : Int))).filter fun x => decide (ltim q a x = 1)).map V.int).length < sizeLine := by
        rw [List.length_map]
        exact line_le (Nat.le_trans (List.length_filter_le _ _) (by rw [nat]; omega))
      refine ite2 (fun c => ?_) (fun c => ?_)
      · refine ⟨_, rfl, _, hN, sz, same_set hD e, ?_⟩
        rw [upd_same, invs_next, if_pos c, List.map_append]
        show some (HO.lst (_ ++ [V.int (0 + (i : Int))])) = _
        rw [z0]
        rfl
      · refine ⟨e, ?_⟩
        rw [invs_next, if_neg c, List.append_nil]
        exact hN
    · rintro H' ⟨e, hN⟩
      refine ⟨D, _, 0, .int (linv q a), rfl, rfl, SqL.of hN, atI_nat (j := 0) ?_, k H' e⟩
      rw [List.getElem?_map, ← List.head?_eq_getElem?, List.head?_filter]
      have hs := linv_some hq ha a0
      unfold linv
      cases hf : ((List.range q.toNat).map (fun n : Nat => (n : Int))).find? fun x => decide (ltim q a x = 1) with
      | none =>
        rw [hf] at hs
        cases hs
      | some x => rfl
def IsRow (q : Int) (ns : List Int) : Prop := ∀ c ∈ ns, IsLet q c
def spRsum (K : PySem.W.Frag) : Sp := fun vs H Q _ => ∃ (q : Int) (u v : V) (ns ms : List Int), vs = [.int q, u, v] ∧ LetQ q ∧ TI K H u ns ∧ TI K H v ms ∧ ns.length ≤ 1000 ∧
  ∀ z H', Same H H' → TI K H' z (List.zipWith (lsum q) ns ms) → Q z H'
theorem ok_row_sum (T : Txt K mg) : FnOk P w K mg base CX0 2 T.a_row_sum T.d_row_sum P_row_sum (spRsum K) := by
  refine T.F_row_sum.ok sc_row_sum (fun vs H Q E h => ?_) (fun cdv A outer s H vs Q E hr h => ?_)
  · obtain ⟨q, u, v, ns, ms, rfl, _⟩ := h
    rfl
  · obtain ⟨q, _, _, ns, ms, rfl, hq, ⟨a, rfl, ha⟩, ⟨b, rfl, hb⟩, hl, k⟩ := h
    refine ⟨_, 
      (pss_one (ps_ret (pe_callTy call_tuple_of (by rfl) T.m_tuple (by decide +kernel) (pa_cons (pe_lc (own := [("left", 3), ("right", 4)]) (g := gTup K 2 (gCons (gName 3) (gCons (gName 4) gNil))) (tt := tYes) rfl sc_row_sum.nd (RZ.pi_zipA (by rfl) T.m_zip (pa_cons (pv 1) (pa_cons (pv 2) pa_nil))) (blkOk_by (own := [("left", 3), ("right", 4)]) (N := N_row_sum) (sc := defScope s_row_sum) (by decide +kernel)) (fun _ _ _ _ _ => (pg_tup rfl (pgs_cons (pg_name (i := 3) sc_row_sum.nd rfl (Or.inl rfl)) (pgs_cons (pg_name (i := 4) sc_row_sum.nd rfl (Or.inl rfl)) pgs_nil)))) (fun _ _ _ _ _ => pts_nil) (fun _ _ _ _ _ => (pe_call (ok_letter_sum T) (hr.mono (by decide)) rfl T.m_letter_sum T.F_letter_sum.kp T.b_letter_sum .nil pass0 (pa_cons (pv 0) (pa_cons (pv 3) (pa_cons (pv 4) pa_nil)))))) pa_nil)))), ?_⟩
    refine ⟨_, rfl, _, rfl, a, b, _, _, rfl, .inr ⟨ha, hb, ?_⟩⟩
    refine fun D hD => lc_it (walk_zipT (K := K) (a := a) (b := b) (xs := ns.map V.int) (ys := ms.map V.int) rfl)
      (fun i H' => Same H H' ∧ H' D = some (.lst (((List.zipWith (lsum q) ns ms).take i).map V.int)))
      ⟨same_upd hD, by rw [upd_same]; simp⟩ (fun i H' _ ⟨e, _⟩ => ⟨e.tup ha, e.tup hb⟩) ?_ ?_
    · rintro i v H' H'' hi ⟨e, hacc⟩ ⟨T0, x, y, rfl, hT0, rfl, hx, hy⟩
      obtain ⟨c, hc, rfl⟩ := int_at hx
      obtain ⟨d, hd, rfl⟩ := int_at hy
      have hiL : i < ns.length := (List.getElem?_eq_some_iff.mp hc).1
      refine ⟨T0, _, rfl, SqT.of upd_same, rfl, _, _, rfl, _, _, rfl, rfl, rfl, ?_⟩
      refine ⟨_, rfl, _, rfl, _, rfl, q, c, d, rfl, hq, _, (upd_ne (ne_of_none hacc hT0)).trans hacc, ?_, ?_, ?_⟩
      · rw [List.length_map, List.length_take]
        exact line_le (by omega)
      · exact same_set hD (e.trans (same_upd hT0))
      · rw [upd_same, List.take_add_one, List.getElem?_zipWith, hc, hd]
        simp
    · rintro H' ⟨e, hacc⟩
      rw [List.length_map, List.length_map, List.take_of_length_le (by rw [List.length_zipWith]; exact Nat.le_refl _)] at hacc
      refine ⟨D, _, rfl, .inl ⟨SqL.of hacc, fun p8 hp8 => ?_⟩⟩
      exact k _ _ (e.trans (same_upd hp8)) ⟨p8, rfl, SqT.of upd_same⟩
def spRtim (K : PySem.W.Frag) : Sp := fun vs H Q _ => ∃ (q c : Int) (v : V) (ns : List Int), vs = [.int q, .int c, v] ∧ LetQ q ∧ IsLet q c ∧ TI K H v ns ∧ IsRow q ns ∧ ns.length ≤ 1000 ∧
  ∀ z H', Same H H' → TI K H' z (ns.map (ltim q c)) → Q z H'
theorem ok_row_times (T : Txt K mg) : FnOk P w K mg base CX0 2 T.a_row_times T.d_row_times P_row_times (spRtim K) := by
  refine T.F_row_times.ok sc_row_times (fun vs H Q E h => ?_) (fun cdv A outer s H vs Q E hr h => ?_)
  · obtain ⟨q, c, v, ns, rfl, _⟩ := h
    rfl
  · obtain ⟨q, c, _, ns, rfl, hq, hc, ⟨a, rfl, ha⟩, hr', hl, k⟩ := h
    refine ⟨_, 
      (pss_one (ps_ret (pe_callTy call_tuple_of (by rfl) T.m_tuple (by decide +kernel) (pa_cons (pe_lc (own := [("item", 3)]) (g := gName 3) (tt := tYes) rfl sc_row_times.nd (pi_tup (pv 2)) (blkOk_by (own := [("item", 3)]) (N := N_row_times) (sc := defScope s_row_times) (by decide +kernel)) (fun _ _ _ _ _ => (pg_name (i := 3) sc_row_times.nd rfl (Or.inl rfl))) (fun _ _ _ _ _ => pts_nil) (fun _ _ _ _ _ => (pe_call (ok_letter_times T) (hr.mono (by decide)) rfl T.m_letter_times T.F_letter_times.kp T.b_letter_times .nil pass0 (pa_cons (pv 0) (pa_cons (pv 1) (pa_cons (pv 3) pa_nil)))))) pa_nil)))), ?_⟩
    refine ⟨_, rfl, a, rfl, ⟨_, ha⟩, fun D hD => lc_it (walk_tup (K := K) (a := a) (xs := ns.map V.int))
      (fun i H' => Same H H' ∧ H' D = some (.lst (((ns.map (ltim q c)).take i).map V.int))) ⟨same_upd hD, by rw [upd_same]; simp⟩ (fun i H' _ ⟨e, _⟩ => e.tup ha) ?_ ?_⟩
    · rintro i x H' _ hi ⟨e, hacc⟩ ⟨rfl, hx⟩
      obtain ⟨z, hz, rfl⟩ := int_at hx
      have hiL : i < ns.length := (List.getElem?_eq_some_iff.mp hz).1
      refine ⟨rfl, ?_⟩
      refine ⟨_, rfl, _, rfl, _, rfl, q, c, z, rfl, hq, hc, hr' z (List.mem_of_getElem? hz), _, hacc, ?_, same_set hD e, ?_⟩
      · rw [List.length_map, List.length_take]
        exact line_le (by omega)
      · rw [upd_same, List.take_add_one, List.getElem?_map, hz]
        simp
    · rintro H' ⟨e, hacc⟩
      rw [List.take_of_length_le (by rw [List.length_map, List.length_map]; exact Nat.le_refl _)] at hacc
      refine ⟨D, _, rfl, .inl ⟨SqL.of hacc, fun p8 hp8 => ?_⟩⟩
      exact k _ _ (e.trans (same_upd hp8)) ⟨p8, rfl, SqT.of upd_same⟩
def supp (ns : List Int) : List Int := ((List.range ns.length).filter fun i => ns.getD i 0 != 0).map fun i : Nat => (i : Int)
def spRsup (K : PySem.W.Frag) : Sp := fun vs H Q _ => ∃ (v : V) (ns : List Int), vs = [v] ∧ TI K H v ns ∧ ns.length ≤ 1000 ∧ ∀ z H', Same H H' → TI K H' z (supp ns) → Q z H'
theorem ok_row_support (T : Txt K mg) : FnOk P w K mg base CX0 1 T.a_row_support T.d_row_support P_row_support (spRsup K) := by
  refine T.F_row_support.ok sc_row_support (fun vs H Q E h => ?_) (fun cdv A outer s H vs Q E hr h => ?_)
  · obtain ⟨v, ns, rfl, _⟩ := h
    rfl
  · obtain ⟨_, ns, rfl, ⟨a, rfl, ha⟩, hl, k⟩ := h
    refine ⟨_, 
      (pss_one (ps_ret (pe_callTy call_tuple_of (by rfl) T.m_tuple (by decide +kernel) (pa_cons (pe_lc (own := [("place", 1)]) (g := gName 1)  rfl sc_row_support.nd (pi_range1 rfl T.m_range (pa_cons (pe_callB call_len_seq (by rfl) T.m_len (by decide +kernel) (pa_cons (pv 0) pa_nil)) pa_nil)) (blkOk_by (own := [("place", 1)]) (N := N_row_support) (sc := defScope s_row_support) (by decide +kernel)) (fun _ _ _ _ _ => (pg_name (i := 1) sc_row_support.nd rfl (Or.inl rfl))) (fun _ _ _ _ _ => (pts_one (pt_cmpR op_ne (pe_ix (r := rIxT K) ix_tup (pv 0) (pv 1) (fun _ _ => rfl)) pe_int (nomark _)))) (fun _ _ _ _ _ => (pv 1))) pa_nil)))), ?_⟩
    refine ⟨_, rfl, a, _, rfl, .inr ha, _, rfl, ?_, ?_, fun D hD => ?_⟩
    · rw [List.length_map]; omega
    · rw [List.length_map]; omega
    refine lc_it (walk_range (lo := 0) (n := ((ns.map V.int).length : Int).toNat))
      (fun i H' => Same H H' ∧ H' D = some (.lst ((((List.range i).filter fun j => ns.getD j 0 != 0).map fun j : Nat => (j : Int)).map V.int))) ⟨same_upd hD, upd_same⟩ (fun _ _ _ _ => trivial) ?_ ?_
    · rintro i x H' _ hi ⟨e, hN⟩ ⟨rfl, rfl⟩
      rw [List.length_map] at hi
      have hi' : i < ns.length := by omega
      refine ⟨rfl, ?_⟩
      refine ⟨_, rfl, _, rfl, a, _, _, .int ns[i], rfl, rfl, e.tup ha, ?_, rfl, _, rfl, ?_⟩
      · rw [show (0 : Int) + (i : Int) = (i : Int) from Int.zero_add _]
        exact atI_nat (by rw [List.getElem?_map, List.getElem?_eq_getElem hi']; rfl)
      · rw [dec_int]
        have gd : ns.getD i 0 = ns[i] := by rw [List.getD_eq_getElem?_getD, List.getElem?_eq_getElem hi']; rfl
        have sz : ((((List.range i).filter fun j => ns.getD j 0 != 0).map fun j : Nat => (j : Int)).map V.int).length < sizeLine := by
          rw [List.length_map, List.length_map]
          exact line_le (Nat.le_trans (List.length_filter_le _ _) (by rw [List.length_range]; omega))
        refine ite2 (fun c => ?_) (fun c => ?_)
        · refine ⟨_, rfl, _, hN, sz, same_set hD e, ?_⟩
          have c' : (ns.getD i 0 != 0) = true := by
            rw [gd]
            simpa using c
          rw [upd_same, List.range_succ, List.filter_append, List.map_append, List.map_append]
          show some (HO.lst (_ ++ [V.int (0 + (i : Int))])) = _
          rw [Int.zero_add, List.filter_cons_of_pos (by exact c')]
          rfl
        · refine ⟨e, ?_⟩
          have c' : ¬ ((ns.getD i 0 != 0) = true) := by
            rw [gd]
            simpa using c
          rw [List.range_succ, List.filter_append, List.filter_cons_of_neg (by exact c'), List.filter_nil, List.append_nil]
          exact hN
    · rintro H' ⟨e, hN⟩
      refine ⟨D, _, rfl, .inl ⟨SqL.of hN, fun p8 hp8 => ?_⟩⟩
      refine k _ _ (e.trans (same_upd hp8)) ⟨p8, rfl, ?_⟩
      have z : ((ns.map V.int).length : Int).toNat = ns.length := by rw [List.length_map]; omega
      unfold supp
      rw [← z]
      exact SqT.of upd_same
end
end K24
end
section
set_option maxRecDepth 100000
set_option maxHeartbeats 4000000
namespace K24
open PySem PySem.Spec PyProof.Rows L2 MB PM
open LamX hiding takes0
theorem four_cases {q a : Int} (e : q = 4) (h : IsLet q a) : a = 0 ∨ a = 1 ∨ a = 2 ∨ a = 3 := by
  obtain ⟨h1, h2⟩ := h
  omega
theorem let_fmod {q : Int} (hq : LetQ q) (x : Int) : IsLet q (x.fmod q) := by
  have := hq.lo
  exact ⟨Int.fmod_nonneg_of_pos _ (by omega), Int.fmod_lt_of_pos _ (by omega)⟩
theorem let_sum {q a b : Int} (hq : LetQ q) (ha : IsLet q a) (hb : IsLet q b) : IsLet q (lsum q a b) := by
  unfold lsum
  split
  · rename_i e
    rcases four_cases e ha with rfl | rfl | rfl | rfl <;> rcases four_cases e hb with rfl | rfl | rfl | rfl <;> subst e <;> exact ⟨by decide, by decide⟩
  · exact let_fmod hq _
theorem let_neg {q a : Int} (hq : LetQ q) (ha : IsLet q a) : IsLet q (lneg q a) := by
  unfold lneg
  split
  · exact ha
  · exact let_fmod hq _
theorem let_tim {q a b : Int} (hq : LetQ q) (ha : IsLet q a) (hb : IsLet q b) : IsLet q (ltim q a b) := by
  unfold ltim
  split
  · rename_i e
    rcases four_cases e ha with rfl | rfl | rfl | rfl <;> rcases four_cases e hb with rfl | rfl | rfl | rfl <;> subst e <;> exact ⟨by decide, by decide⟩
  · exact let_fmod hq _
theorem let_inv {q a : Int} (hq : LetQ q) (ha : IsLet q a) (a0 : a ≠ 0) : IsLet q (linv q a) := by
  have hs := linv_some hq ha a0
  unfold linv
  cases hf : ((List.range q.toNat).map (fun n : Nat => (n : Int))).find? fun x => decide (ltim q a x = 1) with
  | none =>
    rw [hf] at hs
    cases hs
  | some x =>
    obtain ⟨n, hn, rfl⟩ := List.mem_map.mp (List.mem_of_find?_eq_some hf)
    rw [List.mem_range] at hn
    exact ⟨by simp, by simp; omega⟩
def wza (q : Int) (p : Nat) (row head : List Int) : List Int := List.zipWith (lsum q) row (head.map (ltim q (lneg q (row.getD p 0))))
theorem row_at {q : Int} {ns : List Int} (h : IsRow q ns) {p : Nat} (hp : p < ns.length) : IsLet q (ns.getD p 0) := by
  rw [List.getD_eq_getElem?_getD, List.getElem?_eq_getElem hp]
  exact h _ (List.getElem_mem hp)
theorem row_wza {q : Int} (hq : LetQ q) {p : Nat} {row head : List Int} (hr : IsRow q row) (hh : IsRow q head) (hp : p < row.length) : IsRow q (wza q p row head) := by
  intro c hc
  unfold wza at hc
  obtain ⟨i, hi, rfl⟩ := List.mem_iff_getElem.mp hc
  rw [List.getElem_zipWith, List.getElem_map]
  exact let_sum hq (hr _ (List.getElem_mem _)) (let_tim hq (let_neg hq (row_at hr hp)) (hh _ (List.getElem_mem _)))
section
variable {w : World} {K : PySem.W.Frag} {mg : Str → Option Value} {base : Heap}
def spWza (K : PySem.W.Frag) : Sp := fun vs H Q _ => ∃ (q : Int) (p : Nat) (u v : V) (row head : List Int), vs = [.int q, .int (p : Int), u, v] ∧ LetQ q ∧ TI K H u row ∧ TI K H v head ∧ IsRow q row ∧ IsRow q head ∧ p < row.length ∧ row.length ≤ 1000 ∧ head.length ≤ 1000 ∧
  ∀ z H', Same H H' → TI K H' z (wza q p row head) → Q z H'
theorem ok_with_zero_at (T : Txt K mg) : FnOk P w K mg base CX0 3 T.a_with_zero_at T.d_with_zero_at P_with_zero_at (spWza K) := by
  refine T.F_with_zero_at.ok sc_with_zero_at (fun vs H Q E h => ?_) (fun cdv A outer s H vs Q E hr h => ?_)
  · obtain ⟨q, p, u, v, row, head, rfl, _⟩ := h
    rfl
  · obtain ⟨q, p, _, v, row, head, rfl, hq, ⟨a, rfl, ha⟩, hv, hrow, hhead, hp, hl, hl2, k⟩ := h
    refine ⟨_, 
      (pss_one (ps_ret (pe_call (ok_row_sum T) (hr.mono (by decide)) rfl T.m_row_sum T.F_row_sum.kp T.b_row_sum .nil pass0 (pa_cons (pv 0) (pa_cons (pv 2) (pa_cons (pe_call (ok_row_times T) (hr.mono (by decide)) rfl T.m_row_times T.F_row_times.kp T.b_row_times .nil pass0 (pa_cons (pv 0) (pa_cons (pe_call (ok_letter_negative T) (hr.mono (by decide)) rfl T.m_letter_negative T.F_letter_negative.kp T.b_letter_negative .nil pass0 (pa_cons (pv 0) (pa_cons (pe_ix (r := rIxT K) ix_tup (pv 2) (pv 1) (fun _ _ => rfl)) pa_nil))) (pa_cons (pv 3) pa_nil)))) pa_nil)))))), ?_⟩
    refine ⟨_, rfl, _, rfl, _, rfl, _, rfl, _, rfl, _, rfl, a, _, _, .int (row.getD p 0), rfl, rfl, ha, atI_nat ?_, q, _, rfl, hq, _, rfl, q, _, v, head, rfl, hq, let_neg hq (row_at hrow hp), hv, hhead, hl2, fun z H1 s1 hz => ?_⟩
    · rw [List.getElem?_map, List.getD_eq_getElem?_getD, List.getElem?_eq_getElem hp]
      rfl
    · exact ⟨q, _, _, row, _, rfl, hq, ⟨a, rfl, s1.tup ha⟩, hz, hl, fun y H2 s2 hy => k y H2 (s1.trans s2) hy⟩
end
end K24
end
section
set_option maxRecDepth 100000
set_option maxHeartbeats 4000000
namespace K24
open PySem PySem.Spec PyProof.Rows L2 MB PM
open LamX hiding takes0
def gstep (q : Int) (s : List (List Int) × List (List Int)) (p : Nat) : List (List Int) × List (List Int) :=
  match s.1.filter (fun r => r.getD p 0 != 0) with
  | [] => s
  | h :: _ => (s.1.map fun r => wza q p r (h.map (ltim q (linv q (h.getD p 0)))), (s.2.map fun r => wza q p r (h.map (ltim q (linv q (h.getD p 0))))) ++ [h.map (ltim q (linv q (h.getD p 0)))])
def gauss (q : Int) (n : Nat) (rows : List (List Int)) : List (List Int) := ((List.range n).foldl (gstep q) (rows, [])).2
def AllR (q : Int) (n : Nat) (Ls : List (List Int)) : Prop := ∀ r ∈ Ls, IsRow q r ∧ r.length = n
def RowsAt (K : PySem.W.Frag) (H : Hp) (L : Addr) (Ls : List (List Int)) : Prop := ∃ vs, H L = some (.lst vs) ∧ Paired (TI K H) vs Ls
def TupRows (K : PySem.W.Frag) (H : Hp) (v : V) (Ls : List (List Int)) : Prop := ∃ a vs, v = .ref a ∧ SqT K H a vs ∧ Paired (TI K H) vs Ls
theorem rows_same {K : PySem.W.Frag} {H H' : Hp} {vs : List V} {Ls : List (List Int)} (e : Same H H') (h : Paired (TI K H) vs Ls) : Paired (TI K H') vs Ls := by
  induction h with
  | nil => exact .nil
  | cons r _ ih => exact .cons (r.same e) ih
theorem ti_updl {K : PySem.W.Frag} {H : Hp} {L : Addr} {us : List V} {o : List V} {v : V} {ns : List Int} (hL : H L = some (.lst us)) (h : TI K H v ns) : TI K (upd H L (.lst o)) v ns := by
  obtain ⟨t, rfl, ht⟩ := h
  refine ⟨t, rfl, ?_⟩
  rcases ht with (q | ⟨ob, q⟩) | q
  · have ne : t ≠ L := ne_of q hL (by intro z; cases z)
    exact .inl (.inl ((upd_ne ne).trans q))
  · have ne : t ≠ L := ne_of q hL (by intro z; cases z)
    exact .inl (.inr ⟨ob, (upd_ne ne).trans q⟩)
  · exact .inr q
theorem rows_updl {K : PySem.W.Frag} {H : Hp} {L : Addr} {us o vs : List V} {Ls : List (List Int)} (hL : H L = some (.lst us)) (h : Paired (TI K H) vs Ls) : Paired (TI K (upd H L (.lst o))) vs Ls := by
  induction h with
  | nil => exact .nil
  | cons r _ ih => exact .cons (ti_updl hL r) ih
theorem paired_snoc {α β : Type} {R : α → β → Prop} {xs : List α} {ys : List β} {x : α} {y : β} (h : Paired R xs ys) (r : R x y) : Paired R (xs ++ [x]) (ys ++ [y]) := by
  induction h with
  | nil => exact .cons r .nil
  | cons a _ ih => exact .cons a ih
section
variable {w : World} {K : PySem.W.Frag} {mg : Str → Option Value} {base : Heap}
def spRed (K : PySem.W.Frag) : Sp := fun vs H Q _ => ∃ (q : Int) (n : Nat) (v : V) (Ls : List (List Int)), vs = [.int q, .int (n : Int), v] ∧ LetQ q ∧ n ≤ 8 ∧ TupRows K H v Ls ∧ AllR q n Ls ∧ Ls.length ≤ 1000 ∧
  ∀ z H', Same H H' → TupRows K H' z (gauss q n Ls) → Q z H'
theorem ok_reduced_rows (T : Txt K mg) : FnOk P w K mg base CX0 4 T.a_reduced_rows T.d_reduced_rows P_reduced_rows (spRed K) := by
  refine T.F_reduced_rows.ok sc_reduced_rows (fun vs H Q E h => ?_) (fun cdv A outer s H vs Q E hr h => ?_)
  · obtain ⟨q, n, v, Ls, rfl, _⟩ := h
    rfl
  · obtain ⟨q, n, _, Ls, rfl, hq, hn, ⟨a, vs, rfl, ha, hp⟩, hall, hl, k⟩ := h
    refine ⟨_, 
      (pss_cons (ps_set (i := 3) sc_reduced_rows.nd rfl (Or.inl rfl) (pe_callTy call_list_of (by rfl) T.m_list (by decide +kernel) (pa_cons (pv 2) pa_nil)))
      (pss_cons (ps_set (i := 4) sc_reduced_rows.nd rfl (Or.inl rfl) (pe_lst pa_nil))
      (pss_cons (ps_for PassesOwn.never rfl (pi_range1 rfl T.m_range (pa_cons (pv 1) pa_nil)) (pg_name (i := 5) sc_reduced_rows.nd rfl (Or.inr rfl)) (pss_cons (ps_setLc (i := 6) (own := [("row", 8)]) (g := gName 8)  rfl sc_reduced_rows.nd rfl rfl (sw_true rfl rfl rfl (by decide +kernel)) (pi_list (pv 3)) (blkOk_by (own := [("row", 8)]) (N := N_reduced_rows) (sc := defScope s_reduced_rows) (by decide +kernel)) (fun _ _ _ _ _ => (pg_name (i := 8) sc_reduced_rows.nd rfl (Or.inl rfl))) (fun _ _ _ _ _ => (pts_one (pt_cmpR op_ne (pe_ix (r := rIxT K) ix_tup (pv 8) (pv 5) (fun _ _ => rfl)) pe_int (nomark _)))) (fun _ _ _ _ _ => (pv 8)))
      (pss_one (ps_if (pt_truth (pv 6) (by intro _; rfl)) (pss_cons (ps_set (i := 7) sc_reduced_rows.nd rfl (Or.inr rfl) (pe_call (ok_row_times T) (hr.mono (by decide)) rfl T.m_row_times T.F_row_times.kp T.b_row_times .nil pass0 (pa_cons (pv 0) (pa_cons (pe_call (ok_letter_inverse T) (hr.mono (by decide)) rfl T.m_letter_inverse T.F_letter_inverse.kp T.b_letter_inverse .nil pass0 (pa_cons (pv 0) (pa_cons (pe_ix (r := rIxT K) ix_tup (pe_ix (r := rIxL K) ix_list (pv 6) pe_int (fun _ _ => rfl)) (pv 5) (fun _ _ => rfl)) pa_nil))) (pa_cons (pe_ix (r := rIxL K) ix_list (pv 6) pe_int (fun _ _ => rfl)) pa_nil)))))
      (pss_cons (ps_setLc (i := 3) (own := [("row", 8)]) (g := gName 8) (tt := tYes) rfl sc_reduced_rows.nd rfl rfl (sw_true rfl rfl rfl (by decide +kernel)) (pi_list (pv 3)) (blkOk_by (own := [("row", 8)]) (N := N_reduced_rows) (sc := defScope s_reduced_rows) (by decide +kernel)) (fun _ _ _ _ _ => (pg_name (i := 8) sc_reduced_rows.nd rfl (Or.inl rfl))) (fun _ _ _ _ _ => pts_nil) (fun _ _ _ _ _ => (pe_call (ok_with_zero_at T) (hr.mono (by decide)) rfl T.m_with_zero_at T.F_with_zero_at.kp T.b_with_zero_at .nil pass0 (pa_cons (pv 0) (pa_cons (pv 5) (pa_cons (pv 8) (pa_cons (pv 7) pa_nil)))))))
      (pss_cons (ps_setLc (i := 4) (own := [("row", 8)]) (g := gName 8) (tt := tYes) rfl sc_reduced_rows.nd rfl rfl (sw_true rfl rfl rfl (by decide +kernel)) (pi_list (pv 4)) (blkOk_by (own := [("row", 8)]) (N := N_reduced_rows) (sc := defScope s_reduced_rows) (by decide +kernel)) (fun _ _ _ _ _ => (pg_name (i := 8) sc_reduced_rows.nd rfl (Or.inl rfl))) (fun _ _ _ _ _ => pts_nil) (fun _ _ _ _ _ => (pe_call (ok_with_zero_at T) (hr.mono (by decide)) rfl T.m_with_zero_at T.F_with_zero_at.kp T.b_with_zero_at .nil pass0 (pa_cons (pv 0) (pa_cons (pv 5) (pa_cons (pv 8) (pa_cons (pv 7) pa_nil)))))))
      (pss_one (ps_expr (pe_bm PySem.F.plainAttrs_list PySem.F.slot_list_append PySem.F.type_list_append mt_append (pv 4) (pa_cons (pv 7) pa_nil))))))) pss_nil))))
      (pss_one (ps_ret (pe_callTy call_tuple_of (by rfl) T.m_tuple (by decide +kernel) (pa_cons (pv 4) pa_nil))))))), ?_⟩
    refine ⟨_, rfl, a, _, rfl, .inr ha, fun L0 hL0 => ?_⟩
    refine ⟨Nat.zero_le _, fun D0 hD0 => ?_⟩
    have sD : Same H (upd (upd H L0 (.lst vs)) D0 (.lst [])) := (same_upd hL0).trans (same_upd hD0)
    refine ⟨_, rfl, _, rfl, by omega, by omega, for_range (lo := 0) (n := (n : Int).toNat)
      (fun i σ H' => ∃ L D o5 o6 o7, σ = [some (.int q), some (.int (n : Int)), some (.ref a), some (.ref L), some (.ref D), o5, o6, o7, none] ∧ Same H H' ∧
        RowsAt K H' L ((List.range i).foldl (gstep q) (Ls, [])).1 ∧ RowsAt K H' D ((List.range i).foldl (gstep q) (Ls, [])).2 ∧
        AllR q n ((List.range i).foldl (gstep q) (Ls, [])).1 ∧ AllR q n ((List.range i).foldl (gstep q) (Ls, [])).2 ∧
        ((List.range i).foldl (gstep q) (Ls, [])).1.length ≤ 1000 ∧ ((List.range i).foldl (gstep q) (Ls, [])).2.length ≤ i)
      ⟨L0, D0, none, none, none, rfl, sD, ⟨vs, (same_upd hD0) _ _ upd_same, rows_same sD hp⟩, ⟨[], upd_same, .nil⟩, hall, (fun r hr => by cases hr), hl, Nat.le_refl _⟩ ?_ ?_⟩
    · rintro i _ H1 hi ⟨L, D, o5, o6, o7, rfl, s1, hL, hD, aL, aD, lL, lD⟩
      rw [List.range_succ, List.foldl_append, List.foldl_cons, List.foldl_nil]
      generalize (List.range i).foldl (gstep q) (Ls, []) = st at hL hD aL aD lL lD
      have hin : i < n := by omega
      obtain ⟨vL, hLl, pL⟩ := hL
      refine ⟨_, rfl, _, rfl, ⟨_, SqL.of hLl⟩, fun G0 hG0 => ?_⟩
      refine lc_it (walk_list (K := K) (a := L) (xs := vL))
        (fun i2 G => Same H1 G ∧ ∃ ws, G G0 = some (.lst ws) ∧ Paired (TI K G) ws ((st.1.take i2).filter fun r => r.getD i 0 != 0))
        ⟨same_upd hG0, [], upd_same, .nil⟩ (fun i2 G _ ⟨e, _⟩ => SqL.of (e _ _ hLl)) ?_ ?_
      · rintro i2 x G _ hi2 ⟨e, ws, hw, pw⟩ ⟨rfl, hx⟩
        obtain ⟨r, hr2, ti⟩ := paired_at pL hx
        have hm : r ∈ st.1 := List.mem_of_getElem? hr2
        obtain ⟨ir, lr⟩ := aL r hm
        obtain ⟨t, rfl, ht⟩ := TI.same ti e
        refine ⟨rfl, ?_⟩
        have hir : i < r.length := by omega
        have gd : r.getD i 0 = r[i] := by rw [List.getD_eq_getElem?_getD, List.getElem?_eq_getElem hir]; rfl
        refine ⟨_, rfl, _, rfl, t, _, _, .int r[i], rfl, rfl, ht, ?_, rfl, _, rfl, ?_⟩
        · rw [show (0 : Int) + (i : Int) = (i : Int) from Int.zero_add _]
          exact atI_nat (by rw [List.getElem?_map, List.getElem?_eq_getElem hir]; rfl)
        · rw [dec_int]
          have hwl : ws.length ≤ i2 := by
            rw [pw.length]
            exact Nat.le_trans (List.length_filter_le _ _) (by rw [List.length_take]; omega)
          have lM : st.1.length = vL.length := pL.length.symm
          refine ite2 (fun c => ?_) (fun c => ?_)
          · have c' : (r.getD i 0 != 0) = true := by
              rw [gd]
              simpa using c
            refine ⟨_, rfl, ws, hw, line_le (by omega), same_set hG0 e, ws ++ [.ref t], upd_same, ?_⟩
            rw [List.take_add_one, hr2, List.filter_append]
            show Paired _ _ (_ ++ List.filter _ [r])
            rw [List.filter_cons_of_pos (by exact c'), List.filter_nil]
            exact paired_snoc (rows_updl hw pw) (ti_updl hw ⟨t, rfl, ht⟩)
          · have c' : ¬ ((r.getD i 0 != 0) = true) := by
              rw [gd]
              simpa using c
            refine ⟨e, ws, hw, ?_⟩
            rw [List.take_add_one, hr2, List.filter_append]
            show Paired _ _ (_ ++ List.filter _ [r])
            rw [List.filter_cons_of_neg (by exact c'), List.filter_nil, List.append_nil]
            exact pw
      rintro H2 ⟨e2, ws, hw, pw⟩
      rw [pL.length, List.take_length] at pw
      have hLr2 : RowsAt K H2 L st.1 := ⟨vL, e2 _ _ hLl, rows_same e2 pL⟩
      have hDr2 : RowsAt K H2 D st.2 := let ⟨vD, h1, h2⟩ := hD; ⟨vD, e2 _ _ h1, rows_same e2 h2⟩
      have s2 := s1.trans e2
      unfold gstep
      cases hf : st.1.filter (fun r => r.getD i 0 != 0) with
      | nil =>
        rw [hf] at pw
        cases pw
        refine ⟨_, rfl, false, ?_, ?_⟩
        · exact .inl ⟨[], SqL.of hw, rfl⟩
        · refine iteF ?_
          exact ⟨L, D, _, _, _, rfl, s2, hLr2, hDr2, aL, aD, lL, Nat.le_succ_of_le lD⟩
      | cons h hs =>
        rw [hf] at pw
        refine ⟨_, rfl, true, ?_, ?_⟩
        · exact .inl ⟨ws, SqL.of hw, by cases pw; rfl⟩
        · refine iteT ?_
          cases pw with
          | @cons v0 _ vr _ t0 tr =>
            obtain ⟨a0, rfl, ha0⟩ := t0
            have hmem : h ∈ st.1.filter (fun r => r.getD i 0 != 0) := by rw [hf]; exact List.mem_cons_self
            obtain ⟨hm1, hm2⟩ := List.mem_filter.mp hmem
            obtain ⟨ih0, lh0⟩ := aL h hm1
            have hih : i < h.length := by omega
            have c0 : h.getD i 0 ≠ 0 := by simpa using hm2
            have lti := row_at ih0 hih
            have gd : (h.map V.int)[i]? = some (.int (h.getD i 0)) := by
              rw [List.getElem?_map, List.getD_eq_getElem?_getD, List.getElem?_eq_getElem hih]
              rfl
            refine ⟨_, rfl, _, rfl, _, rfl, G0, _, 0, .ref a0, rfl, rfl, SqL.of hw, atI_nat (j := 0) rfl, _, rfl, a0, _, _, .int (h.getD i 0), rfl, rfl, ha0, ?_, q, _, rfl, hq, lti, c0, fun H2' s2' => ?_⟩
            · rw [show (0 : Int) + (i : Int) = (i : Int) from Int.zero_add _]
              exact atI_nat gd
            refine ⟨_, rfl, G0, _, 0, .ref a0, rfl, rfl, SqL.of (s2' _ _ hw), atI_nat (j := 0) rfl, q, _, _, h, rfl, hq, let_inv hq lti c0, ⟨a0, rfl, s2'.tup ha0⟩, ih0, by omega, fun hv H3 s3 thd => ?_⟩
            have hdr : IsRow q (h.map (ltim q (linv q (h.getD i 0)))) := fun c hc => by
              obtain ⟨x, hx, rfl⟩ := List.mem_map.mp hc
              exact let_tim hq (let_inv hq lti c0) (ih0 x hx)
            have hdl : (h.map (ltim q (linv q (h.getD i 0)))).length = n := by rw [List.length_map]; exact lh0
            have s13 := s2.trans (s2'.trans s3)
            have hLr : RowsAt K H3 L st.1 := let ⟨w1, h1, h2⟩ := hLr2; ⟨w1, (s2'.trans s3) _ _ h1, rows_same (s2'.trans s3) h2⟩
            have hDr3 : RowsAt K H3 D st.2 := let ⟨w1, h1, h2⟩ := hDr2; ⟨w1, (s2'.trans s3) _ _ h1, rows_same (s2'.trans s3) h2⟩
            generalize hgd : h.map (ltim q (linv q (h.getD i 0))) = hd at thd hdr hdl
            obtain ⟨vA, lA, pA⟩ := hLr
            refine ⟨_, rfl, _, rfl, ⟨_, SqL.of lA⟩, fun LA hLA => ?_⟩
            refine lc_it (walk_list (K := K) (a := L) (xs := vA))
              (fun i2 G => Same H3 G ∧ ∃ ws, G LA = some (.lst ws) ∧ Paired (TI K G) ws ((st.1.take i2).map fun r => wza q i r hd))
              ⟨same_upd hLA, [], upd_same, .nil⟩ (fun i2 G _ ⟨e, _⟩ => SqL.of (e _ _ lA)) ?_ ?_
            · rintro i2 x G _ hi2 ⟨e, ws, hw, pw⟩ ⟨rfl, hx⟩
              obtain ⟨r, hr2, ti⟩ := paired_at pA hx
              have hm : r ∈ st.1 := List.mem_of_getElem? hr2
              obtain ⟨ir, lr⟩ := aL r hm
              have tiG := TI.same ti e
              refine ⟨rfl, ?_⟩
              refine ⟨_, rfl, _, rfl, _, rfl, _, rfl, q, i, _, _, r, hd, by rw [show ((0 : Int) + (i : Int)) = (i : Int) from Int.zero_add _]; rfl, hq, tiG, TI.same thd ((Same.refl _).trans e), ir, hdr, by omega, by omega, by omega, fun z G2 s2 hz => ?_⟩
              have hwl : ws.length ≤ i2 := by
                rw [pw.length, List.length_map, List.length_take]
                omega
              have lM : st.1.length = vA.length := pA.length.symm
              refine ⟨ws, s2 _ _ hw, line_le (by omega), same_set hLA (e.trans s2), ws ++ [z], upd_same, ?_⟩
              have g2 := s2 _ _ hw
              have pw2 := rows_updl (o := ws ++ [z]) g2 (rows_same s2 pw)
              rw [List.take_add_one, hr2]
              rw [List.map_append]
              exact paired_snoc pw2 (ti_updl g2 hz)
            rintro H4 ⟨eA, wsA, hwA, pwA⟩
            rw [pA.length, List.take_length] at pwA
            have hDr : RowsAt K H4 D st.2 := let ⟨w1, h1, h2⟩ := hDr3; ⟨w1, eA _ _ h1, rows_same eA h2⟩
            obtain ⟨vB, lB, pB⟩ := hDr
            refine ⟨_, rfl, _, rfl, ⟨_, SqL.of lB⟩, fun LB hLB => ?_⟩
            refine lc_it (walk_list (K := K) (a := D) (xs := vB))
              (fun i2 G => Same H4 G ∧ ∃ ws, G LB = some (.lst ws) ∧ Paired (TI K G) ws ((st.2.take i2).map fun r => wza q i r hd))
              ⟨same_upd hLB, [], upd_same, .nil⟩ (fun i2 G _ ⟨e, _⟩ => SqL.of (e _ _ lB)) ?_ ?_
            · rintro i2 x G _ hi2 ⟨e, ws, hw, pw⟩ ⟨rfl, hx⟩
              obtain ⟨r, hr2, ti⟩ := paired_at pB hx
              have hm : r ∈ st.2 := List.mem_of_getElem? hr2
              obtain ⟨ir, lr⟩ := aD r hm
              have tiG := TI.same ti e
              refine ⟨rfl, ?_⟩
              refine ⟨_, rfl, _, rfl, _, rfl, _, rfl, q, i, _, _, r, hd, by rw [show ((0 : Int) + (i : Int)) = (i : Int) from Int.zero_add _]; rfl, hq, tiG, TI.same thd (eA.trans e), ir, hdr, by omega, by omega, by omega, fun z G2 s2 hz => ?_⟩
              have hwl : ws.length ≤ i2 := by
                rw [pw.length, List.length_map, List.length_take]
                omega
              have lM : st.2.length = vB.length := pB.length.symm
              refine ⟨ws, s2 _ _ hw, line_le (by omega), same_set hLB (e.trans s2), ws ++ [z], upd_same, ?_⟩
              have g2 := s2 _ _ hw
              have pw2 := rows_updl (o := ws ++ [z]) g2 (rows_same s2 pw)
              rw [List.take_add_one, hr2]
              rw [List.map_append]
              exact paired_snoc pw2 (ti_updl g2 hz)
            rintro H5 ⟨eB, wsB, hwB, pwB⟩
            rw [pB.length, List.take_length] at pwB
            have nLB : H LB = none := (s13.trans eA).free hLB
            have lB1 : wsB.length ≤ 8 := by
              rw [pwB.length, List.length_map]
              omega
            refine ⟨_, rfl, .inl ⟨rfl, _, SqL.of hwB⟩, _, rfl, LB, _, _, rfl, rfl, hwB, line_le (by omega), ?_⟩
            have neAB : LA ≠ LB := ne_of_none hwA hLB
            have mapR : ∀ Ms, AllR q n Ms → AllR q n (Ms.map fun r => wza q i r hd) := fun Ms al r hr => by
              obtain ⟨x, hx, rfl⟩ := List.mem_map.mp hr
              obtain ⟨ix, lx⟩ := al x hx
              refine ⟨row_wza hq ix hdr (by omega), ?_⟩
              unfold wza
              rw [List.length_zipWith, List.length_map]
              omega
            subst hgd
            refine ⟨LA, LB, _, _, _, rfl, same_set nLB ((s13.trans eA).trans eB), ⟨wsA, (upd_ne neAB).trans (eB _ _ hwA), rows_updl hwB (rows_same eB pwA)⟩,
              ⟨wsB ++ [hv], upd_same, paired_snoc (rows_updl hwB pwB) (ti_updl hwB (TI.same thd (eA.trans eB)))⟩, mapR _ aL, ?_, ?_, ?_⟩
            · intro r hr
              rcases List.mem_append.mp hr with hr | hr
              · exact mapR _ aD r hr
              · rw [List.mem_singleton.mp hr]
                exact ⟨hdr, hdl⟩
            · rw [List.length_map]
              exact lL
            · rw [List.length_append, List.length_map]
              exact Nat.succ_le_succ lD
    · rintro _ H1 ⟨L, D, o5, o6, o7, rfl, s1, hL, hD, aL, aD, lL, lD⟩
      obtain ⟨vD, hDl, pD⟩ := hD
      refine ⟨_, rfl, D, _, rfl, .inl ⟨SqL.of hDl, fun p4 hp4 => ?_⟩⟩
      have e4 := same_upd (o := .tup vD) hp4
      refine k _ _ (s1.trans e4) ⟨p4, vD, rfl, SqT.of upd_same, rows_same e4 ?_⟩
      have z : (n : Int).toNat = n := by omega
      rw [z] at pD
      exact pD
end
end K24
end
section
set_option maxRecDepth 100000
set_option maxHeartbeats 4000000
namespace K24
open PySem PySem.Spec PyProof.Rows L2 MB PM
open LamX hiding takes0
section
variable {w : World} {K : PySem.W.Frag} {mg : Str → Option Value} {base : Heap}
def inFrom (lo hi : Int) : Option Int → Bool
  | none => false
  | some i => decide (lo ≤ i) && decide (i ≤ hi)
def spFrom (K : PySem.W.Frag) : Sp := fun vs H Q _ => ∃ (v : V) (lo hi : Int) (o : Option Int), vs = [v, .int lo, .int hi] ∧ IntQ K H v o ∧ Q (.bl (inFrom lo hi o)) H
theorem ok_is_integer_from (T : Txt K mg) : FnOk P w K mg base CX0 2 T.a_is_integer_from T.d_is_integer_from P_is_integer_from (spFrom K) := by
  refine T.F_is_integer_from.ok sc_is_integer_from (fun vs H Q E h => ?_) (fun cdv A outer s H vs Q E hr h => ?_)
  · obtain ⟨v, lo, hi, o, rfl, _⟩ := h
    rfl
  · obtain ⟨v, lo, hi, o, rfl, hv, k⟩ := h
    refine ⟨_, 
      (pss_one (ps_ret (pe_and (pe_call (ok_is_integer T) (hr.mono (by decide)) rfl T.m_is_integer T.F_is_integer.kp T.b_is_integer .nil pass0 (pa_cons (pv 0) pa_nil)) (pe_one (pe_chain op_le op_le (pv 1) (pv 0) (pv 2)))))), ?_⟩
    refine ⟨_, rfl, v, o, rfl, hv, o.isSome, rfl, ?_⟩
    cases o with
    | none => exact iteF k
    | some i =>
      obtain rfl : v = .int i := hv
      refine iteT ?_
      have k' : Q (.bl (decide (lo ≤ i) && decide (i ≤ hi))) H := k
      refine ⟨_, rfl, _, rfl, _, _, rfl, rfl, decide (lo ≤ i), rfl, ?_⟩
      by_cases c : lo ≤ i
      · rw [decide_eq_true c] at k' ⊢
        exact iteT ⟨_, rfl, _, _, rfl, rfl, k'⟩
      · rw [decide_eq_false c] at k' ⊢
        exact iteF k'
def allFrom (lo hi : Int) : Option (List (Option Int)) → Bool
  | none => false
  | some os => os.all (inFrom lo hi)
def spsFrom (K : PySem.W.Frag) : Sp := fun vs H Q _ => ∃ (v : V) (lo hi : Int) (o : Option (List (Option Int))), vs = [v, .int lo, .int hi] ∧ Lev K H v o ∧ ∀ H', Same H H' → Q (.bl (allFrom lo hi o)) H'
theorem ok_are_integers_from (T : Txt K mg) : FnOk P w K mg base CX0 3 T.a_are_integers_from T.d_are_integers_from P_are_integers_from (spsFrom K) := by
  refine T.F_are_integers_from.ok sc_are_integers_from (fun vs H Q E h => ?_) (fun cdv A outer s H vs Q E hr h => ?_)
  · obtain ⟨v, lo, hi, o, rfl, _⟩ := h
    rfl
  · obtain ⟨v, lo, hi, o, rfl, hv, k⟩ := h
    refine ⟨_, 
      (pss_one (ps_ret (pe_and (pe_callB (id := "isinstance") (r := rIsi K) call_isi (by rfl) T.m_isinstance (by decide +kernel) (pa_cons (pv 0) (pa_cons (pe_bltn (by rfl) T.m_tuple (v := .ty "tuple") (by decide +kernel) rfl) pa_nil))) (pe_one (pe_callB (cr_all rfl) (by rfl) T.m_all (by decide +kernel) (pa_cons (pe_lc (own := [("item", 3)]) (g := gName 3) (tt := tYes) rfl sc_are_integers_from.nd (pi_tup (pv 0)) (blkOk_by (own := [("item", 3)]) (N := N_are_integers_from) (sc := defScope s_are_integers_from) (by decide +kernel)) (fun _ _ _ _ _ => (pg_name (i := 3) sc_are_integers_from.nd rfl (Or.inl rfl))) (fun _ _ _ _ _ => pts_nil) (fun _ _ _ _ _ => (pe_call (ok_is_integer_from T) (hr.mono (by decide)) rfl T.m_is_integer_from T.F_is_integer_from.kp T.b_is_integer_from .nil pass0 (pa_cons (pv 3) (pa_cons (pv 1) (pa_cons (pv 2) pa_nil)))))) pa_nil)))))), ?_⟩
    cases o with
    | none =>
      obtain ⟨t, ht, hk⟩ := hv
      refine ⟨_, rfl, _, _, _, _, _, rfl, .ty "tuple", ht, hk, false, rfl, ?_⟩
      exact iteF (k H (Same.refl _))
    | some os =>
      obtain ⟨xs, ⟨a, rfl, ha⟩, hp, hl⟩ := hv
      refine ⟨_, rfl, _, _, _, _, _, rfl, .ty "tuple", tyx_tup ha, kit_ty (r := true) (by decide +kernel), true, rfl, ?_⟩
      refine iteT ?_
      refine ⟨_, rfl, a, rfl, ⟨_, ha⟩, fun D hD => lc_it (walk_tup (K := K) (a := a) (xs := xs))
        (fun i H' => ∃ H0, Same H H0 ∧ H' = upd H0 D (.lst ((os.take i).map fun o => V.bl (inFrom lo hi o)))) ⟨H, Same.refl _, rfl⟩ ?_ ?_ ?_⟩
      · rintro i _ _ ⟨H0, e, rfl⟩
        exact (same_set hD e).tup ha
      · rintro i x _ _ hi ⟨H0, e, rfl⟩ ⟨rfl, hx⟩
        obtain ⟨y, hy, r⟩ := paired_at hp hx
        refine ⟨rfl, ?_⟩
        refine ⟨_, rfl, _, rfl, _, rfl, x, lo, _, y, rfl, r.same (same_set hD e), _, upd_same, by rw [List.length_map, List.length_take]; exact line_le (by omega), H0, e, ?_⟩
        rw [upd_upd, take_map_add _ hy]
      · rintro _ ⟨H0, e, rfl⟩
        have hle : os.length = xs.length := hp.length.symm
        refine ⟨D, os.map (inFrom lo hi), rfl, SqL.of (by rw [upd_same, ← hle, List.take_length, List.map_map]; rfl), ?_⟩
        have z := k _ (same_set (o := .lst ((os.take xs.length).map fun o => V.bl (inFrom lo hi o))) hD e)
        rw [List.all_map]
        exact z
def spLets (K : PySem.W.Frag) : Sp := fun vs H Q _ => ∃ (q : Int) (v : V) (o : Option (List (Option Int))), vs = [.int q, v] ∧ Lev K H v o ∧ ∀ H', Same H H' → Q (.bl (allFrom 0 (q - 1) o)) H'
theorem ok_are_letters (T : Txt K mg) : FnOk P w K mg base CX0 4 T.a_are_letters T.d_are_letters P_are_letters (spLets K) := by
  refine T.F_are_letters.ok sc_are_letters (fun vs H Q E h => ?_) (fun cdv A outer s H vs Q E hr h => ?_)
  · obtain ⟨q, v, o, rfl, _⟩ := h
    rfl
  · obtain ⟨q, v, o, rfl, hv, k⟩ := h
    refine ⟨_, 
      (pss_one (ps_ret (pe_call (ok_are_integers_from T) (hr.mono (by decide)) rfl T.m_are_integers_from T.F_are_integers_from.kp T.b_are_integers_from .nil pass0 (pa_cons (pv 1) (pa_cons pe_int (pa_cons (pe_op op_sub (pv 0) pe_int) pa_nil)))))), ?_⟩
    exact ⟨_, rfl, _, rfl, _, _, rfl, rfl, v, 0, _, o, rfl, hv, k⟩
def rowQ (q : Int) (n : Int) : Option (List (Option Int)) → Bool
  | none => false
  | some os => allFrom 0 (q - 1) (some os) && decide ((os.length : Int) = n)
def spIsRow (K : PySem.W.Frag) : Sp := fun vs H Q _ => ∃ (q n : Int) (v : V) (o : Option (List (Option Int))), vs = [.int q, .int n, v] ∧ Lev K H v o ∧ ∀ H', Same H H' → Q (.bl (rowQ q n o)) H'
theorem ok_is_row (T : Txt K mg) : FnOk P w K mg base CX0 5 T.a_is_row T.d_is_row P_is_row (spIsRow K) := by
  refine T.F_is_row.ok sc_is_row (fun vs H Q E h => ?_) (fun cdv A outer s H vs Q E hr h => ?_)
  · obtain ⟨q, n, v, o, rfl, _⟩ := h
    rfl
  · obtain ⟨q, n, v, o, rfl, hv, k⟩ := h
    refine ⟨_, 
      (pss_one (ps_ret (pe_and (pe_call (ok_are_letters T) (hr.mono (by decide)) rfl T.m_are_letters T.F_are_letters.kp T.b_are_letters .nil pass0 (pa_cons (pv 0) (pa_cons (pv 2) pa_nil))) (pe_one (pe_cmpR op_eq (pe_callB call_len_seq (by rfl) T.m_len (by decide +kernel) (pa_cons (pv 2) pa_nil)) (pv 1) (nomark _)))))), ?_⟩
    refine ⟨_, rfl, _, rfl, q, v, o, rfl, hv, fun H1 s1 => ⟨allFrom 0 (q - 1) o, rfl, ?_⟩⟩
    cases o with
    | none => exact iteF (k H1 s1)
    | some os =>
      obtain ⟨xs, ⟨a, rfl, ha⟩, hp, hl⟩ := hv
      have z := k H1 s1
      refine ite2 (fun e => ?_) (fun e => ?_)
      · refine ⟨_, rfl, a, _, rfl, .inr (s1.tup ha), _, rfl, rfl, ?_⟩
        rw [dec_int, hp.length]
        have e2 : rowQ q n (some os) = decide ((os.length : Int) = n) := by
          show (allFrom 0 (q - 1) (some os) && _) = _
          rw [e, Bool.true_and]
        rw [e2] at z
        exact z
      · have e1 : allFrom 0 (q - 1) (some os) = false := by simpa using e
        have e2 : rowQ q n (some os) = false := by
          show (allFrom 0 (q - 1) (some os) && _) = _
          rw [e1, Bool.false_and]
        rw [e2] at z
        exact z
def spChkF : Sp := fun vs H Q _ => ∃ q : Int, vs = [.int q] ∧ LetQ q ∧ Q .non H
theorem ok_check_field (T : Txt K mg) : FnOk P w K mg base CX0 3 T.a_check_field T.d_check_field P_check_field spChkF := by
  refine T.F_check_field.ok sc_check_field (fun vs H Q E h => ?_) (fun cdv A outer s H vs Q E hr h => ?_)
  · obtain ⟨q, rfl, _⟩ := h
    rfl
  · obtain ⟨q, rfl, hq, k⟩ := h
    refine ⟨_, 
      (pss_one (ps_if (pt_not (pt_val (pe_call (ok_is_integer_from T) (hr.mono (by decide)) rfl T.m_is_integer_from T.F_is_integer_from.kp T.b_is_integer_from .nil pass0 (pa_cons (pv 0) (pa_cons pe_int (pa_cons pe_int pa_nil)))))) (pss_one ps_never) pss_nil)), ?_⟩
    have e : inFrom 2 5 (some q) = true := by
      show (decide (2 ≤ q) && decide (q ≤ 5)) = true
      rw [decide_eq_true hq.lo, decide_eq_true hq.hi]
      rfl
    refine ⟨_, rfl, _, 2, 5, some q, rfl, rfl, _, rfl, ?_⟩
    rw [e]
    exact iteF k
end
end K24
end
section
set_option maxRecDepth 100000
set_option maxHeartbeats 4000000
namespace K24
open PySem PySem.Spec PyProof.Rows L2 MB PM
open LamX hiding takes0
theorem rowQ_row {q n : Int} {r : List Int} (h : IsRow q r) (hl : (r.length : Int) = n) : rowQ q n (some (r.map some)) = true := by
  show ((r.map some).all (inFrom 0 (q - 1)) && decide (((r.map some).length : Int) = n)) = true
  rw [List.length_map, decide_eq_true hl, Bool.and_true, List.all_map, List.all_eq_true]
  intro c hc
  obtain ⟨h1, h2⟩ := h c hc
  show (decide (0 ≤ c) && decide (c ≤ q - 1)) = true
  rw [decide_eq_true h1, decide_eq_true (by omega)]
  rfl
theorem sqT_ins {K : PySem.W.Frag} {H : Hp} {b C dx : Addr} {fs : List (Str × V)} {o : HO} {a : Addr} {xs : List V} (hb : H b = some (.ins C dx fs)) (h : SqT K H a xs) : SqT K (upd H b o) a xs := by
  rcases h with (q | ⟨ob, q⟩) | q
  · exact .inl (.inl ((upd_ne (ne_of q hb (by intro z; cases z))).trans q))
  · exact .inl (.inr ⟨ob, (upd_ne (ne_of q hb (by intro z; cases z))).trans q⟩)
  · exact .inr q
theorem rows_ins {K : PySem.W.Frag} {H : Hp} {b C dx : Addr} {fs : List (Str × V)} {o : HO} {vs : List V} {Ls : List (List Int)} (hb : H b = some (.ins C dx fs)) (h : Paired (TI K H) vs Ls) : Paired (TI K (upd H b o)) vs Ls := by
  induction h with
  | nil => exact .nil
  | cons r _ ih =>
    obtain ⟨t, rfl, ht⟩ := r
    exact .cons ⟨t, rfl, sqT_ins hb ht⟩ ih
section
variable {w : World} {K : PySem.W.Frag} {mg : Str → Option Value} {base : Heap}
def BookAt (K : PySem.W.Frag) (C : Addr) (H : Hp) (b : Addr) (q n : Int) (Rs : List (List Int)) : Prop := ∃ (dx : Addr) (fs : List (Str × V)) (z : V), H b = some (.ins C dx fs) ∧
  fs.lookup ("q" : Str) = some (.int q) ∧ fs.lookup ("n" : Str) = some (.int n) ∧ fs.lookup ("rows" : Str) = some z ∧ fs.lookup ("dimension" : Str) = some (.int (Rs.length : Int)) ∧ TupRows K H z Rs
def spBook (K : PySem.W.Frag) (C : Addr) : Sp := fun vs H Q _ => ∃ (H0 : Hp) (b dx : Addr) (q : Int) (n : Nat) (v : V) (Ls : List (List Int)), vs = [.ref b, .int q, .int (n : Int), v] ∧ Same H0 H ∧ H0 b = none ∧ H b = some (.ins C dx []) ∧
  LetQ q ∧ (1 ≤ n ∧ n ≤ 8) ∧ TupRows K H0 v Ls ∧ AllR q n Ls ∧ Ls.length ≤ 16 ∧ ∀ H', Same H0 H' → BookAt K C H' b q n (gauss q n Ls) → Q .non H'
theorem ok_Book___init__ (T : Txt K mg) : FnOk P w K mg base CX0 6 T.a_Book___init__ T.d_Book___init__ P_Book___init__ (spBook K T.C_Book) := by
  refine T.F_Book___init__.ok sc_Book___init__ (fun vs H Q E h => ?_) (fun cdv A outer s H vs Q E hr h => ?_)
  · obtain ⟨H0, b, dx, q, n, v, Ls, rfl, _⟩ := h
    rfl
  · obtain ⟨H0, b, dx, q, n, _, Ls, rfl, s0, b0, hb, hq, ⟨n1, n8⟩, ⟨a, vs, rfl, ha, hp⟩, hall, hl, k⟩ := h
    refine ⟨_, 
      (pss_cons (ps_expr (pe_call (ok_check_field T) (hr.mono (by decide)) rfl T.m_check_field T.F_check_field.kp T.b_check_field .nil pass0 (pa_cons (pv 1) pa_nil)))
      (pss_cons (ps_if (pt_not (pt_val (pe_call (ok_is_integer_from T) (hr.mono (by decide)) rfl T.m_is_integer_from T.F_is_integer_from.kp T.b_is_integer_from .nil pass0 (pa_cons (pv 2) (pa_cons pe_int (pa_cons (pe_glob (v := .int 8) rfl T.m_MOST_PLACES ⟨_, rfl⟩) pa_nil)))))) (pss_one ps_never) pss_nil)
      (pss_cons (ps_if (PW.pt (pw_or (pt_not (pt_val (pe_callB (id := "isinstance") (r := rIsi K) call_isi (by rfl) T.m_isinstance (by decide +kernel) (pa_cons (pv 3) (pa_cons (pe_bltn (by rfl) T.m_tuple (v := .ty "tuple") (by decide +kernel) rfl) pa_nil))))) (pw_or1 (pt_cmpR op_gt (pe_callB call_len_seq (by rfl) T.m_len (by decide +kernel) (pa_cons (pv 3) pa_nil)) (pe_glob (v := .int 16) rfl T.m_MOST_ROWS ⟨_, rfl⟩) (nomark _))))) (pss_one ps_never) pss_nil)
      (pss_cons (ps_for PassesOwn.never rfl (pi_enumT (by rfl) T.m_enumerate (pa_cons (pv 3) pa_nil)) (pg_tup rfl (pgs_cons (pg_name (i := 4) sc_Book___init__.nd rfl (Or.inl rfl)) (pgs_cons (pg_name (i := 5) sc_Book___init__.nd rfl (Or.inl rfl)) pgs_nil))) (pss_one (ps_if (pt_not (pt_val (pe_call (ok_is_row T) (hr.mono (by decide)) rfl T.m_is_row T.F_is_row.kp T.b_is_row .nil pass0 (pa_cons (pv 1) (pa_cons (pv 2) (pa_cons (pv 5) pa_nil)))))) (pss_one ps_never) pss_nil)))
      (pss_cons (ps_fld (pv 0) (pv 1) rfl)
      (pss_cons (ps_fld (pv 0) (pv 2) rfl)
      (pss_cons (ps_fld (pv 0) (pe_call (ok_reduced_rows T) (hr.mono (by decide)) rfl T.m_reduced_rows T.F_reduced_rows.kp T.b_reduced_rows .nil pass0 (pa_cons (pv 1) (pa_cons (pv 2) (pa_cons (pv 3) pa_nil)))) rfl)
      (pss_one (ps_fld (pv 0) (pe_callB call_len_seq (by rfl) T.m_len (by decide +kernel) (pa_cons (pe_fld (pv 0) rfl) pa_nil)) rfl))))))))), ?_⟩
    have haH := sqT_same s0 ha
    have hpH := rows_same s0 hp
    have lv : vs.length ≤ 16 := by rw [hp.length]; exact hl
    refine ⟨_, rfl, q, rfl, hq, ?_⟩
    have e1 : inFrom 1 8 (some (n : Int)) = true := by
      show (decide ((1 : Int) ≤ (n : Int)) && decide ((n : Int) ≤ 8)) = true
      rw [decide_eq_true (by omega), decide_eq_true (by omega)]
      rfl
    refine ⟨_, rfl, _, 1, 8, some (n : Int), rfl, rfl, _, rfl, ?_⟩
    rw [e1]
    refine iteF ?_
    refine ⟨_, rfl, _, _, _, _, _, rfl, .ty "tuple", tyx_tup haH, kit_ty (r := true) (by decide +kernel), true, rfl, iteF ?_⟩
    refine ⟨_, rfl, a, _, rfl, .inr haH, _, _, rfl, rfl, _, rfl, ?_⟩
    rw [decide_eq_false (by omega)]
    refine iteF ?_
    refine ⟨_, rfl, a, _, rfl, haH, for_it (walk_enumT (K := K) (a := a) (xs := vs))
      (fun i σ H' => ∃ u4 u5, σ = [some (.ref b), some (.int q), some (.int (n : Int)), some (.ref a), u4, u5] ∧ Same H H') ⟨none, none, rfl, Same.refl _⟩ (fun i σ H' _ ⟨_, _, _, e⟩ => e.tup haH) ?_ ?_⟩
    · rintro i v _ H' H'' hi ⟨u4, u5, rfl, e⟩ ⟨T0, x, y, rfl, hT0, rfl, hx, hy⟩
      obtain rfl : x = V.int (i : Nat) := (Option.some.inj hx).symm
      obtain ⟨r, hr2, ti⟩ := paired_at hpH hy
      obtain ⟨ir, lr⟩ := hall r (List.mem_of_getElem? hr2)
      have e1' : Same H (upd H' T0 (.tup [.int (i : Nat), y])) := e.trans (same_upd hT0)
      refine ⟨T0, _, rfl, SqT.of upd_same, rfl, _, _, rfl, _, _, rfl, rfl, ?_⟩
      refine ⟨_, rfl, _, rfl, _, rfl, q, (n : Int), y, some (r.map some), rfl, ti_lev (TI.same ti e1') (by omega), fun H3 s3 => ⟨rowQ q n (some (r.map some)), rfl, ?_⟩⟩
      rw [rowQ_row ir (by rw [lr])]
      exact iteF ⟨_, _, rfl, e1'.trans s3⟩
    · rintro _ H' ⟨u4, u5, rfl, e⟩
      have bne : ∀ {o : HO} {p : Addr}, H0 p = some o → p ≠ b := fun {o p} z w => by
        rw [w, b0] at z
        cases z
      have put : ∀ {G : Hp} {o : HO}, Same H0 G → Same H0 (upd G b o) := fun {G o} z c u w => by
        rw [upd_ne (bne w)]
        exact z c u w
      have sb := s0.trans e
      refine ⟨_, rfl, _, rfl, b, T.C_Book, dx, _, rfl, e _ _ hb, T.cl_Book, T.no_Book_q, (by decide : 0 < 1000), ?_⟩
      refine ⟨_, rfl, _, rfl, b, T.C_Book, dx, _, rfl, upd_same, T.cl_Book, T.no_Book_n, (by decide : 1 < 1000), ?_⟩
      have s2 := put (o := .ins T.C_Book dx (putF "n" (.int (n : Int)) (putF "q" (.int q) []))) (put (o := .ins T.C_Book dx (putF "q" (.int q) [])) sb)
      refine ⟨_, rfl, _, rfl, _, rfl, q, n, _, Ls, rfl, hq, n8, ⟨a, vs, rfl, sqT_same s2 ha, rows_same s2 hp⟩, hall, by omega, fun z H3 s3 hz => ?_⟩
      refine ⟨_, rfl, b, T.C_Book, dx, _, rfl, s3 _ _ upd_same, T.cl_Book, T.no_Book_rows, (by decide : 2 < 1000), ?_⟩
      obtain ⟨az, vz, rfl, haz, hpz⟩ := hz
      have hb3 := s3 _ _ (upd_same (a := b))
      have haz4 := sqT_ins (o := .ins T.C_Book dx (putF "rows" (.ref az) (putF "n" (.int (n : Int)) (putF "q" (.int q) [])))) hb3 haz
      refine ⟨_, rfl, b, T.C_Book, dx, _, .ref az, rfl, upd_same, T.cl_Book, T.no_Book_rows, rfl, az, vz, rfl, .inr haz4, _, rfl, b, T.C_Book, dx, _, rfl, upd_same, T.cl_Book, T.no_Book_dimension, (by decide : 3 < 1000), ?_⟩
      rw [upd_upd]
      refine k _ (put (s2.trans s3)) ⟨dx, _, .ref az, upd_same, rfl, rfl, rfl, ?_, az, vz, rfl, sqT_ins hb3 haz, rows_ins hb3 hpz⟩
      rw [← hpz.length]
      rfl
end
end K24
end
section
set_option maxRecDepth 100000
set_option maxHeartbeats 4000000
namespace K24
open PySem PySem.Spec PyProof.Rows L2 MB PM
open LamX hiding takes0
def rowsD (Rs : List (List Int)) : PyData := .tuple (Rs.map fun r => .tuple (r.map PyData.int))
theorem dp_rows {K : PySem.W.Frag} {H : Hp} {vs : List V} {Rs : List (List Int)} (h : Paired (TI K H) vs Rs) : DpAll K H vs (Rs.map fun r => PyData.tuple (r.map PyData.int)) := by
  induction h with
  | nil => exact .nil
  | cons r _ ih =>
    obtain ⟨a, rfl, ha⟩ := r
    exact .cons (.tup ha (dp_ints _)) ih
theorem rows_lay : ∀ Rs : List (List Int), PyData.canLayAll0 (Rs.map fun r => PyData.tuple (r.map PyData.int)) = true
  | [] => by simp only [List.map_nil, PyData.canLayAll0]
  | r :: Rs => by simp only [List.map_cons, PyData.canLayAll0, PyData.canLay0, ints_lay, rows_lay Rs, Bool.and_self]
theorem rows_depth : ∀ Rs : List (List Int), PyData.depthAll (Rs.map fun r => PyData.tuple (r.map PyData.int)) ≤ 1
  | [] => by simp only [List.map_nil, PyData.depthAll]; decide
  | r :: Rs => by
    simp only [List.map_cons, PyData.depthAll, PyData.depth, ints_depth]
    exact Nat.max_le.mpr ⟨Nat.le_refl _, rows_depth Rs⟩
theorem rows_can (Rs : List (List Int)) : (rowsD Rs).canLay0 = true := by
  unfold rowsD
  simp only [PyData.canLay0]
  exact rows_lay Rs
theorem rows_shaped (Rs : List (List Int)) : SeqAt.shaped (rowsD Rs) = true := by
  unfold SeqAt.shaped
  rw [rows_can, Bool.true_and]
  have h := rows_depth Rs
  refine decide_eq_true ?_
  unfold rowsD
  simp only [PyData.depth]
  omega
theorem rows_refl (Rs : List (List Int)) : PyData.eqv (rowsD Rs) (rowsD Rs) = true := by
  first | exact P3.eqv_refl _ (rows_can Rs) | exact PyData.eqv_refl _ (rows_can Rs) | exact PySem.eqv_refl _ (rows_can Rs) | exact SeqAt.eqv_refl _ (rows_can Rs)
section
variable {w : World} {K : PySem.W.Frag} {mg : Str → Option Value} {base : Heap}
def Alike (K : PySem.W.Frag) (C : Addr) (a b : Addr) (H : Hp) : Prop := ∃ (q n : Int) (Rs : List (List Int)), BookAt K C H a q n Rs ∧ BookAt K C H b q n Rs ∧ Rs.length ≤ 20
theorem kit_self {K : PySem.W.Frag} {C : Addr} : PySem.W.kitOne K (.ref C) (.ref C) = some true := by
  show (if (Value.ref C == Value.ref C) = true then some true else _) = some true
  rw [beq_self_eq_true]
  rfl
theorem ty_book (T : Txt K mg) {H : Hp} {b dx : Addr} {fs : List (Str × V)} (h : H b = some (.ins T.C_Book dx fs)) : TyX K H (.ref b) (.ref T.C_Book) :=
  .base (.ins h T.cl_Book T.is_Book.ha T.is_Book.hn T.is_Book.ht T.is_Book.hm)
theorem ok_Book___eq__ (T : Txt K mg) : FnOk P w K mg base CX0 1 T.a_Book___eq__ T.d_Book___eq__ P_Book___eq__ (spEq (Alike K T.C_Book)) := by
  refine T.F_Book___eq__.ok sc_Book___eq__ (fun vs H Q E h => ?_) (fun cdv A outer s H vs Q E hr h => ?_)
  · obtain ⟨a, b, rfl, _⟩ := h
    rfl
  · obtain ⟨a, b, rfl, ⟨q, n, Rs, ⟨dx, fs, z, ha, aq, an, ar, ad, hz⟩, ⟨dy, gs, y, hb, bq, bn, br, bd, hy⟩, hl⟩, k⟩ := h
    refine ⟨_, 
      (pss_one (ps_ret (pe_and (pe_callB (id := "isinstance") (r := rIsi K) call_isi (by rfl) T.m_isinstance (by decide +kernel) (pa_cons (pv 1) (pa_cons (pe_glob (v := .ref T.C_Book) rfl T.g_Book rfl) pa_nil))) (pe_and (pe_cmpR op_eq (pe_fld (pv 0) rfl) (pe_fld (pv 1) rfl) (nomark _)) (pe_and (pe_cmpR op_eq (pe_fld (pv 0) rfl) (pe_fld (pv 1) rfl) (nomark _)) (pe_one (pe_cmpR (op_eqD hr.units) (pe_fld (pv 0) rfl) (pe_fld (pv 1) rfl) (nomark _)))))))), ?_⟩
    refine ⟨_, rfl, _, _, _, _, _, rfl, .own T.C_Book, ty_book T hb, kit_self, true, rfl, iteT ?_⟩
    refine ⟨_, rfl, a, _, dx, fs, _, rfl, ha, T.cl_Book, T.no_Book_q, aq, _, rfl, b, _, dy, gs, _, rfl, hb, T.cl_Book, T.no_Book_q, bq, rfl, ?_⟩
    refine ⟨true, by rw [decide_eq_true rfl], iteT ?_⟩
    refine ⟨_, rfl, a, _, dx, fs, _, rfl, ha, T.cl_Book, T.no_Book_n, an, _, rfl, b, _, dy, gs, _, rfl, hb, T.cl_Book, T.no_Book_n, bn, rfl, ?_⟩
    refine ⟨true, by rw [decide_eq_true rfl], iteT ?_⟩
    refine ⟨_, rfl, a, _, dx, fs, z, rfl, ha, T.cl_Book, T.no_Book_rows, ar, _, rfl, b, _, dy, gs, y, rfl, hb, T.cl_Book, T.no_Book_rows, br, ?_⟩
    obtain ⟨c, vc, rfl, hc, pc⟩ := hz
    obtain ⟨e, ve, rfl, he, pe⟩ := hy
    refine ⟨rowsD Rs, rowsD Rs, .tup hc (dp_rows pc), .tup he (dp_rows pe), rows_shaped Rs, rows_shaped Rs, ?_⟩
    rw [rows_refl]
    exact k H Ext.rfl'
end
end K24
end
section
set_option maxRecDepth 100000
set_option maxHeartbeats 4000000
namespace K24
open PySem PySem.Spec PyProof.Rows L2 MB PM
open LamX hiding takes0
theorem cat_rd {K : PySem.W.Frag} {H : Hp} {u v : V} {ns ms : List Int} {Q : VK} (hu : TI K H u ns) (hv : TI K H v ms) (hl : ns.length + ms.length ≤ 100000)
    (q : ∀ z H', Same H H' → TI K H' z (ns ++ ms) → Q z H') : rCatA K u v H Q := by
  obtain ⟨a, rfl, ha⟩ := hu
  obtain ⟨b, rfl, hb⟩ := hv
  refine ⟨a, b, _, _, rfl, rfl, ha, hb, by rw [List.length_map, List.length_map]; exact Nat.le_of_lt (line_le hl), fun e => ?_, fun _ e => ?_, fun _ _ p hp => ?_⟩
  · obtain rfl : ns = [] := List.map_eq_nil_iff.mp e
    exact q _ _ (Same.refl _) ⟨b, rfl, hb⟩
  · obtain rfl : ms = [] := List.map_eq_nil_iff.mp e
    refine q _ _ (Same.refl _) ⟨a, rfl, ?_⟩
    rw [List.append_nil]
    exact ha
  · refine q _ _ (same_upd hp) ⟨p, rfl, ?_⟩
    rw [List.map_append]
    exact SqT.of upd_same
theorem rep_rd {K : PySem.W.Frag} {H : Hp} {u : V} {c k : Int} {Q : VK} (hu : TI K H u [c]) (lo : -1000 ≤ k) (hi : k ≤ 1000)
    (q : ∀ z H', Same H H' → TI K H' z (List.replicate k.toNat c) → Q z H') : rRepA K u (.int k) H Q := by
  obtain ⟨a, rfl, ha⟩ := hu
  refine ⟨a, k, _, rfl, rfl, ha, by simp, by omega, by omega, by simp, fun e => ?_, fun e p hp => ?_⟩
  · subst e
    exact q _ _ (Same.refl _) ⟨a, rfl, ha⟩
  · refine q _ _ (same_upd hp) ⟨p, rfl, ?_⟩
    have z : (List.replicate k.toNat ([c].map V.int)).flatten = (List.replicate k.toNat c).map V.int := by
      simp
    rw [← z]
    exact SqT.of upd_same
theorem trim_good {K : PySem.W.Frag} {C : Addr} {v : V} {ns : List Int} {H : Hp} {Q : VK} {E : XK} (hv : TI K H v ns) (hl : ns.length ≤ 1000) (q : ∀ u H', Same H H' → TI K H' u (trimL ns) → Q u H') : spTrim K C [v] H Q E :=
  ⟨v, _, rfl, ti_lev hv hl, (fun e => by rw [allInt_ints] at e; cases e), fun ms e H' u s hu => by
    obtain rfl := some_inj (Option.some.inj e)
    exact q u H' s hu⟩
section
variable {w : World} {K : PySem.W.Frag} {mg : Str → Option Value} {base : Heap}
def spTwo (K : PySem.W.Frag) (C : Addr) (R : List Int → List Int → Hp → VK → Prop) : Sp := fun vs H Q E => ∃ (u v : V) (ou ov : Option (List (Option Int))), vs = [u, v] ∧ Lev K H u ou ∧ Lev K H v ov ∧
  (polyQ ou = false → ∀ H', Same H H' → Flies E C u H') ∧ (polyQ ou = true → polyQ ov = false → ∀ H', Same H H' → Flies E C v H') ∧
  ∀ ns ms : List Int, ou = some (ns.map some) → ov = some (ms.map some) → isPoly ns = true → isPoly ms = true → R ns ms H Q
def rBin (K : PySem.W.Frag) (f : List Int → List Int → Int → Int) (N L : List Int → List Int → Nat) : List Int → List Int → Hp → VK → Prop := fun ns ms H Q =>
  ns.length ≤ 450 ∧ ms.length ≤ 450 ∧ nrm ns < 2 ^ 60000 ∧ nrm ms < 2 ^ 60000 ∧
  ∀ z l H', Same H H' → TI K H' z l → Res l (f ns ms) (N ns ms) (L ns ms) → Q z H'
abbrev rPlus (K : PySem.W.Frag) := rBin K (fun a b x => ev x a + ev x b) (fun a b => nrm a + nrm b) fun a b => max a.length b.length
abbrev rMinus (K : PySem.W.Frag) := rBin K (fun a b x => ev x a - ev x b) (fun a b => nrm a + nrm b) fun a b => max a.length b.length
abbrev rTimes (K : PySem.W.Frag) := rBin K (fun a b x => ev x a * ev x b) (fun a b => nrm a * nrm b) fun a b => a.length + b.length
theorem two_good {K : PySem.W.Frag} {C : Addr} {R : List Int → List Int → Hp → VK → Prop} {u v : V} {ns ms : List Int} {H : Hp} {Q : VK} {E : XK} (hu : TI K H u ns) (hv : TI K H v ms) (ln : ns.length ≤ 1000) (lm : ms.length ≤ 1000) (pn : isPoly ns = true) (pm : isPoly ms = true) (h : R ns ms H Q) : spTwo K C R [u, v] H Q E :=
  ⟨u, v, _, _, rfl, ti_lev hu ln, ti_lev hv lm, (fun e => by rw [polyQ_ints, pn] at e; cases e), (fun _ e => by rw [polyQ_ints, pm] at e; cases e), fun ns' ms' e1 e2 _ _ => by
    obtain rfl := some_inj (Option.some.inj e1)
    obtain rfl := some_inj (Option.some.inj e2)
    exact h⟩
theorem ok_plus (T : Txt K mg) : FnOk P w K mg base (L2.CX P w) 6 T.a_plus T.d_plus P_plus (spTwo K T.C_BadPolynomial (rPlus K)) := by
  refine T.F_plus.okX sc_plus (fun vs H Q E h => ?_) (fun cdv A outer s H vs Q E hr h => ?_)
  · obtain ⟨u, v, ou, ov, rfl, _⟩ := h
    rfl
  · obtain ⟨u, v, ou, ov, rfl, hu, hv, bad1, bad2, good⟩ := h
    refine ⟨_, 
      (pss_cons (ps_expr (pe_callS (ok_check_two_polynomials T) (hr.mono (by decide)) rfl T.m_check_two_polynomials T.F_check_two_polynomials.kp T.b_check_two_polynomials (fun σ => passAt (takes_of rfl rfl rfl rfl) σ) (pa_cons (pv 0) (pa_cons (pv 1) pa_nil))))
      (pss_cons (ps_set (i := 2) sc_plus.nd rfl (Or.inl rfl) (pe_callB (call_max2 rfl) (by rfl) T.m_max (by decide +kernel) (pa_cons (pe_callB call_len_seq (by rfl) T.m_len (by decide +kernel) (pa_cons (pv 0) pa_nil)) (pa_cons (pe_callB call_len_seq (by rfl) T.m_len (by decide +kernel) (pa_cons (pv 1) pa_nil)) pa_nil))))
      (pss_cons (ps_set (i := 3) sc_plus.nd rfl (Or.inl rfl) (pe_op op_catA (pv 0) (pe_op op_repA (pe_tup (pa_cons pe_int pa_nil)) (pe_op op_sub (pv 2) (pe_callB call_len_seq (by rfl) T.m_len (by decide +kernel) (pa_cons (pv 0) pa_nil))))))
      (pss_cons (ps_set (i := 4) sc_plus.nd rfl (Or.inl rfl) (pe_op op_catA (pv 1) (pe_op op_repA (pe_tup (pa_cons pe_int pa_nil)) (pe_op op_sub (pv 2) (pe_callB call_len_seq (by rfl) T.m_len (by decide +kernel) (pa_cons (pv 1) pa_nil))))))
      (pss_one (ps_ret (pe_callS (ok_trimmed T) (hr.mono (by decide)) rfl T.m_trimmed T.F_trimmed.kp T.b_trimmed (fun σ => passAt (takes_of rfl rfl rfl rfl) σ) (pa_cons (pe_callTy call_tuple_of (by rfl) T.m_tuple (by decide +kernel) (pa_cons (pe_lc (own := [("first", 5), ("second", 6)]) (g := gTup K 2 (gCons (gName 5) (gCons (gName 6) gNil))) (tt := tYes) rfl sc_plus.nd (RZ.pi_zipA (by rfl) T.m_zip (pa_cons (pv 3) (pa_cons (pv 4) pa_nil))) (blkOk_by (own := [("first", 5), ("second", 6)]) (N := N_plus) (sc := defScope s_plus) (by decide +kernel)) (fun _ _ _ _ _ => (pg_tup rfl (pgs_cons (pg_name (i := 5) sc_plus.nd rfl (Or.inl rfl)) (pgs_cons (pg_name (i := 6) sc_plus.nd rfl (Or.inl rfl)) pgs_nil)))) (fun _ _ _ _ _ => pts_nil) (fun _ _ _ _ _ => (pe_op op_add (pv 5) (pv 6)))) pa_nil)) pa_nil)))))))), ?_⟩
    refine ⟨_, rfl, _, rfl, u, v, ou, ov, rfl, hu, hv, bad1, bad2, fun e1 e2 H1 s1 => ?_⟩
    obtain ⟨ns, rfl, pa⟩ := poly_of e1
    obtain ⟨ms, rfl, pb⟩ := poly_of e2
    obtain ⟨la, lb, na, nb, q⟩ := good ns ms rfl rfl pa pb
    obtain ⟨⟨a, rfl, ha⟩, _⟩ := lev_ti hu
    obtain ⟨⟨b, rfl, hb⟩, _⟩ := lev_ti hv
    clear good bad1 bad2 e1 e2
    have ha1 := s1.tup ha
    have hb1 := s1.tup hb
    refine ⟨_, rfl, a, _, rfl, .inr ha1, _, rfl, b, _, rfl, .inr hb1, _, _, rfl, ?_⟩
    refine ⟨_, rfl, (by decide : 1 ≤ sizeLine), fun p hp => ?_⟩
    have s2 := same_upd (o := .tup [.int 0]) hp
    refine ⟨_, rfl, _, rfl, a, _, rfl, .inr (s2.tup ha1), _, _, rfl, rfl, ?_⟩
    refine rep_rd (c := 0) ⟨p, rfl, SqT.of upd_same⟩ ?_ ?_ fun z3 H3 s3 t3 => ?_
    · simp only [List.length_map]
      split <;> omega
    · simp only [List.length_map]
      split <;> omega
    refine cat_rd (ns := ns) ⟨a, rfl, s3.tup (s2.tup ha1)⟩ t3 ?_ fun z4 H4 s4 t4 => ?_
    · rw [List.length_replicate]
      simp only [List.length_map]
      split <;> omega
    have hb4 := s4.tup (s3.tup (s2.tup hb1))
    refine ⟨_, rfl, (by decide : 1 ≤ sizeLine), fun p5 hp5 => ?_⟩
    have s5 := same_upd (o := .tup [.int 0]) hp5
    refine ⟨_, rfl, _, rfl, b, _, rfl, .inr (s5.tup hb4), _, _, rfl, rfl, ?_⟩
    refine rep_rd (c := 0) ⟨p5, rfl, SqT.of upd_same⟩ ?_ ?_ fun z6 H6 s6 t6 => ?_
    · simp only [List.length_map]
      split <;> omega
    · simp only [List.length_map]
      split <;> omega
    refine cat_rd (ns := ms) ⟨b, rfl, s6.tup (s5.tup hb4)⟩ t6 ?_ fun z7 H7 s7 t7 => ?_
    · rw [List.length_replicate]
      simp only [List.length_map]
      split <;> omega
    have t4' := t4.same (s5.trans (s6.trans s7))
    generalize hL : ns ++ List.replicate _ 0 = L at t4'
    generalize hR : ms ++ List.replicate _ 0 = R at t7
    have e1 : L.length = max ns.length ms.length := by
      rw [← hL, List.length_append, List.length_replicate]
      simp only [List.length_map]
      split <;> omega
    have e2 : R.length = max ns.length ms.length := by
      rw [← hR, List.length_append, List.length_replicate]
      simp only [List.length_map]
      split <;> omega
    have evL : ∀ x, ev x L = ev x ns := fun x => by rw [← hL, ev_append, ev_zeros]; simp
    have evR : ∀ x, ev x R = ev x ms := fun x => by rw [← hR, ev_append, ev_zeros]; simp
    have nL : nrm L = nrm ns := by rw [← hL, nrm_append, nrm_zeros]; rfl
    have nR : nrm R = nrm ms := by rw [← hR, nrm_append, nrm_zeros]; rfl
    clear hL hR
    obtain ⟨aL, rfl, hL⟩ := t4'
    obtain ⟨aR, rfl, hR⟩ := t7
    have s17 : Same H H7 := s1.trans (s2.trans (s3.trans (s4.trans (s5.trans (s6.trans s7)))))
    refine ⟨_, rfl, _, rfl, aL, aR, _, _, rfl, .inr ⟨hL, hR, ?_⟩⟩
    refine fun D hD => lc_it (walk_zipT (K := K) (a := aL) (b := aR) (xs := L.map V.int) (ys := R.map V.int) rfl)
      (fun i H' => Same H7 H' ∧ H' D = some (.lst (((List.zipWith (· + ·) L R).take i).map V.int)))
      ⟨same_upd hD, by rw [upd_same]; simp⟩ (fun i H' _ ⟨e, _⟩ => ⟨e.tup hL, e.tup hR⟩) ?_ ?_
    · rintro i v H' H'' hi ⟨e, hacc⟩ ⟨T0, x, y, rfl, hT0, rfl, hx, hy⟩
      obtain ⟨c, hc, rfl⟩ := int_at hx
      obtain ⟨d, hd, rfl⟩ := int_at hy
      have hiL : i < L.length := (List.getElem?_eq_some_iff.mp hc).1
      refine ⟨T0, _, rfl, SqT.of upd_same, rfl, _, _, rfl, _, _, rfl, rfl, rfl, ?_⟩
      refine ⟨_, rfl, _, rfl, _, _, rfl, rfl, _, (upd_ne (ne_of_none hacc hT0)).trans hacc, ?_, ?_, ?_⟩
      · rw [List.length_map, List.length_take]
        exact line_le (by omega)
      · exact same_set hD (e.trans (same_upd hT0))
      · rw [upd_same, List.take_add_one, List.getElem?_zipWith, hc, hd]
        simp
    · rintro H' ⟨e, hacc⟩
      rw [List.length_map, List.length_map, e1, e2, Nat.min_self] at hacc
      have ez : (List.zipWith (· + ·) L R).length = max ns.length ms.length := by
        rw [List.length_zipWith, e1, e2, Nat.min_self]
      rw [List.take_of_length_le (by omega)] at hacc
      refine ⟨D, _, rfl, .inl ⟨SqL.of hacc, fun p8 hp8 => ?_⟩⟩
      refine trim_good ⟨p8, rfl, SqT.of upd_same⟩ (by omega) fun z9 H9 s9 t9 => ?_
      refine q _ _ _ ((s17.trans e).trans ((same_upd hp8).trans s9)) t9 ⟨poly_trimL _, fun x => ?_, ?_, ?_⟩
      · rw [ev_trimL, ev_zip x L R (by omega), evL, evR]
      · rw [nrm_trimL]
        show _ ≤ nrm ns + nrm ms
        rw [← nL, ← nR]
        exact nrm_zip L R
      · exact Nat.le_trans (len_trimL _) (Nat.le_of_eq ez)
end
end K24
end
section
set_option maxRecDepth 100000
set_option maxHeartbeats 4000000
namespace K24
open PySem PySem.Spec PyProof.Rows L2 MB PM
open LamX hiding takes0
theorem nb_pow {l : List Int} {c : Int} {i k : Nat} (h : l[i]? = some c) (hn : nrm l < k) : c.natAbs < k :=
  Nat.lt_of_le_of_lt (mem_nrm (List.mem_of_getElem? h)) hn
section
variable {w : World} {K : PySem.W.Frag} {mg : Str → Option Value} {base : Heap}
def spOne (K : PySem.W.Frag) (C : Addr) (args : V → List V) (R : List Int → Hp → VK → Prop) : Sp := fun vs H Q E => ∃ (v : V) (o : Option (List (Option Int))), vs = args v ∧ Lev K H v o ∧
  (polyQ o = false → ∀ H', Same H H' → Flies E C v H') ∧ ∀ ns : List Int, o = some (ns.map some) → isPoly ns = true → R ns H Q
theorem one_good {K : PySem.W.Frag} {C : Addr} {args : V → List V} {R : List Int → Hp → VK → Prop} {v : V} {ns : List Int} {H : Hp} {Q : VK} {E : XK} (hv : TI K H v ns) (ln : ns.length ≤ 1000) (pn : isPoly ns = true) (h : R ns H Q) : spOne K C args R (args v) H Q E :=
  ⟨v, _, rfl, ti_lev hv ln, (fun e => by rw [polyQ_ints, pn] at e; cases e), fun ns' e1 _ => by
    obtain rfl := some_inj (Option.some.inj e1)
    exact h⟩
def rScale (K : PySem.W.Frag) (k : Int) : List Int → Hp → VK → Prop := fun ns H Q => ns.length ≤ 450 ∧ nrm ns < 2 ^ 60000 ∧ k.natAbs < 2 ^ 60000 ∧ ∀ z l H', Same H H' → TI K H' z l → Res l (fun x => k * ev x ns) (k.natAbs * nrm ns) ns.length → Q z H'
def spScale (K : PySem.W.Frag) (C : Addr) : Sp := fun vs H Q E => ∃ k : Int, spOne K C (fun v => [.int k, v]) (rScale K k) vs H Q E
theorem ok_scaled (T : Txt K mg) : FnOk P w K mg base (L2.CX P w) 5 T.a_scaled T.d_scaled P_scaled (spScale K T.C_BadPolynomial) := by
  refine T.F_scaled.okX sc_scaled (fun vs H Q E h => ?_) (fun cdv A outer s H vs Q E hr h => ?_)
  · obtain ⟨k, v, o, rfl, _⟩ := h
    rfl
  · obtain ⟨k, v, o, rfl, hv, bad, good⟩ := h
    refine ⟨_, 
      (pss_cons (ps_expr (pe_callS (ok_check_polynomial T) (hr.mono (by decide)) rfl T.m_check_polynomial T.F_check_polynomial.kp T.b_check_polynomial (fun σ => passAt (takes_of rfl rfl rfl rfl) σ) (pa_cons (pv 1) pa_nil)))
      (pss_one (ps_ret (pe_callS (ok_trimmed T) (hr.mono (by decide)) rfl T.m_trimmed T.F_trimmed.kp T.b_trimmed (fun σ => passAt (takes_of rfl rfl rfl rfl) σ) (pa_cons (pe_callTy call_tuple_of (by rfl) T.m_tuple (by decide +kernel) (pa_cons (pe_lc (own := [("coefficient", 2)]) (g := gName 2) (tt := tYes) rfl sc_scaled.nd (pi_tup (pv 1)) (blkOk_by (own := [("coefficient", 2)]) (N := N_scaled) (sc := defScope s_scaled) (by decide +kernel)) (fun _ _ _ _ _ => (pg_name (i := 2) sc_scaled.nd rfl (Or.inl rfl))) (fun _ _ _ _ _ => pts_nil) (fun _ _ _ _ _ => (pe_op op_mulW (pv 0) (pv 2)))) pa_nil)) pa_nil))))), ?_⟩
    refine ⟨_, rfl, v, o, rfl, hv, bad, fun e1 H1 s1 => ?_⟩
    obtain ⟨ns, rfl, pa⟩ := poly_of e1
    obtain ⟨la, na, nk, q⟩ := good ns rfl pa
    obtain ⟨⟨a, rfl, ha⟩, _⟩ := lev_ti hv
    clear good bad e1
    have h1 := s1.tup ha
    refine ⟨_, rfl, a, rfl, ⟨_, h1⟩, fun D hD => lc_it (walk_tup (K := K) (a := a) (xs := ns.map V.int))
      (fun i H' => Same H1 H' ∧ H' D = some (.lst (((ns.map (k * ·)).take i).map V.int))) ⟨same_upd hD, by rw [upd_same]; simp⟩ (fun i H' _ ⟨e, _⟩ => e.tup h1) ?_ ?_⟩
    · rintro i x H' _ hi ⟨e, hacc⟩ ⟨rfl, hx⟩
      obtain ⟨c, hc, rfl⟩ := int_at hx
      refine ⟨rfl, ?_⟩
      refine ⟨_, rfl, _, rfl, _, _, rfl, rfl, wide_mul nk (nb_pow hc na) (by decide) (by decide) (by decide), _, hacc, ?_, same_set hD e, ?_⟩
      · rw [List.length_map, List.length_take, List.length_map]
        exact line_le (by omega)
      · rw [upd_same, List.take_add_one, List.getElem?_map, hc]
        simp
    · rintro H' ⟨e, hacc⟩
      rw [List.length_map, List.take_of_length_le (by simp)] at hacc
      refine ⟨D, _, rfl, .inl ⟨SqL.of hacc, fun p8 hp8 => ?_⟩⟩
      refine trim_good ⟨p8, rfl, SqT.of upd_same⟩ (by rw [List.length_map]; omega) fun z9 H9 s9 t9 => ?_
      refine q _ _ _ ((s1.trans e).trans ((same_upd hp8).trans s9)) t9 ⟨poly_trimL _, fun x => ?_, ?_, ?_⟩
      · rw [ev_trimL, ev_scale]
      · rw [nrm_trimL, nrm_scale]
        exact Nat.le_refl _
      · have := len_trimL (ns.map (k * ·))
        rw [List.length_map] at this
        exact this
theorem ok_minus (T : Txt K mg) : FnOk P w K mg base (L2.CX P w) 7 T.a_minus T.d_minus P_minus (spTwo K T.C_BadPolynomial (rMinus K)) := by
  refine T.F_minus.okX sc_minus (fun vs H Q E h => ?_) (fun cdv A outer s H vs Q E hr h => ?_)
  · obtain ⟨u, v, ou, ov, rfl, _⟩ := h
    rfl
  · obtain ⟨u, v, ou, ov, rfl, hu, hv, bad1, bad2, good⟩ := h
    refine ⟨_, 
      (pss_cons (ps_expr (pe_callS (ok_check_two_polynomials T) (hr.mono (by decide)) rfl T.m_check_two_polynomials T.F_check_two_polynomials.kp T.b_check_two_polynomials (fun σ => passAt (takes_of rfl rfl rfl rfl) σ) (pa_cons (pv 0) (pa_cons (pv 1) pa_nil))))
      (pss_one (ps_ret (pe_callS (ok_plus T) (hr.mono (by decide)) rfl T.m_plus T.F_plus.kp T.b_plus (fun σ => passAt (takes_of rfl rfl rfl rfl) σ) (pa_cons (pv 0) (pa_cons (pe_callS (ok_scaled T) (hr.mono (by decide)) rfl T.m_scaled T.F_scaled.kp T.b_scaled (fun σ => passAt (takes_of rfl rfl rfl rfl) σ) (pa_cons (pe_un un_neg pe_int) (pa_cons (pv 1) pa_nil))) pa_nil)))))), ?_⟩
    refine ⟨_, rfl, _, rfl, u, v, ou, ov, rfl, hu, hv, bad1, bad2, fun e1 e2 H1 s1 => ?_⟩
    obtain ⟨ns, rfl, pa⟩ := poly_of e1
    obtain ⟨ms, rfl, pb⟩ := poly_of e2
    obtain ⟨la, lb, na, nb, q⟩ := good ns ms rfl rfl pa pb
    obtain ⟨⟨a, rfl, ha⟩, _⟩ := lev_ti hu
    obtain ⟨⟨b, rfl, hb⟩, _⟩ := lev_ti hv
    clear good bad1 bad2 e1 e2
    have ha1 := s1.tup ha
    have hb1 := s1.tup hb
    refine ⟨_, rfl, 1, rfl, _, rfl, -1, one_good (args := fun v => [.int (-1), v]) ⟨b, rfl, hb1⟩ (by omega) pb ⟨lb, nb, Nat.lt_of_lt_of_le (by decide : (-1 : Int).natAbs < 2 ^ 1) (Nat.pow_le_pow_right (by decide) (by decide)), fun z l H2 s2 t2 r2 => ?_⟩⟩
    refine two_good ⟨a, rfl, s2.tup ha1⟩ t2 (by omega) (Nat.le_trans r2.z (by omega)) pa r2.p ⟨la, Nat.le_trans r2.z lb, na, ?_, fun z3 l3 H3 s3 t3 r3 => ?_⟩
    · have := r2.n
      simp only [Int.natAbs_neg, Int.natAbs_one, Nat.one_mul] at this
      exact Nat.lt_of_le_of_lt this nb
    · refine q z3 l3 H3 (s1.trans (s2.trans s3)) t3 ⟨r3.p, fun x => ?_, ?_, ?_⟩
      · rw [r3.e]
        show ev x ns + ev x l = ev x ns - ev x ms
        rw [r2.e]
        omega
      · have h1 := r3.n
        have h2 := r2.n
        simp only [Int.natAbs_neg, Int.natAbs_one, Nat.one_mul] at h2
        show _ ≤ nrm ns + nrm ms
        exact Nat.le_trans h1 (Nat.add_le_add_left h2 _)
      · have h1 := r3.z
        have h2 := r2.z
        show _ ≤ max ns.length ms.length
        have h3 : l3.length ≤ max ns.length l.length := h1
        omega
theorem ok_times (T : Txt K mg) : FnOk P w K mg base (L2.CX P w) 6 T.a_times T.d_times P_times (spTwo K T.C_BadPolynomial (rTimes K)) := by
  refine T.F_times.okX sc_times (fun vs H Q E h => ?_) (fun cdv A outer s H vs Q E hr h => ?_)
  · obtain ⟨u, v, ou, ov, rfl, _⟩ := h
    rfl
  · obtain ⟨u, v, ou, ov, rfl, hu, hv, bad1, bad2, good⟩ := h
    refine ⟨_, 
      (pss_cons (ps_expr (pe_callS (ok_check_two_polynomials T) (hr.mono (by decide)) rfl T.m_check_two_polynomials T.F_check_two_polynomials.kp T.b_check_two_polynomials (fun σ => passAt (takes_of rfl rfl rfl rfl) σ) (pa_cons (pv 0) (pa_cons (pv 1) pa_nil))))
      (pss_cons (ps_set (i := 2) sc_times.nd rfl (Or.inl rfl) (pe_op op_rep (pe_lst (pa_cons pe_int pa_nil)) (pe_op op_add (pe_callB call_len_seq (by rfl) T.m_len (by decide +kernel) (pa_cons (pv 0) pa_nil)) (pe_callB call_len_seq (by rfl) T.m_len (by decide +kernel) (pa_cons (pv 1) pa_nil)))))
      (pss_cons (ps_for (passes_of rfl) rfl (pi_enumT (by rfl) T.m_enumerate (pa_cons (pv 0) pa_nil)) (pg_tup rfl (pgs_cons (pg_name (i := 3) sc_times.nd rfl (Or.inl rfl)) (pgs_cons (pg_name (i := 4) sc_times.nd rfl (Or.inl rfl)) pgs_nil))) (pss_one (ps_for (passes_of rfl) rfl (pi_enumT (by rfl) T.m_enumerate (pa_cons (pv 1) pa_nil)) (pg_tup rfl (pgs_cons (pg_name (i := 5) sc_times.nd rfl (Or.inl rfl)) (pgs_cons (pg_name (i := 6) sc_times.nd rfl (Or.inl rfl)) pgs_nil))) (pss_one (ps_asg (pe_op op_add (pe_ix (r := rIxL K) ix_list (pv 2) (pe_op op_add (pv 3) (pv 5)) (fun _ _ => rfl)) (pe_op op_mulW (pv 4) (pv 6))) (pg_sub (pv 2) (pe_op op_add (pv 3) (pv 5)) set_list))))))
      (pss_one (ps_ret (pe_callS (ok_trimmed T) (hr.mono (by decide)) rfl T.m_trimmed T.F_trimmed.kp T.b_trimmed (fun σ => passAt (takes_of rfl rfl rfl rfl) σ) (pa_cons (pe_callTy call_tuple_of (by rfl) T.m_tuple (by decide +kernel) (pa_cons (pv 2) pa_nil)) pa_nil))))))), ?_⟩
    refine ⟨_, rfl, _, rfl, u, v, ou, ov, rfl, hu, hv, bad1, bad2, fun e1 e2 H1 s1 => ?_⟩
    obtain ⟨ns, rfl, pa⟩ := poly_of e1
    obtain ⟨ms, rfl, pb⟩ := poly_of e2
    obtain ⟨la, lb, na, nb, q⟩ := good ns ms rfl rfl pa pb
    obtain ⟨⟨a, rfl, ha⟩, _⟩ := lev_ti hu
    obtain ⟨⟨b, rfl, hb⟩, _⟩ := lev_ti hv
    clear good bad1 bad2 e1 e2
    have ha1 := s1.tup ha
    have hb1 := s1.tup hb
    refine ⟨(by decide : 1 ≤ sizeLine), fun p hp => ?_⟩
    have s2 := same_upd (o := .lst [.int 0]) hp
    refine ⟨_, rfl, a, _, rfl, .inr (s2.tup ha1), _, rfl, b, _, rfl, .inr (s2.tup hb1), _, _, rfl, rfl, ?_⟩
    refine ⟨p, _, _, rfl, rfl, upd_same, ?_, ?_, ?_, fun D hD => ?_⟩
    · simp only [List.length_map]
      omega
    · simp only [List.length_map]
      omega
    · have e : ([V.int 0] : List V).length * (((ns.map V.int).length : Int) + ((ms.map V.int).length : Int)).toNat = ns.length + ms.length := by
        simp only [List.length_map, List.length_cons, List.length_nil]
        omega
      rw [e]
      exact Nat.le_of_lt (line_le (by omega))
    have s3 : Same H1 (upd (upd H1 p (.lst [.int 0])) D (.lst (List.replicate (((ns.map V.int).length : Int) + ((ms.map V.int).length : Int)).toNat [V.int 0]).flatten)) :=
      s2.trans (same_upd hD)
    have hD1 : H1 D = none := s2.free hD
    have eflat : (List.replicate (((ns.map V.int).length : Int) + ((ms.map V.int).length : Int)).toNat [V.int 0]).flatten = (List.replicate (ns.length + ms.length) (0 : Int)).map V.int := by
      rw [show (((ns.map V.int).length : Int) + ((ms.map V.int).length : Int)).toNat = ns.length + ms.length by simp only [List.length_map]; omega]
      simp
    rw [eflat] at s3
    rw [eflat]
    refine ⟨_, rfl, a, _, rfl, s3.tup ha1, for_it (walk_enumT (K := K) (a := a) (xs := ns.map V.int))
      (fun i σ H' => ∃ (lo fi hi se : Option V) (L : List Int), σ = [some (.ref a), some (.ref b), some (.ref D), lo, fi, hi, se] ∧ Same H1 H' ∧ H' D = some (.lst (L.map V.int)) ∧ L.length = ns.length + ms.length ∧
        (∀ x, ev x L = ev x (ns.take i) * ev x ms) ∧ nrm L ≤ nrm (ns.take i) * nrm ms)
      ⟨none, none, none, none, _, rfl, s3, upd_same, by simp, fun x => by rw [ev_zeros]; simp [ev], by rw [nrm_zeros]; exact Nat.zero_le _⟩
      (fun i σ H' _ ⟨_, _, _, _, _, _, e, _⟩ => e.tup ha1) ?_ ?_⟩
    · rintro i v _ H' H'' hi ⟨lo, fi, hi', se, L, rfl, e, hL, lL, eL, nL⟩ ⟨T0, x, y, rfl, hT0, rfl, hx, hy⟩
      obtain rfl : x = V.int (i : Nat) := (Option.some.inj hx).symm
      obtain ⟨c, hc, rfl⟩ := int_at hy
      have hin : i < ns.length := (List.getElem?_eq_some_iff.mp hc).1
      have e1 : Same H1 (upd H' T0 (.tup [.int (i : Nat), .int c])) := e.trans (same_upd hT0)
      refine ⟨T0, _, rfl, SqT.of upd_same, rfl, _, _, rfl, _, _, rfl, rfl, ?_⟩
      refine ⟨_, rfl, b, _, rfl, e1.tup hb1, for_it (walk_enumT (K := K) (a := b) (xs := ms.map V.int))
        (fun j σ H' => ∃ (hi se : Option V) (L : List Int), σ = [some (.ref a), some (.ref b), some (.ref D), some (.int (i : Nat)), some (.int c), hi, se] ∧ Same H1 H' ∧ H' D = some (.lst (L.map V.int)) ∧ L.length = ns.length + ms.length ∧
          (∀ x, ev x L = ev x (ns.take i) * ev x ms + x ^ i * c * ev x (ms.take j)) ∧ nrm L ≤ nrm (ns.take i) * nrm ms + c.natAbs * nrm (ms.take j))
        ⟨_, _, L, rfl, e1, (upd_ne (ne_of_none hL hT0)).trans hL, lL, fun x => by rw [eL]; simp [ev], by simp [nrm]; exact nL⟩
        (fun j σ H' _ ⟨_, _, _, _, e, _⟩ => e.tup hb1) ?_ ?_⟩
      · rintro j v _ H2 _ hj ⟨hi2, se2, M, rfl, e2, hM, lM, eM, nM⟩ ⟨T1, x, y, rfl, hT1, rfl, hx, hy⟩
        obtain rfl : x = V.int (j : Nat) := (Option.some.inj hx).symm
        obtain ⟨d, hd, rfl⟩ := int_at hy
        have hjm : j < ms.length := (List.getElem?_eq_some_iff.mp hd).1
        have hM1 : (upd H2 T1 (.tup [.int (j : Nat), .int d])) D = some (.lst (M.map V.int)) := (upd_ne (ne_of_none hM hT1)).trans hM
        obtain ⟨m, hm⟩ : ∃ m, M[i + j]? = some m := ⟨_, List.getElem?_eq_getElem (by omega)⟩
        refine ⟨T1, _, rfl, SqT.of upd_same, rfl, _, _, rfl, _, _, rfl, rfl, ?_⟩
        refine ⟨_, rfl, _, rfl, _, rfl, _, _, rfl, rfl, D, _, _, .int m, rfl, rfl, SqL.of hM1, ?_, ?_⟩
        · exact at_of (j := i + j) (by omega) (by rw [List.getElem?_map, hm]; rfl)
        refine ⟨_, rfl, _, rfl, _, _, rfl, rfl, wide_mul (nb_pow hc na) (nb_pow hd nb) (by decide) (by decide) (by decide), _, _, rfl, rfl, ?_⟩
        refine ⟨_, rfl, _, rfl, _, rfl, _, _, rfl, rfl, D, _, _, i + j, rfl, rfl, hM1, ?_, ?_⟩
        · rw [List.length_map]
          show ixN M.length ((i : Int) + (j : Int)) = _
          unfold ixN
          rw [if_pos (by omega), if_pos (by omega), show ((i : Int) + (j : Int)).toNat = i + j by omega]
        · refine ⟨_, _, M.set (i + j) (m + c * d), rfl, ?_, ?_, ?_, fun x => ?_, ?_⟩
          · exact same_set hD1 (e2.trans (same_upd hT1))
          · rw [upd_same, List.map_set]
          · rw [List.length_set, lM]
          · rw [ev_set x (c * d) M (i + j) m hm, eM, ev_take x hd, Int.pow_add]
            grind
          · have h1 := nrm_set (c * d) M (i + j) m hm
            rw [Int.natAbs_mul] at h1
            rw [nrm_take hd, Nat.mul_add]
            omega
      · rintro _ H2 ⟨hi2, se2, M, rfl, e2, hM, lM, eM, nM⟩
        rw [List.length_map, List.take_length] at eM nM
        refine ⟨_, _, _, _, M, rfl, e2, hM, lM, fun x => ?_, ?_⟩
        · rw [eM, ev_take x hc]
          grind
        · rw [nrm_take hc, Nat.add_mul]
          exact nM
    · rintro _ H2 ⟨_, _, _, _, M, rfl, e2, hM, lM, eM, nM⟩
      rw [List.length_map, List.take_length] at eM nM
      refine ⟨_, rfl, D, _, rfl, .inl ⟨SqL.of hM, fun p8 hp8 => ?_⟩⟩
      refine trim_good ⟨p8, rfl, SqT.of upd_same⟩ (by omega) fun z9 H9 s9 t9 => ?_
      refine q _ _ _ ((s1.trans e2).trans ((same_upd hp8).trans s9)) t9 ⟨poly_trimL _, fun x => ?_, ?_, ?_⟩
      · rw [ev_trimL, eM]
      · rw [nrm_trimL]
        exact nM
      · have := len_trimL M
        rw [lM] at this
        exact this
end
end K24
end
section
set_option maxRecDepth 100000
set_option maxHeartbeats 4000000
set_option exponentiation.threshold 70000
namespace K24
open PySem PySem.Spec PyProof.Rows L2 MB PM
open LamX hiding takes0
section
variable {w : World} {K : PySem.W.Frag} {mg : Str → Option Value} {base : Heap}
def rPower (K : PySem.W.Frag) (k : Nat) : List Int → Hp → VK → Prop := fun ns H Q => k ≤ 20 ∧ 1 + k * ns.length ≤ 450 ∧ ns.length ≤ 450 ∧ nrm ns < 2 ^ 59999 ∧ (nrm ns + 1) ^ k < 2 ^ 60000 ∧
  ∀ z l H', Same H H' → TI K H' z l → Res l (fun x => (ev x ns) ^ k) (nrm ns ^ k) (1 + k * ns.length) → Q z H'
def spPower (K : PySem.W.Frag) (C : Addr) : Sp := fun vs H Q E => ∃ k : Nat, spOne K C (fun v => [v, .int (k : Int)]) (rPower K k) vs H Q E
theorem ok_power (T : Txt K mg) : FnOk P w K mg base (L2.CX P w) 7 T.a_power T.d_power P_power (spPower K T.C_BadPolynomial) := by
  refine T.F_power.okX sc_power (fun vs H Q E h => ?_) (fun cdv A outer s H vs Q E hr h => ?_)
  · obtain ⟨k, v, o, rfl, _⟩ := h
    rfl
  · obtain ⟨k, v, o, rfl, hv, bad, good⟩ := h
    refine ⟨_, 
      (pss_cons (ps_expr (pe_callS (ok_check_polynomial T) (hr.mono (by decide)) rfl T.m_check_polynomial T.F_check_polynomial.kp T.b_check_polynomial (fun σ => passAt (takes_of rfl rfl rfl rfl) σ) (pa_cons (pv 0) pa_nil)))
      (pss_cons (ps_set (i := 2) sc_power.nd rfl (Or.inl rfl) (pe_tup (pa_cons pe_int pa_nil)))
      (pss_cons (ps_for (passes_of rfl) rfl (pi_range1 rfl T.m_range (pa_cons (pv 1) pa_nil)) (pg_name (i := 3) sc_power.nd rfl (Or.inl rfl)) (pss_one (ps_set (i := 2) sc_power.nd rfl (Or.inl rfl) (pe_callS (ok_times T) (hr.mono (by decide)) rfl T.m_times T.F_times.kp T.b_times (fun σ => passAt (takes_of rfl rfl rfl rfl) σ) (pa_cons (pv 2) (pa_cons (pv 0) pa_nil))))))
      (pss_one (ps_ret (pv 2)))))), ?_⟩
    refine ⟨_, rfl, v, o, rfl, hv, bad, fun e1 H1 s1 => ?_⟩
    obtain ⟨ns, rfl, pa⟩ := poly_of e1
    obtain ⟨hk, hkl, la, na, nk, q⟩ := good ns rfl pa
    obtain ⟨⟨a, rfl, ha⟩, _⟩ := lev_ti hv
    clear good bad e1
    have h1 := s1.tup ha
    refine ⟨(by decide : 1 ≤ sizeLine), fun p hp => ?_⟩
    have s2 := same_upd (o := .tup [.int 1]) hp
    refine ⟨_, rfl, _, rfl, by omega, by omega, for_range (lo := 0) (n := (k : Int).toNat)
      (fun i σ H' => ∃ (z : V) (u : Option V) (l : List Int), σ = [some (.ref a), some (.int (k : Int)), some z, u] ∧ Same H1 H' ∧ TI K H' z l ∧ Res l (fun x => (ev x ns) ^ i) (nrm ns ^ i) (1 + i * ns.length))
      ⟨_, none, [1], rfl, s2, ⟨p, rfl, SqT.of upd_same⟩, ⟨rfl, fun x => by simp [ev], by simp [nrm], by simp⟩⟩ ?_ ?_⟩
    · rintro i _ H' hi ⟨z, u, l, rfl, e, t, r⟩
      rw [Int.toNat_natCast] at hi
      have mono : nrm ns ^ i ≤ (nrm ns + 1) ^ k :=
        Nat.le_trans (Nat.pow_le_pow_left (Nat.le_succ _) _) (Nat.pow_le_pow_right (Nat.succ_pos _) (Nat.le_of_lt hi))
      have hil : i * ns.length ≤ k * ns.length := Nat.mul_le_mul_right _ (Nat.le_of_lt hi)
      have rz := r.z
      have rn := r.n
      refine ⟨_, rfl, _, rfl, two_good t ⟨a, rfl, e.tup h1⟩ (Nat.le_trans rz (by omega)) (by omega) r.p pa ⟨?_, la, ?_, ?_, fun z2 l2 H2 s2 t2 r2 => ?_⟩⟩
      · exact Nat.le_trans rz (by omega)
      · exact Nat.lt_of_le_of_lt (Nat.le_trans rn mono) nk
      · exact Nat.lt_trans na (Nat.pow_lt_pow_right (by decide) (by decide))
      · refine ⟨z2, _, l2, rfl, e.trans s2, t2, ⟨r2.p, fun x => ?_, ?_, ?_⟩⟩
        · have e2 := r2.e x
          have e3 := r.e x
          simp only at e2 e3
          rw [e2, e3, Int.pow_succ]
        · rw [Nat.pow_succ]
          exact Nat.le_trans r2.n (Nat.mul_le_mul_right _ rn)
        · have h4 : l2.length ≤ l.length + ns.length := r2.z
          rw [Nat.add_mul, Nat.one_mul]
          omega
    · rintro _ H' ⟨z, u, l, rfl, e, t, r⟩
      rw [Int.toNat_natCast] at r
      exact ⟨_, rfl, q z l H' (s1.trans e) t r⟩
def rValue (K : PySem.W.Frag) (x : Int) : List Int → Hp → VK → Prop := fun ns H Q => nrm ns < 2 ^ 2000 ∧ x.natAbs < 2 ^ 64 ∧ ∀ H', Same H H' → Q (.int (ev x ns)) H'
def spValue (K : PySem.W.Frag) (C : Addr) : Sp := fun vs H Q E => ∃ x : Int, spOne K C (fun v => [v, .int x]) (rValue K x) vs H Q E
theorem ok_value (T : Txt K mg) : FnOk P w K mg base (L2.CX P w) 5 T.a_value T.d_value P_value (spValue K T.C_BadPolynomial) := by
  refine T.F_value.okX sc_value (fun vs H Q E h => ?_) (fun cdv A outer s H vs Q E hr h => ?_)
  · obtain ⟨x, v, o, rfl, _⟩ := h
    rfl
  · obtain ⟨x, v, o, rfl, hv, bad, good⟩ := h
    refine ⟨_, 
      (pss_cons (ps_expr (pe_callS (ok_check_polynomial T) (hr.mono (by decide)) rfl T.m_check_polynomial T.F_check_polynomial.kp T.b_check_polynomial (fun σ => passAt (takes_of rfl rfl rfl rfl) σ) (pa_cons (pv 0) pa_nil)))
      (pss_cons (ps_set (i := 2) sc_value.nd rfl (Or.inl rfl) pe_int)
      (pss_cons (ps_for (passes_of rfl) rfl (RT.pi_revA (by rfl) T.m_reversed (pv 0)) (pg_name (i := 3) sc_value.nd rfl (Or.inl rfl)) (pss_one (ps_set (i := 2) sc_value.nd rfl (Or.inl rfl) (pe_op op_add (pe_op op_mulW (pv 2) (pv 1)) (pv 3)))))
      (pss_one (ps_ret (pv 2)))))), ?_⟩
    refine ⟨_, rfl, v, o, rfl, hv, bad, fun e1 H1 s1 => ?_⟩
    obtain ⟨ns, rfl, pa⟩ := poly_of e1
    obtain ⟨na, hx, q⟩ := good ns rfl pa
    obtain ⟨⟨a, rfl, ha⟩, la⟩ := lev_ti hv
    clear good bad e1
    have h1 := s1.tup ha
    refine ⟨_, rfl, a, _, rfl, .inr ⟨h1, for_it (walk_revT (K := K) (a := a) (xs := ns.map V.int))
      (fun i σ H' => ∃ u : Option V, σ = [some (.ref a), some (.int x), some (.int (ev x (ns.drop (ns.length - i)))), u] ∧ Same H1 H')
      ⟨none, by rw [Nat.sub_zero, List.drop_length]; rfl, Same.refl _⟩ (fun i σ H' _ ⟨_, _, e⟩ => e.tup h1) ?_ ?_⟩⟩
    · rintro i v _ H' _ hi ⟨u, rfl, e⟩ ⟨rfl, hv⟩
      rw [List.length_map] at hv hi
      obtain ⟨c, hc, rfl⟩ := int_at hv
      refine ⟨_, rfl, _, rfl, _, _, rfl, rfl, wide_mul (ev_big hx na la) hx (by decide) (by decide) (by decide), _, rfl, _, _, rfl, rfl, some (.int c), ?_, e⟩
      have z := ev_drop x hc
      rw [show ns.length - (i + 1) = ns.length - 1 - i by omega, z, show ns.length - 1 - i + 1 = ns.length - i by omega]
      show [some (V.ref a), some (V.int x), some (V.int (ev x (ns.drop (ns.length - i)) * x + c)), some (V.int c)] = _
      rw [Int.mul_comm, Int.add_comm]
    · rintro _ H' ⟨u, rfl, e⟩
      rw [List.length_map, Nat.sub_self]
      exact ⟨_, rfl, q H' (s1.trans e)⟩
def spLow (K : PySem.W.Frag) : Sp := fun vs H Q _ => ∃ t b : Int, vs = [.int t, .int b] ∧ 0 < b ∧ b.natAbs < 2 ^ 8000 ∧ ∀ z H', Same H H' → TI K H' z [(low t b).1, (low t b).2] → Q z H'
theorem ok_lowest_terms (T : Txt K mg) : FnOk P w K mg base CX0 1 T.a_lowest_terms T.d_lowest_terms P_lowest_terms (spLow K) := by
  refine T.F_lowest_terms.ok sc_lowest_terms (fun vs H Q E h => ?_) (fun cdv A outer s H vs Q E hr h => ?_)
  · obtain ⟨t, b, rfl, _⟩ := h
    rfl
  · obtain ⟨t, b, rfl, hb, hb2, q⟩ := h
    refine ⟨_, 
      (pss_cons (ps_set (i := 2) sc_lowest_terms.nd rfl (Or.inl rfl) (pe_callBfun cr_gcd (by rfl) T.m_gcd (pa_cons (pv 0) (pa_cons (pv 1) pa_nil))))
      (pss_one (ps_ret (pe_tup (pa_cons (pe_op op_fdivW (pv 0) (pv 2)) (pa_cons (pe_op op_fdivW (pv 1) (pv 2)) pa_nil)))))), ?_⟩
    have g0 : 0 < Nat.gcd t.natAbs b.natAbs := Nat.gcd_pos_of_pos_right _ (by omega)
    have g1 : Nat.gcd t.natAbs b.natAbs ≤ b.natAbs := Nat.gcd_le_right _ (by omega)
    have dv : CDivW t ((Nat.gcd t.natAbs b.natAbs : Nat) : Int) := wide_div (by omega) (b := 8000) (by rw [Int.natAbs_natCast]; omega) (by decide) (by decide)
    refine ⟨_, rfl, _, rfl, _, _, rfl, ?_⟩
    refine ⟨_, rfl, _, rfl, _, _, rfl, rfl, dv, _, rfl, _, rfl, _, _, rfl, rfl, dv, (by decide : 2 ≤ sizeLine), fun p hp => ?_⟩
    exact q _ _ (same_upd hp) ⟨p, rfl, SqT.of upd_same⟩
def vAt (t b : Int) (ns : List Int) : Int × Int := low (hv t b ns) (if ns = [] then 1 else b ^ (ns.length - 1))
def rValueAt (K : PySem.W.Frag) (u : V) : List Int → Hp → VK → Prop := fun ns H Q => ∃ t b : Int, TI K H u [t, b] ∧ ns.length ≤ 100 ∧ nrm ns < 2 ^ 2000 ∧ t.natAbs < 2 ^ 64 ∧ b.natAbs < 2 ^ 64 ∧ 0 < b ∧
  ∀ z H', Same H H' → TI K H' z [(vAt t b ns).1, (vAt t b ns).2] → Q z H'
def spValueAt (K : PySem.W.Frag) (C : Addr) : Sp := fun vs H Q E => ∃ u : V, spOne K C (fun v => [v, u]) (rValueAt K u) vs H Q E
theorem ok_value_at (T : Txt K mg) : FnOk P w K mg base (L2.CX P w) 5 T.a_value_at T.d_value_at P_value_at (spValueAt K T.C_BadPolynomial) := by
  refine T.F_value_at.okX sc_value_at (fun vs H Q E h => ?_) (fun cdv A outer s H vs Q E hr h => ?_)
  · obtain ⟨u, v, o, rfl, _⟩ := h
    rfl
  · obtain ⟨u, v, o, rfl, hv, bad, good⟩ := h
    refine ⟨_, 
      (pss_cons (ps_expr (pe_callS (ok_check_polynomial T) (hr.mono (by decide)) rfl T.m_check_polynomial T.F_check_polynomial.kp T.b_check_polynomial (fun σ => passAt (takes_of rfl rfl rfl rfl) σ) (pa_cons (pv 0) pa_nil)))
      (pss_cons (ps_asg (pv 1) (pg_tup rfl (pgs_cons (pg_name (i := 2) sc_value_at.nd rfl (Or.inl rfl)) (pgs_cons (pg_name (i := 3) sc_value_at.nd rfl (Or.inl rfl)) pgs_nil))))
      (pss_cons (ps_set (i := 4) sc_value_at.nd rfl (Or.inl rfl) pe_int)
      (pss_cons (ps_set (i := 5) sc_value_at.nd rfl (Or.inl rfl) pe_int)
      (pss_cons (ps_for (passes_of rfl) rfl (RT.pi_revA (by rfl) T.m_reversed (pv 0)) (pg_name (i := 6) sc_value_at.nd rfl (Or.inl rfl)) (pss_cons (ps_set (i := 4) sc_value_at.nd rfl (Or.inl rfl) (pe_op op_add (pe_op op_mulW (pv 4) (pv 2)) (pe_op op_mulW (pv 6) (pv 5))))
      (pss_one (ps_set (i := 5) sc_value_at.nd rfl (Or.inl rfl) (pe_op op_mulW (pv 5) (pv 3))))))
      (pss_one (ps_ret (pe_call (ok_lowest_terms T) (hr.mono (by decide)) rfl T.m_lowest_terms T.F_lowest_terms.kp T.b_lowest_terms .nil pass0 (pa_cons (pe_op op_mulW (pv 4) (pv 3)) (pa_cons (pv 5) pa_nil)))))))))), ?_⟩
    refine ⟨_, rfl, v, o, rfl, hv, bad, fun e1 H1 s1 => ?_⟩
    obtain ⟨ns, rfl, pa⟩ := poly_of e1
    obtain ⟨t, b, ⟨c, rfl, hc⟩, la, na, ht, hb, b0, q⟩ := good ns rfl pa
    obtain ⟨⟨a, rfl, ha⟩, _⟩ := lev_ti hv
    clear good bad e1 hv
    have h1 := s1.tup ha
    have hc1 := s1.tup hc
    refine ⟨_, rfl, c, _, rfl, hc1, rfl, _, _, rfl, _, _, rfl, rfl, ?_⟩
    refine ⟨_, rfl, a, _, rfl, .inr ⟨h1, for_it (walk_revT (K := K) (a := a) (xs := ns.map V.int))
      (fun i σ H' => ∃ u : Option V, σ = [some (.ref a), some (.ref c), some (.int t), some (.int b), some (.int (hv t b (ns.drop (ns.length - i)))), some (.int (b ^ i)), u] ∧ Same H1 H')
      ⟨none, by rw [Nat.sub_zero, List.drop_length, Int.pow_zero]; rfl, Same.refl _⟩ (fun i σ H' _ ⟨_, _, e⟩ => e.tup h1) ?_ ?_⟩⟩
    · rintro i v _ H' _ hi ⟨u, rfl, e⟩ ⟨rfl, hv'⟩
      rw [List.length_map] at hv' hi
      obtain ⟨d, hd, rfl⟩ := int_at hv'
      have pb : (b ^ i).natAbs < 2 ^ (64 * 100 + 1) := pow_bits hb (by omega)
      refine ⟨_, rfl, _, rfl, _, _, rfl, rfl, wide_mul (hv_big ht hb na (by omega)) ht (by decide) (by decide) (by decide), _, rfl, _, rfl, _, _, rfl, rfl,
        wide_mul (nb_pow hd na) pb (by decide) (by decide) (by decide), _, _, rfl, rfl, ?_⟩
      refine ⟨_, rfl, _, rfl, _, _, rfl, rfl, wide_mul pb hb (by decide) (by decide) (by decide), some (.int d), ?_, e⟩
      have z := hv_drop t b hd
      rw [show ns.length - (i + 1) = ns.length - 1 - i by omega, z, show ns.length - 1 - i + 1 = ns.length - i by omega, show ns.length - (ns.length - i) = i by omega, Int.pow_succ]
      rfl
    · rintro _ H' ⟨u, rfl, e⟩
      rw [List.length_map, Nat.sub_self, List.drop_zero]
      have pb : (b ^ ns.length).natAbs < 2 ^ (64 * 100 + 1) := pow_bits hb la
      have hv1 := hv_big (i := 0) ht hb na (show ns.length ≤ 1000 by omega)
      rw [List.drop_zero] at hv1
      refine ⟨_, rfl, _, rfl, _, _, rfl, rfl, wide_mul hv1 hb (by decide) (by decide) (by decide), _, rfl, _, _, rfl, pow_pos' b0 _, ?_, fun z H2 s2 t2 => ?_⟩
      · exact Nat.lt_trans pb (Nat.pow_lt_pow_right (by decide) (by decide))
      · have ez : low (hv t b ns * b) (b ^ ns.length) = vAt t b ns := by
          unfold vAt
          by_cases hn : ns = []
          · subst hn
            rw [if_pos rfl]
            simp [hv, low]
          · rw [if_neg hn]
            have hp : 0 < ns.length := List.length_pos_iff.mpr hn
            have : b ^ ns.length = b ^ (ns.length - 1) * b := by
              have z2 : b ^ ns.length = b ^ ((ns.length - 1) + 1) := by rw [show ns.length - 1 + 1 = ns.length by omega]
              rw [z2, Int.pow_succ]
            rw [this, low_mul b0]
        rw [ez] at t2
        exact q z H2 (s1.trans (e.trans s2)) t2
end
end K24
end
section

namespace PM
def sums (r : Int) (ns : List Int) (i : Nat) : List Int := (List.range i).map fun k => ev r (ns.drop (ns.length - 1 - k))
def quo (r : Int) (ns : List Int) : List Int := ((sums r ns ns.length).dropLast).reverse
theorem sums_len (r : Int) (ns : List Int) (i : Nat) : (sums r ns i).length = i := by simp [sums]
theorem sums_succ (r : Int) (ns : List Int) (i : Nat) : sums r ns (i + 1) = sums r ns i ++ [ev r (ns.drop (ns.length - 1 - i))] := by
  simp [sums, List.range_succ]
theorem quo_len (r : Int) (ns : List Int) : (quo r ns).length = ns.length - 1 := by simp [quo, sums_len]
theorem mem_sums {r : Int} {ns : List Int} {i : Nat} {c : Int} (h : c ∈ sums r ns i) : ∃ j, c = ev r (ns.drop j) := by
  unfold sums at h
  obtain ⟨k, _, e⟩ := List.mem_map.mp h
  exact ⟨_, e.symm⟩
theorem mem_quo {r : Int} {ns : List Int} {c : Int} (h : c ∈ quo r ns) : ∃ j, c = ev r (ns.drop j) := by
  unfold quo at h
  exact mem_sums (List.dropLast_subset _ (List.mem_reverse.mp h))
def sleft (q : Int) (ns : List Int) : Nat → List Int
  | 0 => ns
  | t + 1 => quo (q ^ t) (sleft q ns t)
def sfound (q : Int) (ns : List Int) (t : Nat) : List Int := (List.range t).map fun i => ev (q ^ i) (sleft q ns i)
theorem sleft_len (q : Int) (ns : List Int) : ∀ t, (sleft q ns t).length = ns.length - t
  | 0 => rfl
  | t + 1 => by
    show (quo _ _).length = _
    rw [quo_len, sleft_len q ns t]
    omega
theorem sfound_succ (q : Int) (ns : List Int) (t : Nat) : sfound q ns (t + 1) = sfound q ns t ++ [ev (q ^ t) (sleft q ns t)] := by
  simp [sfound, List.range_succ]
theorem sfound_len (q : Int) (ns : List Int) (t : Nat) : (sfound q ns t).length = t := by simp [sfound]
theorem pow_q {q : Int} (h0 : 0 ≤ q) (h : q ≤ 5) (t : Nat) : (q ^ t).natAbs ≤ 2 ^ (3 * t) := by
  rw [Int.natAbs_pow, Nat.pow_mul]
  exact Nat.pow_le_pow_left (by omega) t
theorem area : ∀ t ≤ 80, t * (80 - t) ≤ 1600 := by decide
theorem step_ev {q : Int} {ls : List Int} {t b : Nat} (h0 : 0 ≤ q) (h5 : q ≤ 5) (hl : t + ls.length ≤ 80) (hn : nrm ls ≤ 2 ^ b) (j : Nat) : (ev (q ^ t) (ls.drop j)).natAbs ≤ 2 ^ (b + 4800) := by
  have h1 := ev_le (x := q ^ t) (X := 2 ^ (3 * t)) (pow_q h0 h5 t) Nat.one_le_two_pow (ls.drop j)
  have h2 : nrm (ls.drop j) ≤ 2 ^ b := Nat.le_trans (nrm_drop ls j) hn
  have h3 : (ls.drop j).length - 1 ≤ 80 - t := by rw [List.length_drop]; omega
  have h4 : (2 ^ (3 * t)) ^ ((ls.drop j).length - 1) ≤ 2 ^ 4800 := by
    rw [← Nat.pow_mul]
    refine Nat.pow_le_pow_right (by decide) ?_
    have e := area t (by omega)
    have e2 : t * ((ls.drop j).length - 1) ≤ t * (80 - t) := Nat.mul_le_mul_left _ h3
    rw [Nat.mul_assoc]
    omega
  have h5' := Nat.mul_le_mul h2 h4
  rw [← Nat.pow_add] at h5'
  exact Nat.le_trans h1 h5'
theorem step_nrm {q : Int} {ls : List Int} {t b : Nat} (h0 : 0 ≤ q) (h5 : q ≤ 5) (hl : t + ls.length ≤ 80) (hn : nrm ls ≤ 2 ^ b) : nrm (quo (q ^ t) ls) ≤ 2 ^ (b + 5000) := by
  have h := nrm_len (l := quo (q ^ t) ls) (k := 2 ^ (b + 4800)) fun c hc => by
    obtain ⟨j, rfl⟩ := mem_quo hc
    exact step_ev h0 h5 hl hn j
  rw [quo_len] at h
  have h2 : (ls.length - 1) * 2 ^ (b + 4800) ≤ 2 ^ 200 * 2 ^ (b + 4800) := Nat.mul_le_mul_right _ (Nat.le_trans (by omega : ls.length - 1 ≤ 2 ^ 7) (Nat.pow_le_pow_right (by decide) (by decide)))
  rw [← Nat.pow_add] at h2
  refine Nat.le_trans h (Nat.le_trans h2 (Nat.pow_le_pow_right (by decide) (by omega)))
theorem sleft_nrm {q : Int} {ns : List Int} (h0 : 0 ≤ q) (h5 : q ≤ 5) (hl : ns.length ≤ 80) {b : Nat} (hn : nrm ns ≤ 2 ^ b) : ∀ t, t ≤ ns.length → nrm (sleft q ns t) ≤ 2 ^ (b + 5000 * t)
  | 0, _ => hn
  | t + 1, ht => by
    have ih := sleft_nrm h0 h5 hl hn t (by omega)
    have z := step_nrm (ls := sleft q ns t) (t := t) h0 h5 (by rw [sleft_len]; omega) ih
    rw [show b + 5000 * (t + 1) = b + 5000 * t + 5000 by omega]
    exact z
end PM
end
section
set_option maxRecDepth 100000
set_option maxHeartbeats 4000000
set_option exponentiation.threshold 70000
namespace K24
open PySem PySem.Spec PyProof.Rows L2 MB PM
open LamX hiding takes0
theorem cut_last (ns : List Int) : cutV (ns.map V.int) none (some (-1)) = (ns.dropLast).map V.int := by
  unfold cutV
  rw [HT.sIx_none, List.drop_zero, Nat.sub_zero]
  have e : HT.sIx (ns.map V.int).length (ns.map V.int).length (some (-1)) = ns.length - 1 := by
    rw [List.length_map]
    show (if (-1 : Int) < 0 then ((-1 : Int) + (ns.length : Int)).toNat else min (-1 : Int).toNat ns.length) = _
    rw [if_pos (by decide)]
    omega
  rw [e, List.dropLast_eq_take, List.map_take]
section
variable {w : World} {K : PySem.W.Frag} {mg : Str → Option Value} {base : Heap}
def spDivided (K : PySem.W.Frag) : Sp := fun vs H Q _ => ∃ (v : V) (r : Int) (ns : List Int) (b c : Nat), vs = [v, .int r] ∧ TI K H v ns ∧ ns.length ≤ 450 ∧ ns ≠ [] ∧ (∀ j, (ev r (ns.drop j)).natAbs < 2 ^ b) ∧ r.natAbs < 2 ^ c ∧ 0 < b ∧ 0 < c ∧ b + c ≤ 1000000 ∧
  ∀ p u H', Same H H' → SqT K H' p [u, .int (ev r ns)] → TI K H' u (quo r ns) → Q (.ref p) H'
theorem ok_divided (T : Txt K mg) : FnOk P w K mg base CX0 1 T.a_divided T.d_divided P_divided (spDivided K) := by
  refine T.F_divided.ok sc_divided (fun vs H Q E h => ?_) (fun cdv A outer s H vs Q E hr h => ?_)
  · obtain ⟨v, r, ns, b, c, rfl, _⟩ := h
    rfl
  · obtain ⟨_, r, ns, b, c, rfl, ⟨a, rfl, ha⟩, hl, hne, hv, hrb, b0, c0, bc, q⟩ := h
    refine ⟨_, 
      (pss_cons (ps_set (i := 2) sc_divided.nd rfl (Or.inl rfl) (pe_lst pa_nil))
      (pss_cons (ps_set (i := 3) sc_divided.nd rfl (Or.inl rfl) pe_int)
      (pss_cons (ps_for PassesOwn.never rfl (RT.pi_revA (by rfl) T.m_reversed (pv 0)) (pg_name (i := 4) sc_divided.nd rfl (Or.inl rfl)) (pss_cons (ps_set (i := 3) sc_divided.nd rfl (Or.inl rfl) (pe_op op_add (pe_op op_mulW (pv 3) (pv 1)) (pv 4)))
      (pss_one (ps_expr (pe_bm PySem.F.plainAttrs_list PySem.F.slot_list_append PySem.F.type_list_append mt_append (pv 2) (pa_cons (pv 3) pa_nil))))))
      (pss_one (ps_ret (pe_tup (pa_cons (RT.pe_tupRev rfl (by rfl) T.m_tuple (by rfl) T.m_reversed (pe_slice sl_list (pv 2) po_none (po_some (pe_un un_neg pe_int)))) (pa_cons (pv 3) pa_nil)))))))), ?_⟩
    refine ⟨line_s (Nat.zero_le _), fun D hD => ?_⟩
    have s1 := same_upd (o := .lst []) hD
    refine ⟨_, rfl, a, _, rfl, .inr ⟨s1.tup ha, for_it (walk_revT (K := K) (a := a) (xs := ns.map V.int))
      (fun i σ H' => ∃ u : Option V, σ = [some (.ref a), some (.int r), some (.ref D), some (.int (ev r (ns.drop (ns.length - i)))), u] ∧ Same H H' ∧ H' D = some (.lst ((sums r ns i).map V.int)))
      ⟨none, by rw [Nat.sub_zero, List.drop_length]; rfl, s1, upd_same⟩ (fun i σ H' _ ⟨_, _, e, _⟩ => e.tup ha) ?_ ?_⟩⟩
    · rintro i v _ H' _ hi ⟨u, rfl, e, hN⟩ ⟨rfl, hv'⟩
      rw [List.length_map] at hv' hi
      obtain ⟨d, hd, rfl⟩ := int_at hv'
      have z : ev r (ns.drop (ns.length - i)) * r + d = ev r (ns.drop (ns.length - 1 - i)) := by
        have z := ev_drop r hd
        rw [show ns.length - 1 - i + 1 = ns.length - i by omega] at z
        rw [z, Int.mul_comm, Int.add_comm]
      refine ⟨_, rfl, _, rfl, _, _, rfl, rfl, wide_mul (hv _) hrb b0 c0 bc, _, rfl, _, _, rfl, rfl, ?_⟩
      refine ⟨_, rfl, .inl ⟨rfl, _, SqL.of hN⟩, _, rfl, D, _, _, rfl, rfl, hN, ?_, ?_⟩
      · rw [List.length_map, sums_len]
        exact line_le (by omega)
      · refine ⟨some (.int d), ?_, same_set hD e, ?_⟩
        · rw [show ns.length - (i + 1) = ns.length - 1 - i by omega, ← z]
          rfl
        · rw [upd_same, sums_succ, List.map_append, ← z]
          rfl
    · rintro _ H' ⟨u, rfl, e, hN⟩
      rw [List.length_map, Nat.sub_self, List.drop_zero]
      rw [List.length_map] at hN
      refine ⟨_, rfl, 1, rfl, _, rfl, D, _, rfl, SqL.of hN, fun p hp => ?_⟩
      rw [cut_last]
      have s2 := same_upd (o := .lst (((sums r ns ns.length).dropLast).map V.int)) hp
      refine ⟨p, _, rfl, SqL.of upd_same, fun p2 hp2 => ?_⟩
      have s3 := same_upd (o := .tup (((sums r ns ns.length).dropLast).map V.int).reverse) hp2
      refine ⟨_, rfl, line_s (Nat.le_of_ble_eq_true rfl), fun p3 hp3 => ?_⟩
      have s4 := same_upd (o := .tup [.ref p2, .int (ev r ns)]) hp3
      refine q p3 (.ref p2) _ (e.trans (s2.trans (s3.trans s4))) (SqT.of upd_same) ⟨p2, rfl, ?_⟩
      have z : (((sums r ns ns.length).dropLast).map V.int).reverse = (quo r ns).map V.int := by
        unfold quo
        rw [List.map_reverse]
      rw [← z]
      exact s4.tup (SqT.of upd_same)
def rSub (K : PySem.W.Frag) (q : Int) : List Int → Hp → VK → Prop := fun ns H Q => ns.length ≤ 80 ∧ nrm ns ≤ 2 ^ 2000 ∧ ∀ z H', Same H H' → TI K H' z (sfound q ns ns.length) → Q z H'
def spSub (K : PySem.W.Frag) (C : Addr) : Sp := fun vs H Q E => ∃ q : Int, LetQ q ∧ spOne K C (fun v => [.int q, v]) (rSub K q) vs H Q E
theorem ok_subcounts (T : Txt K mg) : FnOk P w K mg base (L2.CX P w) 5 T.a_subcounts T.d_subcounts P_subcounts (spSub K T.C_BadPolynomial) := by
  refine T.F_subcounts.okX sc_subcounts (fun vs H Q E h => ?_) (fun cdv A outer s H vs Q E hr h => ?_)
  · obtain ⟨q, _, v, o, rfl, _⟩ := h
    rfl
  · obtain ⟨q, hq, v, o, rfl, hv, bad, good⟩ := h
    refine ⟨_, 
      (pss_cons (ps_expr (pe_call (ok_check_field T) (hr.mono (by decide)) rfl T.m_check_field T.F_check_field.kp T.b_check_field .nil pass0 (pa_cons (pv 0) pa_nil)))
      (pss_cons (ps_expr (pe_callS (ok_check_polynomial T) (hr.mono (by decide)) rfl T.m_check_polynomial T.F_check_polynomial.kp T.b_check_polynomial (fun σ => passAt (takes_of rfl rfl rfl rfl) σ) (pa_cons (pv 1) pa_nil)))
      (pss_cons (ps_set (i := 2) sc_subcounts.nd rfl (Or.inl rfl) (pe_lst pa_nil))
      (pss_cons (ps_set (i := 3) sc_subcounts.nd rfl (Or.inl rfl) (pv 1))
      (pss_cons (ps_set (i := 4) sc_subcounts.nd rfl (Or.inl rfl) pe_int)
      (pss_cons (ps_while (passes_of rfl) (pt_cmpR (op_neD hr.units) (pv 3) (pe_tup pa_nil) (nomark _)) (pss_cons (ps_asg (pe_call (ok_divided T) (hr.mono (by decide)) rfl T.m_divided T.F_divided.kp T.b_divided .nil pass0 (pa_cons (pv 3) (pa_cons (pv 4) pa_nil))) (pg_tup rfl (pgs_cons (pg_name (i := 3) sc_subcounts.nd rfl (Or.inl rfl)) (pgs_cons (pg_name (i := 5) sc_subcounts.nd rfl (Or.inl rfl)) pgs_nil))))
      (pss_cons (ps_expr (pe_bm PySem.F.plainAttrs_list PySem.F.slot_list_append PySem.F.type_list_append mt_append (pv 2) (pa_cons (pv 5) pa_nil)))
      (pss_one (ps_set (i := 4) sc_subcounts.nd rfl (Or.inl rfl) (pe_op op_mulW (pv 4) (pv 0)))))))
      (pss_one (ps_ret (pe_callTy call_tuple_of (by rfl) T.m_tuple (by decide +kernel) (pa_cons (pv 2) pa_nil)))))))))), ?_⟩
    refine ⟨_, rfl, q, rfl, hq, ?_⟩
    refine ⟨_, rfl, v, o, rfl, hv, bad, fun e1 H1 s1 => ?_⟩
    obtain ⟨ns, rfl, pa⟩ := poly_of e1
    obtain ⟨la, na, k⟩ := good ns rfl pa
    obtain ⟨⟨a, rfl, ha⟩, _⟩ := lev_ti hv
    clear good bad e1 hv
    refine ⟨line_s (Nat.zero_le _), fun D hD => ?_⟩
    have s2 := same_upd (o := .lst []) hD
    refine ⟨_, rfl, ?_⟩
    refine ⟨fun m σ H' => ∃ (t : Nat) (L : Addr) (u : Option V), m + t = ns.length ∧ σ = [some (.int q), some (.ref a), some (.ref D), some (.ref L), some (.int (q ^ t)), u] ∧ Same H1 H' ∧ H' D = some (.lst ((sfound q ns t).map V.int)) ∧ SqT K H' L ((sleft q ns t).map V.int),
      ⟨ns.length, 0, a, none, rfl, by rw [Int.pow_zero]; rfl, s2, upd_same, s2.tup (s1.tup ha)⟩, ?_⟩
    rintro m _ H2 ⟨t, L, u, hmt, rfl, e2, hN, hL⟩
    refine ⟨_, rfl, line_s (Nat.zero_le _), fun p hp => ?_⟩
    have s3 := same_upd (o := .tup []) hp
    have hN3 := s3 _ _ hN
    have hL3 := s3.tup hL
    refine tne_nil_rd hL3 (SqT.of upd_same) ⟨_, rfl, ?_⟩
    generalize upd H2 p (.tup []) = H3 at s3 hN3 hL3
    have e3 := e2.trans s3
    have ll := sleft_len q ns t
    cases hm : (sleft q ns t).isEmpty with
    | true =>
      refine iteF ?_
      have h0 : (sleft q ns t) = [] := List.isEmpty_iff.mp hm
      rw [h0] at ll
      have ht : t = ns.length := by
        have : ns.length - t = 0 := ll.symm
        omega
      rw [ht] at hN3
      refine ⟨_, rfl, D, _, rfl, .inl ⟨SqL.of hN3, fun p4 hp4 => ?_⟩⟩
      exact k _ _ (s1.trans (e3.trans (same_upd hp4))) ⟨p4, rfl, SqT.of upd_same⟩
    | false =>
      have hne : (sleft q ns t) ≠ [] := by
        rw [List.isEmpty_eq_false_iff] at hm
        exact hm
      have hpos : 0 < (sleft q ns t).length := List.length_pos_iff.mpr hne
      rw [ll] at hpos
      refine iteT ?_
      have q0 := hq.lo
      have q5 := hq.hi
      have nl := sleft_nrm (q := q) (by omega) q5 la na t (by omega)
      have bt : 2000 + 5000 * t ≤ 402000 := by omega
      refine ⟨fun σ' H' => ∃ (L' : Addr) (u' : Option V), σ' = [some (.int q), some (.ref a), some (.ref D), some (.ref L'), some (.int (q ^ (t + 1))), u'] ∧ Same H1 H' ∧ H' D = some (.lst ((sfound q ns (t + 1)).map V.int)) ∧ SqT K H' L' ((sleft q ns (t + 1)).map V.int),
        fun σ' H' ⟨L', u', h1, h2, h3, h4⟩ => ⟨m - 1, by omega, t + 1, L', u', by omega, h1, h2, h3, h4⟩, ?_⟩
      have rb : (q ^ t).natAbs < 2 ^ (3 * t + 1) := Nat.lt_of_le_of_lt (pow_q (by omega) q5 t) (Nat.pow_lt_pow_right (by decide) (by omega))
      refine ⟨_, rfl, _, rfl, _, q ^ t, sleft q ns t, 2000 + 5000 * t + 4801, 3 * t + 1, rfl, ⟨L, rfl, hL3⟩, by rw [ll]; omega, hne, fun j => ?_, rb, by omega, by omega, by omega, fun p4 u4 H4 s4 hp4 hu4 => ?_⟩
      · exact Nat.lt_of_le_of_lt (step_ev (q := q) (t := t) (by omega) q5 (by rw [ll]; omega) nl j) (Nat.pow_lt_pow_right (by decide) (by omega))
      obtain ⟨L', rfl, hL'⟩ := hu4
      refine ⟨p4, _, rfl, hp4, rfl, _, _, rfl, _, _, rfl, rfl, ?_⟩
      refine ⟨_, rfl, .inl ⟨rfl, _, SqL.of (s4 _ _ hN3)⟩, _, rfl, D, _, _, rfl, rfl, s4 _ _ hN3, ?_, ?_⟩
      · rw [List.length_map, sfound_len]
        exact line_le (by omega)
      have e4 := e3.trans s4
      refine ⟨_, rfl, _, rfl, _, _, rfl, rfl, wide_mul rb (b := 3) (by omega) (by omega) (by decide) (by omega), ?_⟩
      refine ⟨L', some (.int (ev (q ^ t) (sleft q ns t))), ?_, same_set hD e4, ?_, ?_⟩
      · rw [Int.pow_succ]
        rfl
      · rw [upd_same, sfound_succ, List.map_append]
        rfl
      · have z := s4 _ _ hN3
        rcases hL' with (h | ⟨o, h⟩) | h
        · exact .inl (.inl ((upd_ne (ne_of h z (by intro w; cases w))).trans h))
        · exact .inl (.inr ⟨o, (upd_ne (ne_of h z (by intro w; cases w))).trans h⟩)
        · exact .inr h
end
end K24
end
section
set_option maxRecDepth 100000
namespace MB
open PySem PySem.Builtin PySem.Builtin.Str
def Sig (x : Str) : Prop := ∀ c ∈ x.cps.toList, c < 16 ^ 8
theorem sig_app {x y : Str} (h : Sig x) (g : Sig y) : Sig (x ++ y) := fun c hc => by
  have e : (x ++ y).cps.toList = x.cps.toList ++ y.cps.toList := by
    show (x.cps ++ y.cps).toList = _
    exact Array.toList_append
  rw [e] at hc
  rcases List.mem_append.mp hc with z | z
  · exact h c z
  · exact g c z
theorem char_small (ch : Char) : ch.toNat < 16 ^ 8 := by
  have := ch.valid
  have h2 : ch.val.toNat < 0x110000 := by
    rcases this with h | ⟨_, h⟩ <;> omega
  have e : (16 : Nat) ^ 8 = 4294967296 := by decide
  rw [e]
  show ch.val.toNat < _
  omega
theorem sig_of (s : String) : Sig (Str.ofString s) := fun c hc => by
  rw [Str.ofString_eq_toList] at hc
  obtain ⟨ch, _, rfl⟩ := List.mem_map.mp (show c ∈ s.toList.map Char.toNat from hc)
  exact char_small ch
theorem sig_join {sep : Str} (hs : Sig sep) : ∀ (ts : List Str), (∀ t ∈ ts, Sig t) → Sig (Str.join sep ts)
  | [], _ => sig_of ""
  | [t], h => by
    have := h t List.mem_cons_self
    first | exact this | simpa [Str.join] using this
  | t :: u :: r, h => by
    have ih := sig_join hs (u :: r) fun x hx => h x (List.mem_cons_of_mem _ hx)
    have e : Str.join sep (t :: u :: r) = t ++ sep ++ Str.join sep (u :: r) := by
      first | exact StrLaws.join_cons .. | rfl | simp [Str.join, Str.append_assoc]
    rw [e]
    exact sig_app (sig_app (h t List.mem_cons_self) hs) ih
theorem sig_char {q c : Nat} (hc : c < 16 ^ 8) : ∀ d ∈ reprChar q c, d < 16 ^ 8 := by
  have e : (16 : Nat) ^ 8 = 4294967296 := by decide
  have hx : ∀ w : Nat, ∀ d ∈ (List.replicate (w - ((Nat.toDigits 16 c).map Char.toNat).length) 48 ++ (Nat.toDigits 16 c).map Char.toNat), d < 16 ^ 8 := fun w d hd => by
    rcases List.mem_append.mp hd with z | z
    · rw [List.eq_of_mem_replicate z, e]
      decide
    · obtain ⟨ch, _, rfl⟩ := List.mem_map.mp z
      exact char_small ch
  have two : ∀ (a b : Nat) (l : List Nat), a < 16 ^ 8 → b < 16 ^ 8 → (∀ d ∈ l, d < 16 ^ 8) → ∀ d ∈ [a, b] ++ l, d < 16 ^ 8 := fun a b l ha hb hl d hd => by
    rcases List.mem_append.mp hd with z | z
    · simp only [List.mem_cons, List.not_mem_nil, or_false] at z
      rcases z with rfl | rfl
      · exact ha
      · exact hb
    · exact hl d z
  have two' : ∀ (a b : Nat), a < 16 ^ 8 → b < 16 ^ 8 → ∀ d ∈ [a, b], d < 16 ^ 8 := fun a b ha hb d hd => two a b [] ha hb (by simp) d (by simpa using hd)
  unfold reprChar
  dsimp only
  repeat' split
  · exact two' _ _ (by rw [e]; decide) hc
  · exact two' _ _ (by rw [e]; decide) (by rw [e]; decide)
  · exact two' _ _ (by rw [e]; decide) (by rw [e]; decide)
  · exact two' _ _ (by rw [e]; decide) (by rw [e]; decide)
  · intro d hd
    rw [List.mem_singleton.mp hd]
    exact hc
  · exact two _ _ _ (by rw [e]; decide) (by rw [e]; decide) (hx 2)
  · exact two _ _ _ (by rw [e]; decide) (by rw [e]; decide) (hx 4)
  · exact two _ _ _ (by rw [e]; decide) (by rw [e]; decide) (hx 8)
theorem sig_fold (q : Nat) : ∀ (l : List Nat) (acc : Array Nat), (∀ c ∈ l, c < 16 ^ 8) → (∀ c ∈ acc.toList, c < 16 ^ 8) → ∀ c ∈ (l.foldl (fun out c => out ++ (reprChar q c).toArray) acc).toList, c < 16 ^ 8
  | [], acc, _, h => h
  | c :: r, acc, hl, h => by
    rw [List.foldl_cons]
    refine sig_fold q r _ (fun x hx => hl x (List.mem_cons_of_mem _ hx)) fun x hx => ?_
    rw [Array.toList_append] at hx
    rcases List.mem_append.mp hx with z | z
    · exact h x z
    · exact sig_char (hl c List.mem_cons_self) x z
theorem quote_small (x : Str) : reprQuote x < 16 ^ 8 := by
  have e : (16 : Nat) ^ 8 = 4294967296 := by decide
  unfold reprQuote
  rw [e]
  split <;> decide
theorem sig_repr {x : Str} (h : Sig x) : Sig (reprText x) := by
  unfold reprText
  intro c hc
  have hc' : c ∈ ((x.cps.foldl (fun out c => out ++ (reprChar (reprQuote x) c).toArray) #[reprQuote x]).push (reprQuote x)).toList := hc
  rw [Array.toList_push, ← Array.foldl_toList] at hc'
  rcases List.mem_append.mp hc' with z | z
  · refine sig_fold _ _ _ h (fun y hy => ?_) c z
    rw [List.mem_singleton.mp hy]
    exact quote_small x
  · rw [List.mem_singleton.mp z]
    exact quote_small x
mutual
theorem sig_shown (B : Nat) : ∀ d : PyData, d.leavesShort B = true → Sig d.shown
  | .none, _ => by rw [PyData.shown_none]; exact sig_of _
  | .bool b, _ => by rw [PyData.shown_bool]; cases b <;> exact sig_of _
  | .int i, _ => by rw [PyData.shown_int]; exact sig_of _
  | .str x, h => by
    rw [PyData.shown_str]
    have h' : ∀ c ∈ x.cps.toList, c < 16 ^ 8 := by simpa only [PyData.leavesShort, List.all_eq_true, decide_eq_true_eq] using h
    exact sig_repr h'
  | .list xs, h => by
    rw [PyData.shown_list]
    exact sig_app (sig_app (sig_of _) (sig_join (sig_of _) _ (sig_shownAll B xs (by simpa only [PyData.leavesShort] using h)))) (sig_of _)
  | .tuple xs, h => by
    rw [PyData.shown_tuple]
    exact sig_app (sig_app (sig_of _) (sig_join (sig_of _) _ (sig_shownAll B xs (by simpa only [PyData.leavesShort] using h)))) (sig_of _)
  | .dict kvs, h => by
    rw [PyData.shown_dict]
    exact sig_app (sig_app (sig_of _) (sig_join (sig_of _) _ (sig_shownKv B kvs (by simpa only [PyData.leavesShort] using h)))) (sig_of _)
theorem sig_shownAll (B : Nat) : ∀ ds : List PyData, PyData.leavesShortAll B ds = true → ∀ t ∈ PyData.shownAll ds, Sig t
  | [], _ => by rw [PyData.shownAll_nil]; intro t ht; cases ht
  | d :: r, h => by
    have h' : d.leavesShort B = true ∧ PyData.leavesShortAll B r = true := by simpa only [PyData.leavesShortAll, Bool.and_eq_true] using h
    rw [PyData.shownAll_cons]
    intro t ht
    rcases List.mem_cons.mp ht with rfl | z
    · exact sig_shown B d h'.1
    · exact sig_shownAll B r h'.2 t z
theorem sig_shownKv (B : Nat) : ∀ ds : List (PyData × PyData), PyData.leavesShortKv B ds = true → ∀ t ∈ PyData.shownKv ds, Sig t
  | [], _ => by rw [PyData.shownKv_nil]; intro t ht; cases ht
  | (k, v) :: r, h => by
    have h' : (k.leavesShort B = true ∧ v.leavesShort B = true) ∧ PyData.leavesShortKv B r = true := by simpa only [PyData.leavesShortKv, Bool.and_eq_true] using h
    rw [PyData.shownKv_cons]
    intro t ht
    rcases List.mem_cons.mp ht with rfl | z
    · exact sig_app (sig_app (sig_shown B k h'.1.1) (sig_of _)) (sig_shown B v h'.1.2)
    · exact sig_shownKv B r h'.2 t z
end
end MB
end
section
set_option maxRecDepth 100000
set_option maxHeartbeats 4000000
set_option exponentiation.threshold 70000
namespace K24
open PySem PySem.Spec PyProof.Rows L2 MB PM
open LamX hiding takes0
section
variable {w : World} {K : PySem.W.Frag} {mg : Str → Option Value} {base : Heap}
def ETold (T : Txt K mg) (Q : VK) : XK := fun cls d H' => ∃ (dx : Addr) (v : V), cls = .ref T.C_BadPolynomial ∧ d = some dx ∧ H' dx = some (.xd [("thing", v)]) ∧
  ∀ p, H' p = none → Q (.ref p) (upd H' p (.tup [.str "polynomial", v]))
def TTold (T : Txt K mg) : (XK → Hp → VK → Prop) → Hp → VK → Prop := fun tl H Q => tl (ETold T Q) H fun v H' => Q .non H'
theorem gives__law_refused (T : Txt K mg) {CX : CXT} {N' : List Str} {qual q : Str} {scope : Scope} {f : Addr} {cd : Value} {A : Around} {outer : List Env} {s : Shared} {H : Hp} {E : XK} {cdg : Value} :
    GivesTo (cxOf CX P w K mg base N' qual scope f cd A outer s H E).nox N__law_refused "_law_refused" (defScope s__law_refused) T.a__law_refused cdg (defBody s__law_refused) "_law_call" q (TTold T) := by
  intro f c' s H Q tl act hc h
  refine ⟨_, 
      (pss_cons (ps_tryMix (Wout := fun _ _ _ _ => False) rfl rfl sc__law_refused.nd takes0 (fun W pn xe tk pass => (pss_one (ps_expr (pe_deed 3 (fun W E p1 p2 tk hW => act W _ _ E p1 p2 tk hW) tk)))) (.named (i := 1) ⟨rfl, by decide, Or.inl T.e_BadPolynomial.gC⟩ rfl rfl (fun a oe cls d pn hz hf => (pss_cons (ps_set (i := 2) sc__law_refused.nd rfl (Or.inl rfl) (pe_or (pe_callB (id := "isinstance") (r := rIsD K T.C_BadPolynomial cls d a) (call_isD T.ex_BadPolynomial hz hf) (by rfl) T.m_isinstance (by decide +kernel) (pa_cons (pv 1) (pa_cons (pe_glob (v := .ref T.C_BadNumber) rfl T.g_BadNumber rfl) pa_nil))) (pe_or (pe_callB (id := "isinstance") (r := rIsD K T.C_BadPolynomial cls d a) (call_isD T.ex_BadPolynomial hz hf) (by rfl) T.m_isinstance (by decide +kernel) (pa_cons (pv 1) (pa_cons (pe_glob (v := .ref T.C_BadField) rfl T.g_BadField rfl) pa_nil))) (pe_one (pe_callB (id := "isinstance") (r := rIsD K T.C_BadPolynomial cls d a) (call_isD T.ex_BadPolynomial hz hf) (by rfl) T.m_isinstance (by decide +kernel) (pa_cons (pv 1) (pa_cons (pe_glob (v := .ref T.C_BadTable) rfl T.g_BadTable rfl) pa_nil)))))))
      (pss_one (ps_ret (pe_ifExp (PW.pt (pw_or (pt_val (pv 2)) (pw_or1 (pt_not (pt_val (pe_callB (id := "isinstance") (r := rIsD K T.C_BadPolynomial cls d a) (call_isD T.ex_BadPolynomial hz hf) (by rfl) T.m_isinstance (by decide +kernel) (pa_cons (pv 1) (pa_cons (pe_glob (v := .ref T.B0) rfl T.gB rfl) pa_nil)))))))) (pe_tup (pa_cons pe_str (pa_cons pe_non pa_nil))) (pe_tup (pa_cons pe_str (pa_cons (pe_xf T.e_BadPolynomial.xf T.e_BadPolynomial.noF hz hf (pv 1)) pa_nil)))))))) (.bare ⟨rfl, by decide, Or.inl T.gB⟩ (fun a oe cls d pn hz hf => (pss_one (ps_ret (pe_tup (pa_cons pe_str (pa_cons pe_non pa_nil)))))) .nil)))
      (pss_one (ps_ret pe_non))), ?_⟩
  have z2 : (2 : Nat) ≤ sizeLine := line_s (by decide)
  refine ⟨ETold T Q, ?_, rfl, hc, ?_⟩
  · rintro cls d σ' H' ⟨dx, v, rfl, rfl, hx, k⟩ hl
    refine ⟨true, T.e_BadPolynomial.te, fun _ a ha => ?_, fun z => Bool.noConfusion z⟩
    match σ', hl with
    | [x0, x1, x2], _ =>
      refine ⟨_, rfl, _, _, _, dx, _, rfl, (fun u r => r), rfl, rfl, hx, T.k_BadNumber, false, rfl, iteF ?_⟩
      refine ⟨_, rfl, _, _, _, dx, _, rfl, (fun u r => r), rfl, rfl, hx, T.k_BadField, false, rfl, iteF ?_⟩
      refine ⟨_, rfl, _, _, _, dx, _, rfl, (fun u r => r), rfl, rfl, hx, T.k_BadTable, ?_⟩
      refine ⟨_, rfl, false, rfl, iteF ?_⟩
      refine ⟨_, rfl, _, _, _, dx, _, rfl, (fun u r => r), rfl, rfl, hx, T.k_B0, true, rfl, iteF ?_⟩
      exact ⟨_, rfl, rfl, rfl, dx, _, v, rfl, hx, rfl, z2, fun p hp => k p hp⟩
  · exact h
def BookOk (T : Txt K mg) (H : Hp) (b : Addr) : Prop := ∃ (q n : Int) (Rs : List (List Int)), BookAt K T.C_Book H b q n Rs ∧ Rs.length ≤ 20
theorem BookAt.same {C : Addr} {H H' : Hp} {b : Addr} {q n : Int} {Rs : List (List Int)} (h : BookAt K C H b q n Rs) (e : Same H H') : BookAt K C H' b q n Rs := by
  obtain ⟨dx, fs, z, h1, h2, h3, h4, h5, a, vs, h6, h7, h8⟩ := h
  exact ⟨dx, fs, z, e _ _ h1, h2, h3, h4, h5, a, vs, h6, sqT_same e h7, rows_same e h8⟩
theorem BookOk.same {T : Txt K mg} {H H' : Hp} {b : Addr} (h : BookOk T H b) (e : Same H H') : BookOk T H' b :=
  let ⟨q, n, Rs, h1, h2⟩ := h
  ⟨q, n, Rs, h1.same e, h2⟩
def T3 (T : Txt K mg) : V → V → (Hp → VK → Prop) → Hp → VK → Prop := fun v1 v2 tt H Q => ∃ b : Addr, v1 = .str "polynomial" ∧ v2 = .ref b ∧
  ∀ k : VK, (∀ p H1, SqT K H1 p [.str "polynomial", .ref b] → BookOk T H1 b → (∀ H2, Same H1 H2 → Q (.bl true) H2) → k (.ref p) H1) → tt H k
theorem gives3__law_is_refused (T : Txt K mg) {CX : CXT} {N' : List Str} {qual q : Str} {scope : Scope} {f : Addr} {cd : Value} {A : Around} {outer : List Env} {s : Shared} {H : Hp} {E : XK} {cdg : Value} :
    GivesTo3 (cxOf CX P w K mg base N' qual scope f cd A outer s H E).nox N__law_is_refused "_law_is_refused" (defScope s__law_is_refused) T.a__law_is_refused cdg (defBody s__law_is_refused) "_law_refused" "_law_call" q (TTold T) (T3 T) := by
  intro f c' s H Q v1 v2 tl hr passing hc h
  obtain ⟨b, rfl, rfl, h⟩ := h
  refine ⟨_, 
      (pss_cons (ps_set (i := 3) sc__law_is_refused.nd rfl (Or.inl rfl) (passing _ _ _))
      (pss_one (ps_ret (pe_and (pe_cmpR op_notN (pv 3) pe_non (nomark _)) (pe_and (pe_cmpR op_eq (pe_ix (r := rIxT K) ix_tup (pv 3) pe_int (fun _ _ => rfl)) (pv 0) (nomark _)) (pe_and (pe_callB (id := "isinstance") (r := rIsi K) call_isi (by rfl) T.m_isinstance (by decide +kernel) (pa_cons (pe_ix (r := rIxT K) ix_tup (pv 3) pe_int (fun _ _ => rfl)) (pa_cons (pe_glob (v := .ref T.C_Book) rfl T.g_Book rfl) pa_nil))) (pe_one (pe_cmpR (op_eqG (rcG_ins (ok_Book___eq__ T) T.eq_Book T.eqf_Book T.b_Book___eq__ pass0) (hr.mono (by decide))) (pe_ix (r := rIxT K) ix_tup (pv 3) pe_int (fun _ _ => rfl)) (pv 1) (nomark _))))))))), ?_⟩
  refine ⟨rfl, hc, ?_⟩
  refine h _ fun p H1 hp hb q => ?_
  refine ⟨_, rfl, rfl, true, rfl, iteT ?_⟩
  refine ⟨_, rfl, p, _, 0, .str "polynomial", rfl, rfl, hp, atI_nat (j := 0) rfl, _, rfl, rfl, ?_⟩
  rw [decide_eq_true rfl]
  refine ⟨true, rfl, iteT ?_⟩
  obtain ⟨qq, n, Rs, hbk, hl⟩ := id hb
  obtain ⟨dx, fs, z, h1, _⟩ := id hbk
  refine ⟨_, rfl, p, _, 1, .ref b, rfl, rfl, hp, atI_nat (j := 1) rfl, _, _, _, _, _, rfl, .own T.C_Book, ty_book T h1, kit_self, true, rfl, iteT ?_⟩
  refine ⟨_, rfl, p, _, 1, .ref b, rfl, rfl, hp, atI_nat (j := 1) rfl, _, rfl, ⟨b, b, dx, dx, fs, fs, rfl, rfl, h1, h1, qq, n, Rs, hbk, hbk, hl⟩, fun H2 e2 => q H2 e2⟩
end
def DueV (K : PySem.W.Frag) (G0 G : Hp) (z : V) : Option PyData → Prop
  | none => z = .non
  | some d => ∃ (p : Addr) (v : V), z = .ref p ∧ G p = some (.tup [.str "polynomial", v]) ∧ Dq K G0 v d
def dueD : Option PyData → PyData
  | none => .none
  | some d => .tuple [.str "polynomial", d]
def Keep (G G' : Hp) : Prop := ∀ b o, G b = some o → (∀ xs, o ≠ .lst xs) → (∀ ps, o ≠ .tbl ps) → G' b = some o
theorem Keep.of {G G' : Hp} (e : Same G G') : Keep G G' := fun b o h _ _ => e b o h
theorem Keep.ext {G G' : Hp} (e : ExtN G G') : Keep G G' := fun b o h _ n => e b o h n
theorem Keep.trans {G G' G'' : Hp} (e : Keep G G') (f : Keep G' G'') : Keep G G'' := fun b o h n m => f b o (e b o h n m) n m
theorem Keep.lst {G : Hp} {L : Addr} {xs ys : List V} (h : G L = some (.lst xs)) : Keep G (upd G L (.lst ys)) := fun b o hb n _ => by
  have bL : b ≠ L := ne_of hb h (n _)
  rw [upd_ne bL]
  exact hb
theorem DueV.keep {K : PySem.W.Frag} {G0 G G' : Hp} {z : V} {o : Option PyData} (e : Keep G G') (h : DueV K G0 G z o) : DueV K G0 G' z o := by
  cases o with
  | none => exact h
  | some d =>
    obtain ⟨p, v, h1, h2, h3⟩ := h
    exact ⟨p, v, h1, e _ _ h2 (by intro xs z; cases z) (by intro xs z; cases z), h3⟩
theorem DueV.dq {K : PySem.W.Frag} {G0 G : Hp} {z : V} {o : Option PyData} (e : Same G0 G) (h : DueV K G0 G z o) : Dq K G z (dueD o) := by
  cases o with
  | none =>
    obtain rfl : z = .non := h
    exact .non
  | some d =>
    obtain ⟨p, v, rfl, h2, h3⟩ := h
    exact .tup (SqT.of h2) (.cons (.str _) (.cons (Dq.same e _ _ h3) .nil))
theorem ground {H G : Hp} (e : ExtN H G) : Same (noT H) G := (extN_noT e).trans noT_sub
def due2 (d1 d2 : PyData) : Option PyData := if polyQ (asInts d1) = false then some d1 else if polyQ (asInts d2) = false then some d2 else none
def due1 (d1 : PyData) : Option PyData := if polyQ (asInts d1) = false then some d1 else none
structure PolyB (d : PyData) : Prop where
  b : ∀ ns : List Int, asInts d = some (ns.map some) → ns.length ≤ 80 ∧ nrm ns < 2 ^ 1990
  s : ∀ es, d = .tuple es → es.length ≤ 1000
theorem asInts_tup {d : PyData} {ns : List Int} (e : asInts d = some (ns.map some)) : d = .tuple (ns.map PyData.int) := by
  cases d with
  | tuple ds =>
    have hd' : ds.map asInt = ns.map some := Option.some.inj e
    clear e
    congr 1
    induction ds generalizing ns with
    | nil => cases ns with
      | nil => rfl
      | cons c r => cases hd'
    | cons d r ih =>
      cases ns with
      | nil => cases hd'
      | cons c t =>
        rw [List.map_cons, List.map_cons, List.cons.injEq] at hd'
        rw [List.map_cons, ih hd'.2]
        cases d with
        | int i =>
          obtain rfl : i = c := Option.some.inj hd'.1
          rfl
        | _ => cases hd'.1
  | _ => cases e
theorem show_bits : ∀ {ns : List Int}, PyData.showableAll (ns.map PyData.int) = true → ∀ c ∈ ns, c.natAbs ≤ 2 ^ 1920
  | [], _ => fun c hc => by cases hc
  | a :: r, h => fun c hc => by
    rw [List.map_cons] at h
    simp only [PyData.showableAll, PyData.showable, Bool.and_eq_true, decide_eq_true_eq] at h
    rcases List.mem_cons.mp hc with rfl | hc
    · rcases Nat.eq_zero_or_pos c.natAbs with z | z
      · rw [z]
        exact Nat.zero_le _
      · exact Nat.le_of_lt ((Nat.log2_lt (by omega)).mp h.1)
    · exact show_bits h.2 c hc
theorem polyB {b k : Nat} {d : PyData} (h : Sz b k d) (hc : Cnt d) : PolyB d where
  b := fun ns e => by
    obtain rfl := asInts_tup e
    have l80 := hc _ rfl
    rw [List.length_map] at l80
    refine ⟨l80, ?_⟩
    have h1 := h.sh
    simp only [PyData.showable] at h1
    have h2 := nrm_len (show_bits h1)
    have h3 : ns.length * 2 ^ 1920 ≤ 2 ^ 7 * 2 ^ 1920 := Nat.mul_le_mul_right _ (by omega)
    rw [← Nat.pow_add] at h3
    exact Nat.lt_of_le_of_lt h2 (Nat.lt_of_le_of_lt h3 (Nat.pow_lt_pow_right (by decide) (by decide)))
  s := fun es e => Nat.le_trans (hc es e) (by decide)
theorem dq_lev {K : PySem.W.Frag} {H : Hp} {v : V} {d : PyData} (h : Dq K H v d) (hl : PolyB d) : Lev K H v (asInts d) := by
  cases d with
  | tuple ds =>
    cases h with
    | tup h1 h2 => exact ⟨_, ⟨_, rfl, h1⟩, h2.ints, by rw [h2.length]; exact hl.s _ rfl⟩
  | _ => exact h.noTuple rfl
theorem lt_bits {a m n : Nat} (h : a < 2 ^ m) (hm : m ≤ n) : a < 2 ^ n := Nat.lt_of_lt_of_le h (Nat.pow_le_pow_right (by decide) hm)
section
variable {w : World} {K : PySem.W.Frag} {mg : Str → Option Value} {base : Heap}
variable {G0 H1 : Hp} {v1 v2 : V} {d1 d2 : PyData} {Q : VK}
theorem fly (T : Txt K mg) {v : V} {d : PyData} {o : Option PyData} {H2 : Hp} (s : Same H1 H2) (hv : Dq K G0 v d) (e : o = some d)
    (go : ∀ z H', Same H1 H' → DueV K G0 H' z o → Q z H') : Flies (ETold T Q) T.C_BadPolynomial v H2 := fun dx hx =>
  ⟨dx, v, rfl, rfl, upd_same, fun p hp => go _ _ (s.trans ((same_upd hx).trans (same_upd hp))) (by rw [e]; exact ⟨p, v, rfl, upd_same, hv⟩)⟩
theorem lam_two (T : Txt K mg) {R : List Int → List Int → Hp → VK → Prop} (h1 : Dq K G0 v1 d1) (h2 : Dq K G0 v2 d2) (l1 : PolyB d1) (l2 : PolyB d2) (s : Same G0 H1)
    (good : ∀ ns ms, ns.length ≤ 80 → ms.length ≤ 80 → nrm ns < 2 ^ 1990 → nrm ms < 2 ^ 1990 → ∀ Q' : VK, (∀ z H', Same H1 H' → Q' z H') → R ns ms H1 Q')
    (go : ∀ z H', Same H1 H' → DueV K G0 H' z (due2 d1 d2) → Q z H') : spTwo K T.C_BadPolynomial R [v1, v2] H1 (fun _ H' => Q .non H') (ETold T Q) := by
  refine ⟨v1, v2, asInts d1, asInts d2, rfl, dq_lev (Dq.same s _ _ h1) l1, dq_lev (Dq.same s _ _ h2) l2, fun e H' s' => fly T s' h1 (by unfold due2; rw [if_pos e]) go,
    fun e1 e2 H' s' => fly T s' h2 (by unfold due2; rw [if_neg (by rw [e1]; decide), if_pos e2]) go, fun ns ms e1 e2 p1 p2 => ?_⟩
  obtain ⟨a1, b1⟩ := l1.b ns e1
  obtain ⟨a2, b2⟩ := l2.b ms e2
  refine good ns ms a1 a2 b1 b2 _ fun z H' s' => go _ H' s' ?_
  unfold due2
  rw [e1, e2, polyQ_ints, polyQ_ints, p1, p2, if_neg (by decide), if_neg (by decide)]
  rfl
theorem lam_one (T : Txt K mg) {args : V → List V} {R : List Int → Hp → VK → Prop} (h1 : Dq K G0 v1 d1) (l1 : PolyB d1) (s : Same G0 H1)
    (good : ∀ ns, ns.length ≤ 80 → nrm ns < 2 ^ 1990 → ∀ Q' : VK, (∀ z H', Same H1 H' → Q' z H') → R ns H1 Q')
    (go : ∀ z H', Same H1 H' → DueV K G0 H' z (due1 d1) → Q z H') : spOne K T.C_BadPolynomial args R (args v1) H1 (fun _ H' => Q .non H') (ETold T Q) := by
  refine ⟨v1, asInts d1, rfl, dq_lev (Dq.same s _ _ h1) l1, fun e H' s' => fly T s' h1 (by unfold due1; rw [if_pos e]) go, fun ns e1 p1 => ?_⟩
  obtain ⟨a1, b1⟩ := l1.b ns e1
  refine good ns a1 b1 _ fun z H' s' => go _ H' s' ?_
  unfold due1
  rw [e1, polyQ_ints, p1, if_neg (by decide)]
  rfl
theorem lam_plus (T : Txt K mg) (h1 : Dq K G0 v1 d1) (h2 : Dq K G0 v2 d2) (l1 : PolyB d1) (l2 : PolyB d2) (s : Same G0 H1)
    (go : ∀ z H', Same H1 H' → DueV K G0 H' z (due2 d1 d2) → Q z H') : spTwo K T.C_BadPolynomial (rPlus K) [v1, v2] H1 (fun _ H' => Q .non H') (ETold T Q) :=
  lam_two T h1 h2 l1 l2 s (fun ns ms a1 a2 b1 b2 Q' k => ⟨by omega, by omega, lt_bits b1 (by decide), lt_bits b2 (by decide), fun z l H' s' _ _ => k z H' s'⟩) go
theorem lam_minus (T : Txt K mg) (h1 : Dq K G0 v1 d1) (h2 : Dq K G0 v2 d2) (l1 : PolyB d1) (l2 : PolyB d2) (s : Same G0 H1)
    (go : ∀ z H', Same H1 H' → DueV K G0 H' z (due2 d1 d2) → Q z H') : spTwo K T.C_BadPolynomial (rMinus K) [v1, v2] H1 (fun _ H' => Q .non H') (ETold T Q) :=
  lam_two T h1 h2 l1 l2 s (fun ns ms a1 a2 b1 b2 Q' k => ⟨by omega, by omega, lt_bits b1 (by decide), lt_bits b2 (by decide), fun z l H' s' _ _ => k z H' s'⟩) go
theorem lam_times (T : Txt K mg) (h1 : Dq K G0 v1 d1) (h2 : Dq K G0 v2 d2) (l1 : PolyB d1) (l2 : PolyB d2) (s : Same G0 H1)
    (go : ∀ z H', Same H1 H' → DueV K G0 H' z (due2 d1 d2) → Q z H') : spTwo K T.C_BadPolynomial (rTimes K) [v1, v2] H1 (fun _ H' => Q .non H') (ETold T Q) :=
  lam_two T h1 h2 l1 l2 s (fun ns ms a1 a2 b1 b2 Q' k => ⟨by omega, by omega, lt_bits b1 (by decide), lt_bits b2 (by decide), fun z l H' s' _ _ => k z H' s'⟩) go
theorem lam_scaled (T : Txt K mg) {k : Int} (hk : k.natAbs < 2 ^ 64) (h1 : Dq K G0 v1 d1) (l1 : PolyB d1) (s : Same G0 H1)
    (go : ∀ z H', Same H1 H' → DueV K G0 H' z (due1 d1) → Q z H') : spScale K T.C_BadPolynomial [.int k, v1] H1 (fun _ H' => Q .non H') (ETold T Q) :=
  ⟨k, lam_one T (args := fun v => [.int k, v]) h1 l1 s (fun ns a1 b1 Q' kk => ⟨by omega, lt_bits b1 (by decide), lt_bits hk (by decide), fun z l H' s' _ _ => kk z H' s'⟩) go⟩
theorem lam_value (T : Txt K mg) {x : Int} (hx : x.natAbs < 2 ^ 64) (h1 : Dq K G0 v1 d1) (l1 : PolyB d1) (s : Same G0 H1)
    (go : ∀ z H', Same H1 H' → DueV K G0 H' z (due1 d1) → Q z H') : spValue K T.C_BadPolynomial [v1, .int x] H1 (fun _ H' => Q .non H') (ETold T Q) :=
  ⟨x, lam_one T (args := fun v => [v, .int x]) h1 l1 s (fun ns a1 b1 Q' kk => ⟨lt_bits b1 (by decide), hx, fun H' s' => kk _ H' s'⟩) go⟩
theorem lam_value_at (T : Txt K mg) {u : V} {t b : Int} (hu : TI K H1 u [t, b]) (ht : t.natAbs < 2 ^ 64) (hb : b.natAbs < 2 ^ 64) (b0 : 0 < b) (h1 : Dq K G0 v1 d1) (l1 : PolyB d1) (s : Same G0 H1)
    (go : ∀ z H', Same H1 H' → DueV K G0 H' z (due1 d1) → Q z H') : spValueAt K T.C_BadPolynomial [v1, u] H1 (fun _ H' => Q .non H') (ETold T Q) :=
  ⟨u, lam_one T (args := fun v => [v, u]) h1 l1 s (fun ns a1 b1 Q' kk => ⟨t, b, hu, by omega, lt_bits b1 (by decide), ht, hb, b0, fun z H' s' _ => kk _ H' s'⟩) go⟩
theorem lam_power (T : Txt K mg) {k : Nat} (hk : k ≤ 4) (h1 : Dq K G0 v1 d1) (l1 : PolyB d1) (s : Same G0 H1)
    (go : ∀ z H', Same H1 H' → DueV K G0 H' z (due1 d1) → Q z H') : spPower K T.C_BadPolynomial [v1, .int (k : Int)] H1 (fun _ H' => Q .non H') (ETold T Q) :=
  ⟨k, lam_one T (args := fun v => [v, .int (k : Int)]) h1 l1 s (fun ns a1 b1 Q' kk => ⟨by omega, by
      have : k * ns.length ≤ 4 * 80 := Nat.mul_le_mul hk a1
      omega, by omega, lt_bits b1 (by decide), by
      have e1 : nrm ns + 1 ≤ 2 ^ 1990 := b1
      have e2 : (nrm ns + 1) ^ k ≤ (2 ^ 1990) ^ 4 := Nat.le_trans (Nat.pow_le_pow_left e1 k) (Nat.pow_le_pow_right Nat.one_le_two_pow hk)
      rw [← Nat.pow_mul] at e2
      exact Nat.lt_of_le_of_lt e2 (Nat.pow_lt_pow_right (by decide) (by decide)), fun z l H' s' _ _ => kk z H' s'⟩) go⟩
theorem lam_sub (T : Txt K mg) {q : Int} (hq : LetQ q) (h1 : Dq K G0 v1 d1) (l1 : PolyB d1) (s : Same G0 H1)
    (go : ∀ z H', Same H1 H' → DueV K G0 H' z (due1 d1) → Q z H') : spSub K T.C_BadPolynomial [.int q, v1] H1 (fun _ H' => Q .non H') (ETold T Q) :=
  ⟨q, hq, lam_one T (args := fun v => [.int q, v]) h1 l1 s (fun ns a1 b1 Q' kk => ⟨a1, Nat.le_of_lt (lt_bits b1 (by decide)), fun z H' s' _ => kk z H' s'⟩) go⟩
end
end K24
end
section
set_option maxRecDepth 100000
set_option maxHeartbeats 4000000
set_option exponentiation.threshold 70000
namespace K24
open PySem PySem.Spec PyProof.Rows L2 MB PM
open LamX hiding takes0
theorem seq_cut {t u : TS} {D : Ends} {σ : L2.St} {H : Hp} (P : L2.St → Hp → Prop) (h1 : ∀ D' : Ends, (∀ σ' H', P σ' H' → D'.nx σ' H') → t D' σ H) (h2 : ∀ σ' H', P σ' H' → u D σ' H') : tSeq t u D σ H := h1 { D with nx := u D } h2
theorem seq_set {v : V} {i : Nat} {rest : TS} {D : Ends} {σ : L2.St} {H : Hp} (h : rest D (σ.set i (some v)) H) : tSeq (tAsg (tC v) (gName i)) rest D σ H := h
theorem ext_lst {H G : Hp} {L : Addr} {o : HO} (e : ExtN H G) (n : noT H L = none) : ExtN H (upd G L o) := fun b u q nt => by
  have bL : b ≠ L := fun w => by
    have := noT_some q nt
    rw [w, n] at this
    cases this
  rw [upd_ne bL]
  exact e b u q nt
theorem tabs_lst {TT : List (Addr × Str)} {G : Hp} {L : Addr} {xs ys : List V} (t : Tabs TT G) (h : G L = some (.lst xs)) : Tabs TT (upd G L (.lst ys)) := fun p hp => by
  obtain ⟨ps, a1, a2, a3⟩ := t p hp
  refine ⟨ps, by rw [upd_ne (ne_of a1 h (by intro w; cases w))]; exact a1, a2, fun pos cv hc => ?_⟩
  obtain ⟨c, e1, e2⟩ := a3 pos cv hc
  exact ⟨c, e1, by rw [upd_ne (ne_of e2 h (codeO_form.2 _))]; exact e2⟩
theorem new_of {H G : Hp} {L : Addr} (e : ExtN H G) (h : G L = none) : noT H L = none := by
  cases q : noT H L with
  | none => rfl
  | some o =>
    have := ground e _ _ q
    rw [h] at this
    cases this
structure Sofar (K : PySem.W.Frag) (TT : List (Addr × Str)) (H0 : Hp) (o : Option PyData) (H : Hp) (L : Addr) (zs : List V) : Prop where
  e : ExtN H0 H
  t : Tabs TT H
  l : H L = some (.lst zs)
  n : noT H0 L = none
  a : ∀ z ∈ zs, DueV K (noT H0) H z o
section
variable {K : PySem.W.Frag} {TT : List (Addr × Str)} {H0 H H1 H2 : Hp} {o : Option PyData} {L : Addr} {z : V} {zs : List V}
theorem Sofar.one (e : ExtN H0 H) (t : Tabs TT H) (hz : DueV K (noT H0) H z o) (hL : H L = none) : Sofar K TT H0 o (upd H L (.lst [z])) L [z] where
  e := e.trans (same_extN (same_upd hL))
  t := t.ext (same_upd hL)
  l := upd_same
  n := new_of e hL
  a := fun x hx => by
    rw [List.mem_singleton.mp hx]
    exact hz.keep (Keep.of (same_upd hL))
theorem Sofar.at (S : Sofar K TT H0 o H L zs) (e : ExtN H H1) (s : Same H1 H2) : H2 L = some (.lst zs) := s _ _ (e _ _ S.l (by intro ps w; cases w))
theorem Sofar.more (S : Sofar K TT H0 o H L zs) (e : ExtN H H1) (t : Tabs TT H1) (s : Same H1 H2) (hz : DueV K (noT H0) H2 z o) : Sofar K TT H0 o (upd H2 L (.lst (zs ++ [z]))) L (zs ++ [z]) where
  e := ext_lst (S.e.trans (e.trans (same_extN s))) S.n
  t := tabs_lst (t.ext s) (S.at e s)
  l := upd_same
  n := S.n
  a := fun x hx => by
    have k2 := Keep.lst (ys := zs ++ [z]) (S.at e s)
    rcases List.mem_append.mp hx with hx | hx
    · exact (S.a x hx).keep ((Keep.ext e).trans ((Keep.of s).trans k2))
    · rw [List.mem_singleton.mp hx]
      exact hz.keep k2
theorem Sofar.g (S : Sofar K TT H0 o H L zs) (e : ExtN H H1) : Same (noT H0) H1 := ground (S.e.trans e)
theorem all_dq {G : Hp} {D : PyData} : ∀ {zs : List V}, (∀ z ∈ zs, Dq K G z D) → DqAll K G zs (List.replicate zs.length D)
  | [], _ => .nil
  | z :: r, h => .cons (h z List.mem_cons_self) (all_dq fun x hx => h x (List.mem_cons_of_mem _ hx))
theorem Sofar.dq (S : Sofar K TT H0 o H L zs) (s : Same H H1) : Dq K H1 (.ref L) (.list (List.replicate zs.length (dueD o))) :=
  .lst (SqL.of (s _ _ S.l)) (all_dq fun z hz => ((S.a z hz).keep (Keep.of s)).dq ((ground S.e).trans s))
end
theorem szAll_rep {b k : Nat} {D : PyData} (h : Sz b k D) : ∀ n, SzAll (n * (b + 1)) k (List.replicate n D)
  | 0 => szAll_nil.mono (Nat.zero_le _) (Nat.le_refl _)
  | n + 1 => by
    have z := szAll_cons h (szAll_rep h n)
    rw [List.replicate_succ]
    exact z.mono (by rw [Nat.add_mul, Nat.one_mul]; omega) (Nat.le_refl _)
theorem sz_dueD {d : Option PyData} (h : ∀ e, d = some e → Sz 200 8 e) : Sz 300 10 (dueD d) := by
  cases d with
  | none => exact sz_none
  | some e => exact sz_tup ((szAll_cons (sz_text (b := 20) (s := "polynomial") (by decide)) (szAll_cons (h e rfl) (szAll_nil (b := 0)))).mono (by decide) (by decide))
theorem told_rep {d : Option PyData} (h : ∀ e, d = some e → Sz 200 8 e) {n : Nat} (hn : n ≤ 20) : Told (.list (List.replicate n (dueD d))) :=
  (sz_lst (szAll_rep (sz_dueD h) n)).told (by omega) (by decide)
theorem rep_flat (z : V) : ∀ n : Nat, (List.replicate n [z]).flatten = List.replicate n z
  | 0 => rfl
  | n + 1 => by rw [List.replicate_succ, List.flatten_cons, rep_flat z n, List.replicate_succ]; rfl
theorem due2_of {d1 d2 e : PyData} (h : due2 d1 d2 = some e) : e = d1 ∨ e = d2 := by
  unfold due2 at h
  split at h
  · exact .inl (Option.some.inj h).symm
  · split at h
    · exact .inr (Option.some.inj h).symm
    · cases h
theorem due1_of {d1 e : PyData} (h : due1 d1 = some e) : e = d1 := by
  unfold due1 at h
  split at h
  · exact (Option.some.inj h).symm
  · cases h
section
variable {w : World} {K : PySem.W.Frag} {mg : Str → Option Value} {base : Heap}
def qL__law_two_right : Str := (envOfC "_law_two_right" (defScope s__law_two_right) 0 0 .none).qual ++ "<lambda>"
def qL__law_one_right : Str := (envOfC "_law_one_right" (defScope s__law_one_right) 0 0 .none).qual ++ "<lambda>"
def qL__law_are_books_refused : Str := (envOfC "_law_are_books_refused" (defScope s__law_are_books_refused) 0 0 .none).qual ++ "<lambda>"
def qL__law_is_great_refused : Str := (envOfC "_law_is_great_refused" (defScope s__law_is_great_refused) 0 0 .none).qual ++ "<lambda>"
def TL (T : Txt K mg) : List (Addr × Str) := [(T.tP__law_two_right, qL__law_two_right), (T.tP__law_one_right, qL__law_one_right), (T.tP__law_are_books_refused, qL__law_are_books_refused), (T.tP__law_is_great_refused, qL__law_is_great_refused)]
theorem hu_all (T : Txt K mg) {p : Addr × Str} (hp : p ∈ TL T) : (p.1 = T.tP__law_two_right → p.2 = qL__law_two_right) ∧ (p.1 = T.tP__law_one_right → p.2 = qL__law_one_right) ∧ (p.1 = T.tP__law_are_books_refused → p.2 = qL__law_are_books_refused) ∧ (p.1 = T.tP__law_is_great_refused → p.2 = qL__law_is_great_refused) := by
  have nd := T.tnd
  simp only [List.nodup_cons, List.mem_cons, List.not_mem_nil, or_false, not_or] at nd
  obtain ⟨⟨a1, a2, a3⟩, ⟨b1, b2⟩, c1, _⟩ := nd
  unfold TL at hp
  simp only [List.mem_cons, List.not_mem_nil, or_false] at hp
  rcases hp with rfl | rfl | rfl | rfl
  · exact ⟨fun _ => rfl, fun h => absurd h a1, fun h => absurd h a2, fun h => absurd h a3⟩
  · exact ⟨fun h => absurd h.symm a1, fun _ => rfl, fun h => absurd h b1, fun h => absurd h b2⟩
  · exact ⟨fun h => absurd h.symm a2, fun h => absurd h.symm b1, fun _ => rfl, fun h => absurd h c1⟩
  · exact ⟨fun h => absurd h.symm a3, fun h => absurd h.symm b2, fun h => absurd h.symm c1, fun _ => rfl⟩
theorem hu__law_two_right (T : Txt K mg) : ∀ p ∈ TL T, p.1 = T.tP__law_two_right → p.2 = qL__law_two_right := fun p hp => (hu_all T hp).1
theorem hu__law_one_right (T : Txt K mg) : ∀ p ∈ TL T, p.1 = T.tP__law_one_right → p.2 = qL__law_one_right := fun p hp => (hu_all T hp).2.1
theorem hu__law_are_books_refused (T : Txt K mg) : ∀ p ∈ TL T, p.1 = T.tP__law_are_books_refused → p.2 = qL__law_are_books_refused := fun p hp => (hu_all T hp).2.2.1
theorem hu__law_is_great_refused (T : Txt K mg) : ∀ p ∈ TL T, p.1 = T.tP__law_is_great_refused → p.2 = qL__law_is_great_refused := fun p hp => (hu_all T hp).2.2.2
def spTwoR (K : PySem.W.Frag) (TT : List (Addr × Str)) : Sp := fun vs H Q _ => ∃ (vd v1 v2 : V) (d1 d2 : PyData), vs = [vd, v1, v2] ∧ Dq K H v1 d1 ∧ Dq K H v2 d2 ∧ Sz 200 8 d1 ∧ Sz 200 8 d2 ∧ PolyB d1 ∧ PolyB d2 ∧ Tabs TT H ∧ ∀ H', ExtN H H' → Tabs TT H' → Q (.bl true) H'
theorem ok__law_two_right (T : Txt K mg) (sm : SM base) (tb__law_two_right : TabB base mg T.c__law_two_right T.tP__law_two_right) : FnG P w K mg base 10 T.a__law_two_right T.d__law_two_right P__law_two_right (spTwoR K (TL T)) := by
  refine fnGL T.F__law_two_right sc__law_two_right (fun vs H Q E h => ?_) (fun A outer s H vs Q E hr hgu h => ?_)
  · obtain ⟨vd, v1, v2, d1, d2, rfl, _⟩ := h
    rfl
  · obtain ⟨vd, v1, v2, d1, d2, rfl, h1, h2, z1, z2, l1, l2, hT, k⟩ := h
    refine ⟨_, 
      (pss_cons (ps_set (i := 3) sc__law_two_right.nd rfl (Or.inl rfl) pe_non)
      (pss_cons (ps_if (pt_not (pt_val (pe_call (ok__law_is_polynomial T) (hr.mono (by decide)) rfl T.m__law_is_polynomial T.F__law_is_polynomial.kp T.b__law_is_polynomial .nil pass0 (pa_cons (pv 1) pa_nil)))) (pss_one (ps_set (i := 3) sc__law_two_right.nd rfl (Or.inl rfl) (pe_tup (pa_cons pe_str (pa_cons (pv 1) pa_nil))))) (pss_one (ps_if (pt_not (pt_val (pe_call (ok__law_is_polynomial T) (hr.mono (by decide)) rfl T.m__law_is_polynomial T.F__law_is_polynomial.kp T.b__law_is_polynomial .nil pass0 (pa_cons (pv 2) pa_nil)))) (pss_one (ps_set (i := 3) sc__law_two_right.nd rfl (Or.inl rfl) (pe_tup (pa_cons pe_str (pa_cons (pv 2) pa_nil))))) pss_nil)))
      (pss_cons (ps_set (i := 4) sc__law_two_right.nd rfl (Or.inl rfl) (pe_lst (pa_cons (pe_tell (T := TL T) (k := 6) (c := T.c__law_two_right) (P := T.tP__law_two_right) T.F__law_refused T.b__law_refused rfl T.m__law_refused sc__law_refused rfl (Or.inl rfl) (fun _ => gives__law_refused T) tb__law_two_right rfl (.head _) (hu__law_two_right T) (hr.mono (by decide)) (lamS_by (sc := defScope s__law_two_right) (by decide +kernel)) rfl (fun _ _ _ _ _ => rfl)
        (fun A outer s H E f c' hr => (pe_callS (ok_plus T) (hr.mono (by decide)) rfl T.m_plus T.F_plus.kp T.b_plus (fun σ => passAt (takes_of rfl rfl rfl rfl) σ) (pa_cons (pv 1) (pa_cons (pv 2) pa_nil))))) pa_nil)))
      (pss_cons (ps_expr (pe_bm PySem.F.plainAttrs_list PySem.F.slot_list_append PySem.F.type_list_append mt_append (pv 4) (pa_cons (pe_tell (T := TL T) (k := 7) (c := T.c__law_two_right) (P := T.tP__law_two_right) T.F__law_refused T.b__law_refused rfl T.m__law_refused sc__law_refused rfl (Or.inl rfl) (fun _ => gives__law_refused T) tb__law_two_right rfl (.head _) (hu__law_two_right T) (hr.mono (by decide)) (lamS_by (sc := defScope s__law_two_right) (by decide +kernel)) rfl (fun _ _ _ _ _ => rfl)
        (fun A outer s H E f c' hr => (pe_callS (ok_minus T) (hr.mono (by decide)) rfl T.m_minus T.F_minus.kp T.b_minus (fun σ => passAt (takes_of rfl rfl rfl rfl) σ) (pa_cons (pv 1) (pa_cons (pv 2) pa_nil))))) pa_nil)))
      (pss_cons (ps_expr (pe_bm PySem.F.plainAttrs_list PySem.F.slot_list_append PySem.F.type_list_append mt_append (pv 4) (pa_cons (pe_tell (T := TL T) (k := 6) (c := T.c__law_two_right) (P := T.tP__law_two_right) T.F__law_refused T.b__law_refused rfl T.m__law_refused sc__law_refused rfl (Or.inl rfl) (fun _ => gives__law_refused T) tb__law_two_right rfl (.head _) (hu__law_two_right T) (hr.mono (by decide)) (lamS_by (sc := defScope s__law_two_right) (by decide +kernel)) rfl (fun _ _ _ _ _ => rfl)
        (fun A outer s H E f c' hr => (pe_callS (ok_times T) (hr.mono (by decide)) rfl T.m_times T.F_times.kp T.b_times (fun σ => passAt (takes_of rfl rfl rfl rfl) σ) (pa_cons (pv 1) (pa_cons (pv 2) pa_nil))))) pa_nil)))
      (pss_cons (ps_expr (pe_bm PySem.F.plainAttrs_list PySem.F.slot_list_append PySem.F.type_list_append mt_append (pv 4) (pa_cons (pe_tell (T := TL T) (k := 6) (c := T.c__law_two_right) (P := T.tP__law_two_right) T.F__law_refused T.b__law_refused rfl T.m__law_refused sc__law_refused rfl (Or.inl rfl) (fun _ => gives__law_refused T) tb__law_two_right rfl (.head _) (hu__law_two_right T) (hr.mono (by decide)) (lamS_by (sc := defScope s__law_two_right) (by decide +kernel)) rfl (fun _ _ _ _ _ => rfl)
        (fun A outer s H E f c' hr => (pe_callK0S (ok_plus T) (hr.mono (by decide)) rfl T.m_plus T.F_plus.kp T.q_plus_other_one (fun σ => passAt (takes_of rfl rfl rfl rfl) σ) (pk_cons (pv 2) (pk_cons (pv 1) pk_nil))))) pa_nil)))
      (pss_cons (ps_expr (pe_bm PySem.F.plainAttrs_list PySem.F.slot_list_append PySem.F.type_list_append mt_append (pv 4) (pa_cons (pe_tell (T := TL T) (k := 7) (c := T.c__law_two_right) (P := T.tP__law_two_right) T.F__law_refused T.b__law_refused rfl T.m__law_refused sc__law_refused rfl (Or.inl rfl) (fun _ => gives__law_refused T) tb__law_two_right rfl (.head _) (hu__law_two_right T) (hr.mono (by decide)) (lamS_by (sc := defScope s__law_two_right) (by decide +kernel)) rfl (fun _ _ _ _ _ => rfl)
        (fun A outer s H E f c' hr => (pe_callK0S (ok_minus T) (hr.mono (by decide)) rfl T.m_minus T.F_minus.kp T.q_minus_other_one (fun σ => passAt (takes_of rfl rfl rfl rfl) σ) (pk_cons (pv 2) (pk_cons (pv 1) pk_nil))))) pa_nil)))
      (pss_cons (ps_expr (pe_bm PySem.F.plainAttrs_list PySem.F.slot_list_append PySem.F.type_list_append mt_append (pv 4) (pa_cons (pe_tell (T := TL T) (k := 6) (c := T.c__law_two_right) (P := T.tP__law_two_right) T.F__law_refused T.b__law_refused rfl T.m__law_refused sc__law_refused rfl (Or.inl rfl) (fun _ => gives__law_refused T) tb__law_two_right rfl (.head _) (hu__law_two_right T) (hr.mono (by decide)) (lamS_by (sc := defScope s__law_two_right) (by decide +kernel)) rfl (fun _ _ _ _ _ => rfl)
        (fun A outer s H E f c' hr => (pe_callK0S (ok_times T) (hr.mono (by decide)) rfl T.m_times T.F_times.kp T.q_times_other_one (fun σ => passAt (takes_of rfl rfl rfl rfl) σ) (pk_cons (pv 2) (pk_cons (pv 1) pk_nil))))) pa_nil)))
      (pss_one (ps_ret (pe_callG (ok__law_same T sm) (hr.mono (by decide)) hgu rfl T.m__law_same T.F__law_same.kp T.b__law_same (pa_cons (pv 4) (pa_cons (pe_op op_rep (pe_lst (pa_cons (pv 3) pa_nil)) pe_int) pa_nil))))))))))))), ?_⟩
    have g1 : Dq K (noT H) v1 d1 := Dq.noT _ _ h1
    have g2 : Dq K (noT H) v2 d2 := Dq.noT _ _ h2
    have zd : ∀ e, due2 d1 d2 = some e → Sz 200 8 e := fun e he => (due2_of he).elim (fun h => h ▸ z1) fun h => h ▸ z2
    refine seq_set ?_
    refine (seq_cut (fun σ' G => ∃ zd, σ' = [some vd, some v1, some v2, some zd, none] ∧ Same H G ∧ DueV K (noT H) G zd (due2 d1 d2)) (fun D' go => ?_) ?_)
    · refine ⟨_, rfl, v1, asInts d1, rfl, dq_lev h1 l1, fun H1 s1 => ⟨_, rfl, ?_⟩⟩
      rcases Bool.eq_false_or_eq_true (polyQ (asInts d1)) with e1 | e1
      · rw [e1]
        refine iteF ?_
        refine ⟨_, rfl, v2, asInts d2, rfl, dq_lev (Dq.same s1 _ _ h2) l2, fun H2 s2 => ⟨_, rfl, ?_⟩⟩
        have s12 := s1.trans s2
        rcases Bool.eq_false_or_eq_true (polyQ (asInts d2)) with e2 | e2
        · rw [e2]
          refine iteF (go _ _ ⟨_, rfl, s12, ?_⟩)
          unfold due2
          rw [e1, e2]
          rfl
        · rw [e2]
          refine iteT ⟨_, rfl, line_s (Nat.le_of_ble_eq_true rfl), fun p hp => go _ _ ⟨_, rfl, s12.trans (same_upd hp), ?_⟩⟩
          unfold due2
          rw [e1, e2]
          exact ⟨p, v2, rfl, upd_same, g2⟩
      · rw [e1]
        refine iteT ⟨_, rfl, line_s (Nat.le_of_ble_eq_true rfl), fun p hp => go _ _ ⟨_, rfl, s1.trans (same_upd hp), ?_⟩⟩
        unfold due2
        rw [e1]
        exact ⟨p, v1, rfl, upd_same, g1⟩
    rintro _ G ⟨zd', rfl, s0, hd⟩
    have eG : ExtN H G := same_extN s0
    refine ⟨hT.ext s0, fun Ha ea Ta => ⟨_, rfl, _, rfl, lam_plus T g1 g2 l1 l2 (ground (eG.trans ea)) fun y1 Hb sb hz => ⟨line_s (Nat.le_of_ble_eq_true rfl), fun L hL => ?_⟩⟩⟩
    have S1 := Sofar.one (eG.trans (ea.trans (same_extN sb))) (Ta.ext sb) hz hL
    have kd : DueV K (noT H) (upd Hb L (.lst [y1])) zd' (due2 d1 d2) := hd.keep ((Keep.ext ea).trans (Keep.of (sb.trans (same_upd hL))))
    generalize upd Hb L (.lst [y1]) = Hc at S1 kd ⊢
    clear hz hL sb Ta ea eG
    refine ⟨_, rfl, .inl ⟨rfl, _, SqL.of S1.l⟩, S1.t, fun Ha ea Ta => ⟨_, rfl, _, rfl, lam_minus T g1 g2 l1 l2 (S1.g ea) fun y2 Hb sb hz => ⟨L, _, _, rfl, rfl, S1.at ea sb, line_le (Nat.le_of_ble_eq_true rfl), ?_⟩⟩⟩
    have S2 := S1.more ea Ta sb hz
    replace kd := kd.keep ((Keep.ext ea).trans ((Keep.of sb).trans (Keep.lst (ys := [y1] ++ [y2]) (S1.at ea sb))))
    generalize upd Hb L (.lst ([y1] ++ [y2])) = Hd at S2 kd ⊢
    clear hz sb Ta ea S1
    refine ⟨_, rfl, .inl ⟨rfl, _, SqL.of S2.l⟩, S2.t, fun Ha ea Ta => ⟨_, rfl, _, rfl, lam_times T g1 g2 l1 l2 (S2.g ea) fun y3 Hb sb hz => ⟨L, _, _, rfl, rfl, S2.at ea sb, line_le (Nat.le_of_ble_eq_true rfl), ?_⟩⟩⟩
    have S3 := S2.more ea Ta sb hz
    replace kd := kd.keep ((Keep.ext ea).trans ((Keep.of sb).trans (Keep.lst (ys := [y1] ++ [y2] ++ [y3]) (S2.at ea sb))))
    generalize upd Hb L (.lst ([y1] ++ [y2] ++ [y3])) = Hd at S3 kd ⊢
    clear hz sb Ta ea S2
    refine ⟨_, rfl, .inl ⟨rfl, _, SqL.of S3.l⟩, S3.t, fun Ha ea Ta => ⟨_, rfl, _, rfl, lam_plus T g1 g2 l1 l2 (S3.g ea) fun y4 Hb sb hz => ⟨L, _, _, rfl, rfl, S3.at ea sb, line_le (Nat.le_of_ble_eq_true rfl), ?_⟩⟩⟩
    have S4 := S3.more ea Ta sb hz
    replace kd := kd.keep ((Keep.ext ea).trans ((Keep.of sb).trans (Keep.lst (ys := [y1] ++ [y2] ++ [y3] ++ [y4]) (S3.at ea sb))))
    generalize upd Hb L (.lst ([y1] ++ [y2] ++ [y3] ++ [y4])) = Hd at S4 kd ⊢
    clear hz sb Ta ea S3
    refine ⟨_, rfl, .inl ⟨rfl, _, SqL.of S4.l⟩, S4.t, fun Ha ea Ta => ⟨_, rfl, _, rfl, lam_minus T g1 g2 l1 l2 (S4.g ea) fun y5 Hb sb hz => ⟨L, _, _, rfl, rfl, S4.at ea sb, line_le (Nat.le_of_ble_eq_true rfl), ?_⟩⟩⟩
    have S5 := S4.more ea Ta sb hz
    replace kd := kd.keep ((Keep.ext ea).trans ((Keep.of sb).trans (Keep.lst (ys := [y1] ++ [y2] ++ [y3] ++ [y4] ++ [y5]) (S4.at ea sb))))
    generalize upd Hb L (.lst ([y1] ++ [y2] ++ [y3] ++ [y4] ++ [y5])) = Hd at S5 kd ⊢
    clear hz sb Ta ea S4
    refine ⟨_, rfl, .inl ⟨rfl, _, SqL.of S5.l⟩, S5.t, fun Ha ea Ta => ⟨_, rfl, _, rfl, lam_times T g1 g2 l1 l2 (S5.g ea) fun y6 Hb sb hz => ⟨L, _, _, rfl, rfl, S5.at ea sb, line_le (Nat.le_of_ble_eq_true rfl), ?_⟩⟩⟩
    have S6 := S5.more ea Ta sb hz
    replace kd := kd.keep ((Keep.ext ea).trans ((Keep.of sb).trans (Keep.lst (ys := [y1] ++ [y2] ++ [y3] ++ [y4] ++ [y5] ++ [y6]) (S5.at ea sb))))
    generalize upd Hb L (.lst ([y1] ++ [y2] ++ [y3] ++ [y4] ++ [y5] ++ [y6])) = Hd at S6 kd ⊢
    clear hz sb Ta ea S5
    refine ⟨_, rfl, _, rfl, line_s (Nat.le_of_ble_eq_true rfl), fun p hp => ?_⟩
    refine ⟨p, _, _, rfl, rfl, upd_same, by decide, by decide, line_s (Nat.le_of_ble_eq_true rfl), fun D hD => ?_⟩
    have sp := same_upd (o := .lst [zd']) hp
    have sD := same_upd (o := .lst (List.replicate (6 : Int).toNat [zd']).flatten) hD
    have s7 := sp.trans sD
    have gg := (ground S6.e).trans s7
    have hz := (kd.keep (Keep.of s7)).dq gg
    refine ⟨.ref L, .ref D, .list (List.replicate 6 (dueD (due2 d1 d2))), rfl, S6.dq s7, ?_, told_rep zd (by decide), ?_⟩
    · have z := SqL.of (K := K) (show (upd (upd Hd p (.lst [zd'])) D (.lst (List.replicate (6 : Int).toNat [zd']).flatten)) D = some (.lst (List.replicate (6 : Int).toNat [zd']).flatten) from upd_same)
      rw [rep_flat] at z
      refine .lst z ?_
      have := all_dq (K := K) (G := upd (upd Hd p (.lst [zd'])) D (.lst (List.replicate (6 : Int).toNat [zd']).flatten)) (D := dueD (due2 d1 d2)) (zs := List.replicate 6 zd') fun x hx => by
        rw [List.eq_of_mem_replicate hx]
        exact hz
      rw [List.length_replicate] at this
      exact this
    · exact k _ (S6.e.trans (same_extN s7)) (S6.t.ext s7)
end
end K24
end
section
set_option maxRecDepth 100000
set_option maxHeartbeats 4000000
set_option exponentiation.threshold 70000
namespace K24
open PySem PySem.Spec PyProof.Rows L2 MB PM
open LamX hiding takes0
theorem Keep.sqT {K : PySem.W.Frag} {G G' : Hp} {a : Addr} {xs : List V} (e : Keep G G') (h : SqT K G a xs) : SqT K G' a xs := by
  rcases h with (h | ⟨o, h⟩) | h
  · exact .inl (.inl (e _ _ h (by intro xs z; cases z) (by intro xs z; cases z)))
  · exact .inl (.inr ⟨o, e _ _ h (by intro xs z; cases z) (by intro xs z; cases z)⟩)
  · exact .inr h
section
variable {w : World} {K : PySem.W.Frag} {mg : Str → Option Value} {base : Heap}
def spOneR (K : PySem.W.Frag) (TT : List (Addr × Str)) : Sp := fun vs H Q _ => ∃ (d l : Addr) (v1 : V) (d1 : PyData), vs = [.ref d, v1] ∧ Deck kL H d l ∧ Dq K (hide d l H) v1 d1 ∧ Sz 200 8 d1 ∧ PolyB d1 ∧ Tabs TT H ∧
  ∀ H1 H', But d l H H1 → Deck kL H1 d l → ExtN H1 H' → Tabs TT H' → Q (.bl true) H'
theorem ok__law_one_right (T : Txt K mg) (sm : SM base) (tb__law_one_right : TabB base mg T.c__law_one_right T.tP__law_one_right) : FnG P w K mg base 10 T.a__law_one_right T.d__law_one_right P__law_one_right (spOneR K (TL T)) := by
  refine fnGL T.F__law_one_right sc__law_one_right (fun vs H Q E h => ?_) (fun A outer s H vs Q E hr hgu h => ?_)
  · obtain ⟨d, l, v1, d1, rfl, _⟩ := h
    rfl
  · obtain ⟨d, l, v1, d1, rfl, D, h1, z1, l1, hT, k⟩ := h
    refine ⟨_, 
      (pss_cons (ps_set (i := 2) sc__law_one_right.nd rfl (Or.inl rfl) (pe_ifExp (pt_val (pe_call (ok__law_is_polynomial T) (hr.mono (by decide)) rfl T.m__law_is_polynomial T.F__law_is_polynomial.kp T.b__law_is_polynomial .nil pass0 (pa_cons (pv 1) pa_nil))) pe_non (pe_tup (pa_cons pe_str (pa_cons (pv 1) pa_nil)))))
      (pss_cons (ps_asg (pe_tup (pa_cons (pe_op op_sub (pe_call (ok__law_draw T) (hr.mono (by decide)) rfl T.m__law_draw T.F__law_draw.kp T.b__law_draw .nil pass0 (pa_cons (pv 0) (pa_cons pe_int pa_nil))) pe_int) (pa_cons (pe_op op_add pe_int (pe_call (ok__law_draw T) (hr.mono (by decide)) rfl T.m__law_draw T.F__law_draw.kp T.b__law_draw .nil pass0 (pa_cons (pv 0) (pa_cons pe_int pa_nil)))) pa_nil))) (pg_tup rfl (pgs_cons (pg_name (i := 5) sc__law_one_right.nd rfl (Or.inr rfl)) (pgs_cons (pg_name (i := 3) sc__law_one_right.nd rfl (Or.inl rfl)) pgs_nil))))
      (pss_cons (ps_asg (pe_tup (pa_cons (pe_tup (pa_cons (pv 5) (pa_cons (pv 3) pa_nil))) (pa_cons (pe_call (ok__law_draw T) (hr.mono (by decide)) rfl T.m__law_draw T.F__law_draw.kp T.b__law_draw .nil pass0 (pa_cons (pv 0) (pa_cons pe_int pa_nil))) (pa_cons (pe_op op_add pe_int (pe_call (ok__law_draw T) (hr.mono (by decide)) rfl T.m__law_draw T.F__law_draw.kp T.b__law_draw .nil pass0 (pa_cons (pv 0) (pa_cons pe_int pa_nil)))) pa_nil)))) (pg_tup rfl (pgs_cons (pg_name (i := 7) sc__law_one_right.nd rfl (Or.inr rfl)) (pgs_cons (pg_name (i := 6) sc__law_one_right.nd rfl (Or.inr rfl)) (pgs_cons (pg_name (i := 8) sc__law_one_right.nd rfl (Or.inr rfl)) pgs_nil)))))
      (pss_cons (ps_set (i := 4) sc__law_one_right.nd rfl (Or.inl rfl) (pe_lst (pa_cons (pe_tell (T := TL T) (k := 5) (c := T.c__law_one_right) (P := T.tP__law_one_right) T.F__law_refused T.b__law_refused rfl T.m__law_refused sc__law_refused rfl (Or.inl rfl) (fun _ => gives__law_refused T) tb__law_one_right rfl (.tail _ (.head _)) (hu__law_one_right T) (hr.mono (by decide)) (lamS_by (sc := defScope s__law_one_right) (by decide +kernel)) rfl (fun _ _ _ _ _ => rfl)
        (fun A outer s H E f c' hr => (pe_callS (ok_scaled T) (hr.mono (by decide)) rfl T.m_scaled T.F_scaled.kp T.b_scaled (fun σ => passAt (takes_of rfl rfl rfl rfl) σ) (pa_cons (pv 5) (pa_cons (pv 1) pa_nil))))) pa_nil)))
      (pss_cons (ps_expr (pe_bm PySem.F.plainAttrs_list PySem.F.slot_list_append PySem.F.type_list_append mt_append (pv 4) (pa_cons (pe_tell (T := TL T) (k := 5) (c := T.c__law_one_right) (P := T.tP__law_one_right) T.F__law_refused T.b__law_refused rfl T.m__law_refused sc__law_refused rfl (Or.inl rfl) (fun _ => gives__law_refused T) tb__law_one_right rfl (.tail _ (.head _)) (hu__law_one_right T) (hr.mono (by decide)) (lamS_by (sc := defScope s__law_one_right) (by decide +kernel)) rfl (fun _ _ _ _ _ => rfl)
        (fun A outer s H E f c' hr => (pe_callS (ok_value T) (hr.mono (by decide)) rfl T.m_value T.F_value.kp T.b_value (fun σ => passAt (takes_of rfl rfl rfl rfl) σ) (pa_cons (pv 1) (pa_cons (pv 5) pa_nil))))) pa_nil)))
      (pss_cons (ps_expr (pe_bm PySem.F.plainAttrs_list PySem.F.slot_list_append PySem.F.type_list_append mt_append (pv 4) (pa_cons (pe_tell (T := TL T) (k := 5) (c := T.c__law_one_right) (P := T.tP__law_one_right) T.F__law_refused T.b__law_refused rfl T.m__law_refused sc__law_refused rfl (Or.inl rfl) (fun _ => gives__law_refused T) tb__law_one_right rfl (.tail _ (.head _)) (hu__law_one_right T) (hr.mono (by decide)) (lamS_by (sc := defScope s__law_one_right) (by decide +kernel)) rfl (fun _ _ _ _ _ => rfl)
        (fun A outer s H E f c' hr => (pe_callS (ok_value_at T) (hr.mono (by decide)) rfl T.m_value_at T.F_value_at.kp T.b_value_at (fun σ => passAt (takes_of rfl rfl rfl rfl) σ) (pa_cons (pv 1) (pa_cons (pv 7) pa_nil))))) pa_nil)))
      (pss_cons (ps_expr (pe_bm PySem.F.plainAttrs_list PySem.F.slot_list_append PySem.F.type_list_append mt_append (pv 4) (pa_cons (pe_tell (T := TL T) (k := 7) (c := T.c__law_one_right) (P := T.tP__law_one_right) T.F__law_refused T.b__law_refused rfl T.m__law_refused sc__law_refused rfl (Or.inl rfl) (fun _ => gives__law_refused T) tb__law_one_right rfl (.tail _ (.head _)) (hu__law_one_right T) (hr.mono (by decide)) (lamS_by (sc := defScope s__law_one_right) (by decide +kernel)) rfl (fun _ _ _ _ _ => rfl)
        (fun A outer s H E f c' hr => (pe_callS (ok_power T) (hr.mono (by decide)) rfl T.m_power T.F_power.kp T.b_power (fun σ => passAt (takes_of rfl rfl rfl rfl) σ) (pa_cons (pv 1) (pa_cons (pv 6) pa_nil))))) pa_nil)))
      (pss_cons (ps_expr (pe_bm PySem.F.plainAttrs_list PySem.F.slot_list_append PySem.F.type_list_append mt_append (pv 4) (pa_cons (pe_tell (T := TL T) (k := 7) (c := T.c__law_one_right) (P := T.tP__law_one_right) T.F__law_refused T.b__law_refused rfl T.m__law_refused sc__law_refused rfl (Or.inl rfl) (fun _ => gives__law_refused T) tb__law_one_right rfl (.tail _ (.head _)) (hu__law_one_right T) (hr.mono (by decide)) (lamS_by (sc := defScope s__law_one_right) (by decide +kernel)) rfl (fun _ _ _ _ _ => rfl)
        (fun A outer s H E f c' hr => (pe_callS (ok_power T) (hr.mono (by decide)) rfl T.m_power T.F_power.kp T.b_power (fun σ => passAt (takes_of rfl rfl rfl rfl) σ) (pa_cons (pv 1) (pa_cons pe_int pa_nil))))) pa_nil)))
      (pss_cons (ps_expr (pe_bm PySem.F.plainAttrs_list PySem.F.slot_list_append PySem.F.type_list_append mt_append (pv 4) (pa_cons (pe_tell (T := TL T) (k := 5) (c := T.c__law_one_right) (P := T.tP__law_one_right) T.F__law_refused T.b__law_refused rfl T.m__law_refused sc__law_refused rfl (Or.inl rfl) (fun _ => gives__law_refused T) tb__law_one_right rfl (.tail _ (.head _)) (hu__law_one_right T) (hr.mono (by decide)) (lamS_by (sc := defScope s__law_one_right) (by decide +kernel)) rfl (fun _ _ _ _ _ => rfl)
        (fun A outer s H E f c' hr => (pe_callS (ok_scaled T) (hr.mono (by decide)) rfl T.m_scaled T.F_scaled.kp T.b_scaled (fun σ => passAt (takes_of rfl rfl rfl rfl) σ) (pa_cons pe_int (pa_cons (pv 1) pa_nil))))) pa_nil)))
      (pss_cons (ps_expr (pe_bm PySem.F.plainAttrs_list PySem.F.slot_list_append PySem.F.type_list_append mt_append (pv 4) (pa_cons (pe_tell (T := TL T) (k := 5) (c := T.c__law_one_right) (P := T.tP__law_one_right) T.F__law_refused T.b__law_refused rfl T.m__law_refused sc__law_refused rfl (Or.inl rfl) (fun _ => gives__law_refused T) tb__law_one_right rfl (.tail _ (.head _)) (hu__law_one_right T) (hr.mono (by decide)) (lamS_by (sc := defScope s__law_one_right) (by decide +kernel)) rfl (fun _ _ _ _ _ => rfl)
        (fun A outer s H E f c' hr => (pe_callS (ok_subcounts T) (hr.mono (by decide)) rfl T.m_subcounts T.F_subcounts.kp T.b_subcounts (fun σ => passAt (takes_of rfl rfl rfl rfl) σ) (pa_cons (pv 8) (pa_cons (pv 1) pa_nil))))) pa_nil)))
      (pss_cons (ps_expr (pe_bm PySem.F.plainAttrs_list PySem.F.slot_list_append PySem.F.type_list_append mt_append (pv 4) (pa_cons (pe_tell (T := TL T) (k := 5) (c := T.c__law_one_right) (P := T.tP__law_one_right) T.F__law_refused T.b__law_refused rfl T.m__law_refused sc__law_refused rfl (Or.inl rfl) (fun _ => gives__law_refused T) tb__law_one_right rfl (.tail _ (.head _)) (hu__law_one_right T) (hr.mono (by decide)) (lamS_by (sc := defScope s__law_one_right) (by decide +kernel)) rfl (fun _ _ _ _ _ => rfl)
        (fun A outer s H E f c' hr => (pe_callK0S (ok_scaled T) (hr.mono (by decide)) rfl T.m_scaled T.F_scaled.kp T.q_scaled_one_integer (fun σ => passAt (takes_of rfl rfl rfl rfl) σ) (pk_cons (pv 1) (pk_cons (pv 5) pk_nil))))) pa_nil)))
      (pss_cons (ps_expr (pe_bm PySem.F.plainAttrs_list PySem.F.slot_list_append PySem.F.type_list_append mt_append (pv 4) (pa_cons (pe_tell (T := TL T) (k := 5) (c := T.c__law_one_right) (P := T.tP__law_one_right) T.F__law_refused T.b__law_refused rfl T.m__law_refused sc__law_refused rfl (Or.inl rfl) (fun _ => gives__law_refused T) tb__law_one_right rfl (.tail _ (.head _)) (hu__law_one_right T) (hr.mono (by decide)) (lamS_by (sc := defScope s__law_one_right) (by decide +kernel)) rfl (fun _ _ _ _ _ => rfl)
        (fun A outer s H E f c' hr => (pe_callK0S (ok_value T) (hr.mono (by decide)) rfl T.m_value T.F_value.kp T.q_value_integer_one (fun σ => passAt (takes_of rfl rfl rfl rfl) σ) (pk_cons (pv 5) (pk_cons (pv 1) pk_nil))))) pa_nil)))
      (pss_cons (ps_expr (pe_bm PySem.F.plainAttrs_list PySem.F.slot_list_append PySem.F.type_list_append mt_append (pv 4) (pa_cons (pe_tell (T := TL T) (k := 5) (c := T.c__law_one_right) (P := T.tP__law_one_right) T.F__law_refused T.b__law_refused rfl T.m__law_refused sc__law_refused rfl (Or.inl rfl) (fun _ => gives__law_refused T) tb__law_one_right rfl (.tail _ (.head _)) (hu__law_one_right T) (hr.mono (by decide)) (lamS_by (sc := defScope s__law_one_right) (by decide +kernel)) rfl (fun _ _ _ _ _ => rfl)
        (fun A outer s H E f c' hr => (pe_callK0S (ok_value_at T) (hr.mono (by decide)) rfl T.m_value_at T.F_value_at.kp T.q_value_at_number_one (fun σ => passAt (takes_of rfl rfl rfl rfl) σ) (pk_cons (pv 7) (pk_cons (pv 1) pk_nil))))) pa_nil)))
      (pss_cons (ps_expr (pe_bm PySem.F.plainAttrs_list PySem.F.slot_list_append PySem.F.type_list_append mt_append (pv 4) (pa_cons (pe_tell (T := TL T) (k := 7) (c := T.c__law_one_right) (P := T.tP__law_one_right) T.F__law_refused T.b__law_refused rfl T.m__law_refused sc__law_refused rfl (Or.inl rfl) (fun _ => gives__law_refused T) tb__law_one_right rfl (.tail _ (.head _)) (hu__law_one_right T) (hr.mono (by decide)) (lamS_by (sc := defScope s__law_one_right) (by decide +kernel)) rfl (fun _ _ _ _ _ => rfl)
        (fun A outer s H E f c' hr => (pe_callK0S (ok_power T) (hr.mono (by decide)) rfl T.m_power T.F_power.kp T.q_power_many_one (fun σ => passAt (takes_of rfl rfl rfl rfl) σ) (pk_cons (pv 6) (pk_cons (pv 1) pk_nil))))) pa_nil)))
      (pss_cons (ps_expr (pe_bm PySem.F.plainAttrs_list PySem.F.slot_list_append PySem.F.type_list_append mt_append (pv 4) (pa_cons (pe_tell (T := TL T) (k := 5) (c := T.c__law_one_right) (P := T.tP__law_one_right) T.F__law_refused T.b__law_refused rfl T.m__law_refused sc__law_refused rfl (Or.inl rfl) (fun _ => gives__law_refused T) tb__law_one_right rfl (.tail _ (.head _)) (hu__law_one_right T) (hr.mono (by decide)) (lamS_by (sc := defScope s__law_one_right) (by decide +kernel)) rfl (fun _ _ _ _ _ => rfl)
        (fun A outer s H E f c' hr => (pe_callK0S (ok_subcounts T) (hr.mono (by decide)) rfl T.m_subcounts T.F_subcounts.kp T.q_subcounts_polynomial_q (fun σ => passAt (takes_of rfl rfl rfl rfl) σ) (pk_cons (pv 1) (pk_cons (pv 8) pk_nil))))) pa_nil)))
      (pss_one (ps_ret (pe_callG (ok__law_same T sm) (hr.mono (by decide)) hgu rfl T.m__law_same T.F__law_same.kp T.b__law_same (pa_cons (pv 4) (pa_cons (pe_op op_rep (pe_lst (pa_cons (pv 2) pa_nil)) pe_int) pa_nil)))))))))))))))))))), ?_⟩
    have zd : ∀ e, due1 d1 = some e → Sz 200 8 e := fun e he => (due1_of he) ▸ z1
    refine (seq_cut (fun σ' G => ∃ zd, σ' = [some (.ref d), some v1, some zd, none, none, none, none, none, none] ∧ Same H G ∧ DueV K (hide d l H) (hide d l G) zd (due1 d1)) (fun D' go => ?_) ?_)
    · refine ⟨_, rfl, v1, asInts d1, rfl, dq_lev (Dq.same hide_sub _ _ h1) l1, fun H1 s1 => ⟨_, rfl, ?_⟩⟩
      have D1 := D.same s1
      rcases Bool.eq_false_or_eq_true (polyQ (asInts d1)) with e1 | e1
      · rw [e1]
        refine iteT (go _ _ ⟨_, rfl, s1, ?_⟩)
        unfold due1
        rw [e1]
        rfl
      · rw [e1]
        refine iteF ⟨_, rfl, line_s (Nat.le_of_ble_eq_true rfl), fun p hp => go _ _ ⟨_, rfl, s1.trans (same_upd hp), ?_⟩⟩
        unfold due1
        rw [e1]
        exact ⟨p, v1, rfl, D1.at_new hp, h1⟩
    rintro _ G ⟨zd', rfl, s0, hd⟩
    have D0 := D.same s0
    have b0' : But d l H G := But.of s0
    refine ⟨_, rfl, d, l, 2000, rfl, by decide, by decide, D0, fun r H1 r0 r1 e1 D1 => ⟨_, _, rfl, rfl, ?_⟩⟩
    refine ⟨_, rfl, d, l, 12, rfl, by decide, by decide, D1, fun t H2 t0 t1 e2 D2 => ⟨_, _, rfl, rfl, ?_⟩⟩
    refine ⟨line_s (Nat.le_of_ble_eq_true rfl), fun pa hpa => ⟨pa, _, rfl, SqT.of upd_same, rfl, _, _, rfl, _, _, rfl, rfl, ?_⟩⟩
    have sA := same_upd (o := .tup [.int (r - 1000), .int (1 + t)]) hpa
    replace e2 := e2.same sA
    replace D2 := D2.same sA
    have b2 := (b0'.trans e1).trans e2
    replace hd := hd.keep (Keep.of (e1.trans e2).hide)
    refine ⟨_, rfl, _, rfl, line_s (Nat.le_of_ble_eq_true rfl), fun pn hpn => ?_⟩
    have s3 := same_upd (o := .tup [.int (r - 1000), .int (1 + t)]) hpn
    have D3 := D2.same s3
    have n3 : SqT K (upd (upd H2 pa (.tup [.int (r - 1000), .int (1 + t)])) pn (.tup [.int (r - 1000), .int (1 + t)])) pn [.int (r - 1000), .int (1 + t)] := SqT.of upd_same
    have b3 := b2.same s3
    replace hd := hd.keep (Keep.of (same_hide s3))
    refine ⟨_, rfl, d, l, 4, rfl, by decide, by decide, D3, fun km H4 k0 k1 e4 D4 => ?_⟩
    refine ⟨_, rfl, d, l, 4, rfl, by decide, by decide, D4, fun qq H5 q0 q1 e5 D5 => ⟨_, _, rfl, rfl, ?_⟩⟩
    refine ⟨line_s (Nat.le_of_ble_eq_true rfl), fun pb hpb => ⟨pb, _, rfl, SqT.of upd_same, rfl, _, _, rfl, _, _, rfl, _, _, rfl, rfl, ?_⟩⟩
    have sB := same_upd (o := .tup [.ref pn, .int km, .int (2 + qq)]) hpb
    replace e5 := e5.same sB
    replace D5 := D5.same sB
    generalize upd H5 pb (.tup [.ref pn, .int km, .int (2 + qq)]) = HH at e5 D5 ⊢
    have b5 := (b3.trans e4).trans e5
    replace hd := hd.keep (Keep.of (e4.trans e5).hide)
    have hn := e5.tup D4 (e4.tup D3 n3)
    have h5 : Dq K (hide d l HH) v1 d1 := Dq.same b5.hide _ _ h1
    have g1 : Dq K (noT HH) v1 d1 := Dq.noT _ _ (Dq.same hide_sub _ _ h5)
    have kd : DueV K (noT HH) HH zd' (due1 d1) := by
      cases hdue : due1 d1 with
      | none =>
        rw [hdue] at hd
        exact hd
      | some e =>
        rw [hdue] at hd
        obtain ⟨p, v, f1, f2, f3⟩ := hd
        exact ⟨p, v, f1, hide_sub _ _ f2, Dq.noT _ _ (Dq.same hide_sub _ _ (Dq.same b5.hide _ _ f3))⟩
    have T5 : Tabs (TL T) HH := tabs_but D4 e5 (tabs_but D3 e4 (tabs_same s3 (tabs_but D1 e2 (tabs_but D0 e1 (tabs_same s0 hT)))))
    have kE := fun (H' : Hp) => k HH H' b5 D5
    clear n3 hd e4 e5 D4 D3 D2 D1 e2 e1 b0' b2 b3 b5
    obtain ⟨km, rfl⟩ : ∃ m : Nat, km = (m : Int) := ⟨km.toNat, by omega⟩
    have km4 : km ≤ 4 := by omega
    have ib : (r - 1000).natAbs < 2 ^ 64 := Nat.lt_of_le_of_lt (by omega : _ ≤ 2000) (by decide)
    have bb : (1 + t).natAbs < 2 ^ 64 := Nat.lt_of_le_of_lt (by omega : _ ≤ 2000) (by decide)
    have tb := ib
    have b0 : 0 < 1 + t := by omega
    have lq : LetQ (2 + qq) := ⟨by omega, by omega⟩
    have hst : ∀ (a b c e f : V), ((((List.set [some (V.ref d), some v1, some zd', none, none, none, none, none, none] 5 (some a)).set 3 (some b)).set 7 (some c)).set 6 (some e)).set 8 (some f) = [some (V.ref d), some v1, some zd', some b, none, some a, some e, some c, some f] := fun _ _ _ _ _ => rfl
    refine ⟨T5, fun Ha ea Ta => ⟨_, rfl, _, rfl, lam_scaled T ib g1 l1 (ground ea) fun y1 Hb sb hz => ⟨line_s (Nat.le_of_ble_eq_true rfl), fun L hL => ?_⟩⟩⟩
    have S1 := Sofar.one (ea.trans (same_extN sb)) (Ta.ext sb) hz hL
    have kk := (Keep.ext ea).trans (Keep.of (sb.trans (same_upd (o := .lst [y1]) hL)))
    replace kd := kd.keep kk
    replace hn := kk.sqT hn
    generalize upd Hb L (.lst [y1]) = Hc at S1 kd hn ⊢
    clear hz hL sb Ta ea kk
    refine ⟨_, rfl, .inl ⟨rfl, _, SqL.of S1.l⟩, S1.t, fun Ha ea Ta => ⟨_, rfl, _, rfl, lam_value T ib g1 l1 (S1.g ea) fun y2 Hb sb hz => ⟨L, _, _, rfl, rfl, S1.at ea sb, line_le (Nat.le_of_ble_eq_true rfl), ?_⟩⟩⟩
    have S2 := S1.more ea Ta sb hz
    have kk := (Keep.ext ea).trans ((Keep.of sb).trans (Keep.lst (ys := [y1] ++ [y2]) (S1.at ea sb)))
    replace kd := kd.keep kk
    replace hn := kk.sqT hn
    generalize upd Hb L (.lst ([y1] ++ [y2])) = Hd at S2 kd hn ⊢
    clear hz sb Ta ea kk S1
    refine ⟨_, rfl, .inl ⟨rfl, _, SqL.of S2.l⟩, S2.t, fun Ha ea Ta => ⟨_, rfl, _, rfl, lam_value_at T (u := .ref pn) ⟨pn, rfl, SqT.extN ea hn⟩ tb bb b0 g1 l1 (S2.g ea) fun y3 Hb sb hz => ⟨L, _, _, rfl, rfl, S2.at ea sb, line_le (Nat.le_of_ble_eq_true rfl), ?_⟩⟩⟩
    have S3 := S2.more ea Ta sb hz
    have kk := (Keep.ext ea).trans ((Keep.of sb).trans (Keep.lst (ys := [y1] ++ [y2] ++ [y3]) (S2.at ea sb)))
    replace kd := kd.keep kk
    replace hn := kk.sqT hn
    generalize upd Hb L (.lst ([y1] ++ [y2] ++ [y3])) = Hd at S3 kd hn ⊢
    clear hz sb Ta ea kk S2
    refine ⟨_, rfl, .inl ⟨rfl, _, SqL.of S3.l⟩, S3.t, fun Ha ea Ta => ⟨_, rfl, _, rfl, lam_power T km4 g1 l1 (S3.g ea) fun y4 Hb sb hz => ⟨L, _, _, rfl, rfl, S3.at ea sb, line_le (Nat.le_of_ble_eq_true rfl), ?_⟩⟩⟩
    have S4 := S3.more ea Ta sb hz
    have kk := (Keep.ext ea).trans ((Keep.of sb).trans (Keep.lst (ys := [y1] ++ [y2] ++ [y3] ++ [y4]) (S3.at ea sb)))
    replace kd := kd.keep kk
    replace hn := kk.sqT hn
    generalize upd Hb L (.lst ([y1] ++ [y2] ++ [y3] ++ [y4])) = Hd at S4 kd hn ⊢
    clear hz sb Ta ea kk S3
    refine ⟨_, rfl, .inl ⟨rfl, _, SqL.of S4.l⟩, S4.t, fun Ha ea Ta => ⟨_, rfl, lam_power T (k := 0) (by decide) g1 l1 (S4.g ea) fun y5 Hb sb hz => ⟨L, _, _, rfl, rfl, S4.at ea sb, line_le (Nat.le_of_ble_eq_true rfl), ?_⟩⟩⟩
    have S5 := S4.more ea Ta sb hz
    have kk := (Keep.ext ea).trans ((Keep.of sb).trans (Keep.lst (ys := [y1] ++ [y2] ++ [y3] ++ [y4] ++ [y5]) (S4.at ea sb)))
    replace kd := kd.keep kk
    replace hn := kk.sqT hn
    generalize upd Hb L (.lst ([y1] ++ [y2] ++ [y3] ++ [y4] ++ [y5])) = Hd at S5 kd hn ⊢
    clear hz sb Ta ea kk S4
    refine ⟨_, rfl, .inl ⟨rfl, _, SqL.of S5.l⟩, S5.t, fun Ha ea Ta => ⟨_, rfl, lam_scaled T (k := 0) (by decide) g1 l1 (S5.g ea) fun y6 Hb sb hz => ⟨L, _, _, rfl, rfl, S5.at ea sb, line_le (Nat.le_of_ble_eq_true rfl), ?_⟩⟩⟩
    have S6 := S5.more ea Ta sb hz
    have kk := (Keep.ext ea).trans ((Keep.of sb).trans (Keep.lst (ys := [y1] ++ [y2] ++ [y3] ++ [y4] ++ [y5] ++ [y6]) (S5.at ea sb)))
    replace kd := kd.keep kk
    replace hn := kk.sqT hn
    generalize upd Hb L (.lst ([y1] ++ [y2] ++ [y3] ++ [y4] ++ [y5] ++ [y6])) = Hd at S6 kd hn ⊢
    clear hz sb Ta ea kk S5
    refine ⟨_, rfl, .inl ⟨rfl, _, SqL.of S6.l⟩, S6.t, fun Ha ea Ta => ⟨_, rfl, _, rfl, lam_sub T lq g1 l1 (S6.g ea) fun y7 Hb sb hz => ⟨L, _, _, rfl, rfl, S6.at ea sb, line_le (Nat.le_of_ble_eq_true rfl), ?_⟩⟩⟩
    have S7 := S6.more ea Ta sb hz
    have kk := (Keep.ext ea).trans ((Keep.of sb).trans (Keep.lst (ys := [y1] ++ [y2] ++ [y3] ++ [y4] ++ [y5] ++ [y6] ++ [y7]) (S6.at ea sb)))
    replace kd := kd.keep kk
    replace hn := kk.sqT hn
    generalize upd Hb L (.lst ([y1] ++ [y2] ++ [y3] ++ [y4] ++ [y5] ++ [y6] ++ [y7])) = Hd at S7 kd hn ⊢
    clear hz sb Ta ea kk S6
    refine ⟨_, rfl, .inl ⟨rfl, _, SqL.of S7.l⟩, S7.t, fun Ha ea Ta => ⟨_, rfl, _, rfl, lam_scaled T ib g1 l1 (S7.g ea) fun y8 Hb sb hz => ⟨L, _, _, rfl, rfl, S7.at ea sb, line_le (Nat.le_of_ble_eq_true rfl), ?_⟩⟩⟩
    have S8 := S7.more ea Ta sb hz
    have kk := (Keep.ext ea).trans ((Keep.of sb).trans (Keep.lst (ys := [y1] ++ [y2] ++ [y3] ++ [y4] ++ [y5] ++ [y6] ++ [y7] ++ [y8]) (S7.at ea sb)))
    replace kd := kd.keep kk
    replace hn := kk.sqT hn
    generalize upd Hb L (.lst ([y1] ++ [y2] ++ [y3] ++ [y4] ++ [y5] ++ [y6] ++ [y7] ++ [y8])) = Hd at S8 kd hn ⊢
    clear hz sb Ta ea kk S7
    refine ⟨_, rfl, .inl ⟨rfl, _, SqL.of S8.l⟩, S8.t, fun Ha ea Ta => ⟨_, rfl, _, rfl, lam_value T ib g1 l1 (S8.g ea) fun y9 Hb sb hz => ⟨L, _, _, rfl, rfl, S8.at ea sb, line_le (Nat.le_of_ble_eq_true rfl), ?_⟩⟩⟩
    have S9 := S8.more ea Ta sb hz
    have kk := (Keep.ext ea).trans ((Keep.of sb).trans (Keep.lst (ys := [y1] ++ [y2] ++ [y3] ++ [y4] ++ [y5] ++ [y6] ++ [y7] ++ [y8] ++ [y9]) (S8.at ea sb)))
    replace kd := kd.keep kk
    replace hn := kk.sqT hn
    generalize upd Hb L (.lst ([y1] ++ [y2] ++ [y3] ++ [y4] ++ [y5] ++ [y6] ++ [y7] ++ [y8] ++ [y9])) = Hd at S9 kd hn ⊢
    clear hz sb Ta ea kk S8
    refine ⟨_, rfl, .inl ⟨rfl, _, SqL.of S9.l⟩, S9.t, fun Ha ea Ta => ⟨_, rfl, _, rfl, lam_value_at T (u := .ref pn) ⟨pn, rfl, SqT.extN ea hn⟩ tb bb b0 g1 l1 (S9.g ea) fun y10 Hb sb hz => ⟨L, _, _, rfl, rfl, S9.at ea sb, line_le (Nat.le_of_ble_eq_true rfl), ?_⟩⟩⟩
    have S10 := S9.more ea Ta sb hz
    have kk := (Keep.ext ea).trans ((Keep.of sb).trans (Keep.lst (ys := [y1] ++ [y2] ++ [y3] ++ [y4] ++ [y5] ++ [y6] ++ [y7] ++ [y8] ++ [y9] ++ [y10]) (S9.at ea sb)))
    replace kd := kd.keep kk
    replace hn := kk.sqT hn
    generalize upd Hb L (.lst ([y1] ++ [y2] ++ [y3] ++ [y4] ++ [y5] ++ [y6] ++ [y7] ++ [y8] ++ [y9] ++ [y10])) = Hd at S10 kd hn ⊢
    clear hz sb Ta ea kk S9
    refine ⟨_, rfl, .inl ⟨rfl, _, SqL.of S10.l⟩, S10.t, fun Ha ea Ta => ⟨_, rfl, _, rfl, lam_power T km4 g1 l1 (S10.g ea) fun y11 Hb sb hz => ⟨L, _, _, rfl, rfl, S10.at ea sb, line_le (Nat.le_of_ble_eq_true rfl), ?_⟩⟩⟩
    have S11 := S10.more ea Ta sb hz
    have kk := (Keep.ext ea).trans ((Keep.of sb).trans (Keep.lst (ys := [y1] ++ [y2] ++ [y3] ++ [y4] ++ [y5] ++ [y6] ++ [y7] ++ [y8] ++ [y9] ++ [y10] ++ [y11]) (S10.at ea sb)))
    replace kd := kd.keep kk
    replace hn := kk.sqT hn
    generalize upd Hb L (.lst ([y1] ++ [y2] ++ [y3] ++ [y4] ++ [y5] ++ [y6] ++ [y7] ++ [y8] ++ [y9] ++ [y10] ++ [y11])) = Hd at S11 kd hn ⊢
    clear hz sb Ta ea kk S10
    refine ⟨_, rfl, .inl ⟨rfl, _, SqL.of S11.l⟩, S11.t, fun Ha ea Ta => ⟨_, rfl, _, rfl, lam_sub T lq g1 l1 (S11.g ea) fun y12 Hb sb hz => ⟨L, _, _, rfl, rfl, S11.at ea sb, line_le (Nat.le_of_ble_eq_true rfl), ?_⟩⟩⟩
    have S12 := S11.more ea Ta sb hz
    have kk := (Keep.ext ea).trans ((Keep.of sb).trans (Keep.lst (ys := [y1] ++ [y2] ++ [y3] ++ [y4] ++ [y5] ++ [y6] ++ [y7] ++ [y8] ++ [y9] ++ [y10] ++ [y11] ++ [y12]) (S11.at ea sb)))
    replace kd := kd.keep kk
    replace hn := kk.sqT hn
    generalize upd Hb L (.lst ([y1] ++ [y2] ++ [y3] ++ [y4] ++ [y5] ++ [y6] ++ [y7] ++ [y8] ++ [y9] ++ [y10] ++ [y11] ++ [y12])) = Hd at S12 kd hn ⊢
    clear hz sb Ta ea kk S11
    refine ⟨_, rfl, _, rfl, line_s (Nat.le_of_ble_eq_true rfl), fun p hp => ?_⟩
    refine ⟨p, _, _, rfl, rfl, upd_same, by decide, by decide, line_s (Nat.le_of_ble_eq_true rfl), fun D hD => ?_⟩
    have sp := same_upd (o := .lst [zd']) hp
    have sD := same_upd (o := .lst (List.replicate (12 : Int).toNat [zd']).flatten) hD
    have s7 := sp.trans sD
    have gg := (ground S12.e).trans s7
    have hz := (kd.keep (Keep.of s7)).dq gg
    refine ⟨.ref L, .ref D, .list (List.replicate 12 (dueD (due1 d1))), rfl, S12.dq s7, ?_, told_rep zd (by decide), ?_⟩
    · have z := SqL.of (K := K) (show (upd (upd Hd p (.lst [zd'])) D (.lst (List.replicate (12 : Int).toNat [zd']).flatten)) D = some (.lst (List.replicate (12 : Int).toNat [zd']).flatten) from upd_same)
      rw [rep_flat] at z
      refine .lst z ?_
      have := all_dq (K := K) (G := upd (upd Hd p (.lst [zd'])) D (.lst (List.replicate (12 : Int).toNat [zd']).flatten)) (D := dueD (due1 d1)) (zs := List.replicate 12 zd') fun x hx => by
        rw [List.eq_of_mem_replicate hx]
        exact hz
      rw [List.length_replicate] at this
      exact this
    · exact kE _ (S12.e.trans (same_extN s7)) (S12.t.ext s7)
end
end K24
end
section
set_option maxRecDepth 100000
set_option maxHeartbeats 8000000
set_option exponentiation.threshold 70000
namespace K24
open PySem PySem.Spec PyProof.Rows L2 MB PM
open LamX hiding takes0
section
variable {w : World} {K : PySem.W.Frag} {mg : Str → Option Value} {base : Heap}
theorem rows_noT {H : Hp} {vs : List V} {Rs : List (List Int)} (h : Paired (TI K H) vs Rs) : Paired (TI K (noT H)) vs Rs := by
  induction h with
  | nil => exact .nil
  | cons r _ ih =>
    obtain ⟨a, rfl, ha⟩ := r
    exact .cons ⟨a, rfl, sqT_noT ha⟩ ih
theorem BookOk.noT {T : Txt K mg} {H : Hp} {b : Addr} (h : BookOk T H b) : BookOk T (noT H) b := by
  obtain ⟨q, n, Rs, ⟨dx, fs, z, h1, h2, h3, h4, h5, a, vs, h6, h7, h8⟩, h9⟩ := h
  exact ⟨q, n, Rs, ⟨dx, fs, z, noT_some h1 (by intro ps z; cases z), h2, h3, h4, h5, a, vs, h6, sqT_noT h7, rows_noT h8⟩, h9⟩
theorem BookOk.ext {T : Txt K mg} {H H' : Hp} {b : Addr} (h : BookOk T H b) (e : ExtN H H') : BookOk T H' b := h.noT.same (ground e)
theorem BookOk.lev {T : Txt K mg} {H : Hp} {b : Addr} (h : BookOk T H b) : Lev K H (.ref b) none := by
  obtain ⟨_, _, _, ⟨_, _, _, h1, _⟩, _⟩ := h
  exact ⟨_, ty_book T h1, T.is_Book.nt⟩
variable {H1 : Hp} {v1 v2 : V} {Q : VK} {o1 o2 : Option (List (Option Int))}
theorem fly1 (T : Txt K mg) {v : V} {H2 : Hp} (s : Same H1 H2) (go : ∀ p H', Same H1 H' → SqT K H' p [.str "polynomial", v] → Q (.ref p) H') : Flies (ETold T Q) T.C_BadPolynomial v H2 := fun dx hx =>
  ⟨dx, v, rfl, rfl, upd_same, fun p hp => go p _ (s.trans ((same_upd hx).trans (same_upd hp))) (SqT.of upd_same)⟩
theorem bad_two1 (T : Txt K mg) {R : List Int → List Int → Hp → VK → Prop} (h1 : Lev K H1 v1 o1) (b1 : polyQ o1 = false) (h2 : Lev K H1 v2 o2) (go : ∀ p H', Same H1 H' → SqT K H' p [.str "polynomial", v1] → Q (.ref p) H') :
    spTwo K T.C_BadPolynomial R [v1, v2] H1 (fun _ H' => Q .non H') (ETold T Q) :=
  ⟨v1, v2, o1, o2, rfl, h1, h2, fun _ H' s => fly1 T s go, (fun e => by rw [b1] at e; cases e), fun ns ms e _ p _ => by rw [e, polyQ_ints, p] at b1; cases b1⟩
theorem bad_two2 (T : Txt K mg) {R : List Int → List Int → Hp → VK → Prop} (h1 : Lev K H1 v1 o1) (p1 : polyQ o1 = true) (h2 : Lev K H1 v2 o2) (b2 : polyQ o2 = false) (go : ∀ p H', Same H1 H' → SqT K H' p [.str "polynomial", v2] → Q (.ref p) H') :
    spTwo K T.C_BadPolynomial R [v1, v2] H1 (fun _ H' => Q .non H') (ETold T Q) :=
  ⟨v1, v2, o1, o2, rfl, h1, h2, (fun e => by rw [p1] at e; cases e), fun _ _ H' s => fly1 T s go, fun ns ms _ e _ p => by rw [e, polyQ_ints, p] at b2; cases b2⟩
theorem bad_one (T : Txt K mg) {args : V → List V} {R : List Int → Hp → VK → Prop} (h1 : Lev K H1 v1 o1) (b1 : polyQ o1 = false) (go : ∀ p H', Same H1 H' → SqT K H' p [.str "polynomial", v1] → Q (.ref p) H') :
    spOne K T.C_BadPolynomial args R (args v1) H1 (fun _ H' => Q .non H') (ETold T Q) :=
  ⟨v1, o1, rfl, h1, fun _ H' s => fly1 T s go, fun ns e p => by rw [e, polyQ_ints, p] at b1; cases b1⟩
def spBooksR (T : Txt K mg) : Sp := fun vs H Q _ => ∃ b : Addr, vs = [.ref b] ∧ BookOk T H b ∧ Tabs (TL T) H ∧ ∀ H', ExtN H H' → Tabs (TL T) H' → Q (.bl true) H'
theorem ok__law_are_books_refused (T : Txt K mg) (sm : SM base) (tb__law_are_books_refused : TabB base mg T.c__law_are_books_refused T.tP__law_are_books_refused) : FnG P w K mg base 12 T.a__law_are_books_refused T.d__law_are_books_refused P__law_are_books_refused (spBooksR T) := by
  refine fnGL T.F__law_are_books_refused sc__law_are_books_refused (fun vs H Q E h => ?_) (fun A outer s H vs Q E hr hgu h => ?_)
  · obtain ⟨b, rfl, _⟩ := h
    rfl
  · obtain ⟨b, rfl, hb, hT, k⟩ := h
    refine ⟨_, 
      (pss_cons (ps_if (pt_not (pt_val (pe_tell3 (T := TL T) (k := 6) (c := T.c__law_are_books_refused) (P := T.tP__law_are_books_refused) T.F__law_is_refused T.b__law_is_refused rfl T.m__law_is_refused sc__law_is_refused rfl (Or.inl rfl) T.F__law_refused T.b__law_refused rfl T.m__law_refused sc__law_refused rfl (Or.inl rfl) (fun _ _ _ _ => gives__law_refused T) (fun _ => gives3__law_is_refused T) pe_str (pv 0) tb__law_are_books_refused rfl (.tail _ (.tail _ (.head _))) (hu__law_are_books_refused T) (hr.mono (by decide)) (lamS_by (sc := defScope s__law_are_books_refused) (by decide +kernel)) rfl (fun _ _ _ _ _ => rfl)
        (fun A outer s H E f c' hr => (pe_callS (ok_plus T) (hr.mono (by decide)) rfl T.m_plus T.F_plus.kp T.b_plus (fun σ => passAt (takes_of rfl rfl rfl rfl) σ) (pa_cons (pv 0) (pa_cons (pe_tup (pa_cons pe_int pa_nil)) pa_nil))))))) (pss_one (ps_ret pe_bl)) pss_nil)
      (pss_cons (ps_if (pt_not (pt_val (pe_tell3 (T := TL T) (k := 7) (c := T.c__law_are_books_refused) (P := T.tP__law_are_books_refused) T.F__law_is_refused T.b__law_is_refused rfl T.m__law_is_refused sc__law_is_refused rfl (Or.inl rfl) T.F__law_refused T.b__law_refused rfl T.m__law_refused sc__law_refused rfl (Or.inl rfl) (fun _ _ _ _ => gives__law_refused T) (fun _ => gives3__law_is_refused T) pe_str (pv 0) tb__law_are_books_refused rfl (.tail _ (.tail _ (.head _))) (hu__law_are_books_refused T) (hr.mono (by decide)) (lamS_by (sc := defScope s__law_are_books_refused) (by decide +kernel)) rfl (fun _ _ _ _ _ => rfl)
        (fun A outer s H E f c' hr => (pe_callS (ok_minus T) (hr.mono (by decide)) rfl T.m_minus T.F_minus.kp T.b_minus (fun σ => passAt (takes_of rfl rfl rfl rfl) σ) (pa_cons (pe_tup (pa_cons pe_int pa_nil)) (pa_cons (pv 0) pa_nil))))))) (pss_one (ps_ret pe_bl)) pss_nil)
      (pss_cons (ps_if (pt_not (pt_val (pe_tell3 (T := TL T) (k := 6) (c := T.c__law_are_books_refused) (P := T.tP__law_are_books_refused) T.F__law_is_refused T.b__law_is_refused rfl T.m__law_is_refused sc__law_is_refused rfl (Or.inl rfl) T.F__law_refused T.b__law_refused rfl T.m__law_refused sc__law_refused rfl (Or.inl rfl) (fun _ _ _ _ => gives__law_refused T) (fun _ => gives3__law_is_refused T) pe_str (pv 0) tb__law_are_books_refused rfl (.tail _ (.tail _ (.head _))) (hu__law_are_books_refused T) (hr.mono (by decide)) (lamS_by (sc := defScope s__law_are_books_refused) (by decide +kernel)) rfl (fun _ _ _ _ _ => rfl)
        (fun A outer s H E f c' hr => (pe_callK0S (ok_times T) (hr.mono (by decide)) rfl T.m_times T.F_times.kp T.q_times_other_one (fun σ => passAt (takes_of rfl rfl rfl rfl) σ) (pk_cons (pv 0) (pk_cons (pe_tup pa_nil) pk_nil))))))) (pss_one (ps_ret pe_bl)) pss_nil)
      (pss_cons (ps_if (pt_not (pt_val (pe_tell3 (T := TL T) (k := 5) (c := T.c__law_are_books_refused) (P := T.tP__law_are_books_refused) T.F__law_is_refused T.b__law_is_refused rfl T.m__law_is_refused sc__law_is_refused rfl (Or.inl rfl) T.F__law_refused T.b__law_refused rfl T.m__law_refused sc__law_refused rfl (Or.inl rfl) (fun _ _ _ _ => gives__law_refused T) (fun _ => gives3__law_is_refused T) pe_str (pv 0) tb__law_are_books_refused rfl (.tail _ (.tail _ (.head _))) (hu__law_are_books_refused T) (hr.mono (by decide)) (lamS_by (sc := defScope s__law_are_books_refused) (by decide +kernel)) rfl (fun _ _ _ _ _ => rfl)
        (fun A outer s H E f c' hr => (pe_callS (ok_scaled T) (hr.mono (by decide)) rfl T.m_scaled T.F_scaled.kp T.b_scaled (fun σ => passAt (takes_of rfl rfl rfl rfl) σ) (pa_cons pe_int (pa_cons (pv 0) pa_nil))))))) (pss_one (ps_ret pe_bl)) pss_nil)
      (pss_cons (ps_if (pt_not (pt_val (pe_tell3 (T := TL T) (k := 5) (c := T.c__law_are_books_refused) (P := T.tP__law_are_books_refused) T.F__law_is_refused T.b__law_is_refused rfl T.m__law_is_refused sc__law_is_refused rfl (Or.inl rfl) T.F__law_refused T.b__law_refused rfl T.m__law_refused sc__law_refused rfl (Or.inl rfl) (fun _ _ _ _ => gives__law_refused T) (fun _ => gives3__law_is_refused T) pe_str (pv 0) tb__law_are_books_refused rfl (.tail _ (.tail _ (.head _))) (hu__law_are_books_refused T) (hr.mono (by decide)) (lamS_by (sc := defScope s__law_are_books_refused) (by decide +kernel)) rfl (fun _ _ _ _ _ => rfl)
        (fun A outer s H E f c' hr => (pe_callS (ok_value T) (hr.mono (by decide)) rfl T.m_value T.F_value.kp T.b_value (fun σ => passAt (takes_of rfl rfl rfl rfl) σ) (pa_cons (pv 0) (pa_cons pe_int pa_nil))))))) (pss_one (ps_ret pe_bl)) pss_nil)
      (pss_cons (ps_if (pt_not (pt_val (pe_tell3 (T := TL T) (k := 5) (c := T.c__law_are_books_refused) (P := T.tP__law_are_books_refused) T.F__law_is_refused T.b__law_is_refused rfl T.m__law_is_refused sc__law_is_refused rfl (Or.inl rfl) T.F__law_refused T.b__law_refused rfl T.m__law_refused sc__law_refused rfl (Or.inl rfl) (fun _ _ _ _ => gives__law_refused T) (fun _ => gives3__law_is_refused T) pe_str (pv 0) tb__law_are_books_refused rfl (.tail _ (.tail _ (.head _))) (hu__law_are_books_refused T) (hr.mono (by decide)) (lamS_by (sc := defScope s__law_are_books_refused) (by decide +kernel)) rfl (fun _ _ _ _ _ => rfl)
        (fun A outer s H E f c' hr => (pe_callS (ok_value_at T) (hr.mono (by decide)) rfl T.m_value_at T.F_value_at.kp T.b_value_at (fun σ => passAt (takes_of rfl rfl rfl rfl) σ) (pa_cons (pv 0) (pa_cons (pe_tup (pa_cons pe_int (pa_cons pe_int pa_nil))) pa_nil))))))) (pss_one (ps_ret pe_bl)) pss_nil)
      (pss_cons (ps_if (pt_not (pt_val (pe_tell3 (T := TL T) (k := 7) (c := T.c__law_are_books_refused) (P := T.tP__law_are_books_refused) T.F__law_is_refused T.b__law_is_refused rfl T.m__law_is_refused sc__law_is_refused rfl (Or.inl rfl) T.F__law_refused T.b__law_refused rfl T.m__law_refused sc__law_refused rfl (Or.inl rfl) (fun _ _ _ _ => gives__law_refused T) (fun _ => gives3__law_is_refused T) pe_str (pv 0) tb__law_are_books_refused rfl (.tail _ (.tail _ (.head _))) (hu__law_are_books_refused T) (hr.mono (by decide)) (lamS_by (sc := defScope s__law_are_books_refused) (by decide +kernel)) rfl (fun _ _ _ _ _ => rfl)
        (fun A outer s H E f c' hr => (pe_callS (ok_power T) (hr.mono (by decide)) rfl T.m_power T.F_power.kp T.b_power (fun σ => passAt (takes_of rfl rfl rfl rfl) σ) (pa_cons (pv 0) (pa_cons pe_int pa_nil))))))) (pss_one (ps_ret pe_bl)) pss_nil)
      (pss_one (ps_ret (pe_tell3 (T := TL T) (k := 5) (c := T.c__law_are_books_refused) (P := T.tP__law_are_books_refused) T.F__law_is_refused T.b__law_is_refused rfl T.m__law_is_refused sc__law_is_refused rfl (Or.inl rfl) T.F__law_refused T.b__law_refused rfl T.m__law_refused sc__law_refused rfl (Or.inl rfl) (fun _ _ _ _ => gives__law_refused T) (fun _ => gives3__law_is_refused T) pe_str (pv 0) tb__law_are_books_refused rfl (.tail _ (.tail _ (.head _))) (hu__law_are_books_refused T) (hr.mono (by decide)) (lamS_by (sc := defScope s__law_are_books_refused) (by decide +kernel)) rfl (fun _ _ _ _ _ => rfl)
        (fun A outer s H E f c' hr => (pe_callS (ok_subcounts T) (hr.mono (by decide)) rfl T.m_subcounts T.F_subcounts.kp T.b_subcounts (fun σ => passAt (takes_of rfl rfl rfl rfl) σ) (pa_cons pe_int (pa_cons (pv 0) pa_nil)))))))))))))), ?_⟩
    have one : ∀ {G : Hp} {p : Addr}, G p = none → Lev K (upd G p (.tup [.int 1])) (.ref p) (some ([1].map some)) := fun {G p} _ => ti_lev (ns := [1]) ⟨p, rfl, SqT.of upd_same⟩ (by decide)
    have nil : ∀ {G : Hp} {p : Addr}, G p = none → Lev K (upd G p (.tup [])) (.ref p) (some (([] : List Int).map some)) := fun {G p} _ => ti_lev (ns := []) ⟨p, rfl, SqT.of upd_same⟩ (by decide)
    have e0 : ExtN H H := ExtN.refl H
    have t0 := hT
    refine ⟨_, rfl, t0, fun Ha ea Ta => ⟨b, rfl, rfl, fun k' go => ?_⟩⟩
    refine ⟨_, rfl, line_s (Nat.le_of_ble_eq_true rfl), fun p hp => bad_two1 T ((hb.ext (e0.trans ea)).same (same_upd hp)).lev rfl (one hp) fun pz Hb sb hz => go pz Hb hz (((hb.ext (e0.trans ea)).same (same_upd hp)).same sb) fun Hc sc => ?_⟩
    refine ⟨true, rfl, iteF ?_⟩
    have e1 := e0.trans (ea.trans (same_extN ((same_upd hp).trans (sb.trans sc))))
    have t1 := Ta.ext ((same_upd hp).trans (sb.trans sc))
    clear ea Ta 
    refine ⟨_, rfl, t1, fun Ha ea Ta => ⟨b, rfl, rfl, fun k' go => ?_⟩⟩
    refine ⟨line_s (Nat.le_of_ble_eq_true rfl), fun p hp => ⟨_, rfl, bad_two2 T (one hp) rfl ((hb.ext (e1.trans ea)).same (same_upd hp)).lev rfl fun pz Hb sb hz => go pz Hb hz (((hb.ext (e1.trans ea)).same (same_upd hp)).same sb) fun Hc sc => ?_⟩⟩
    refine ⟨true, rfl, iteF ?_⟩
    have e2 := e1.trans (ea.trans (same_extN ((same_upd hp).trans (sb.trans sc))))
    have t2 := Ta.ext ((same_upd hp).trans (sb.trans sc))
    clear ea Ta 
    refine ⟨_, rfl, t2, fun Ha ea Ta => ⟨b, rfl, rfl, fun k' go => ?_⟩⟩
    refine ⟨_, rfl, line_s (Nat.le_of_ble_eq_true rfl), fun p hp => bad_two2 T (nil hp) rfl ((hb.ext (e2.trans ea)).same (same_upd hp)).lev rfl fun pz Hb sb hz => go pz Hb hz (((hb.ext (e2.trans ea)).same (same_upd hp)).same sb) fun Hc sc => ?_⟩
    refine ⟨true, rfl, iteF ?_⟩
    have e3 := e2.trans (ea.trans (same_extN ((same_upd hp).trans (sb.trans sc))))
    have t3 := Ta.ext ((same_upd hp).trans (sb.trans sc))
    clear ea Ta 
    refine ⟨_, rfl, t3, fun Ha ea Ta => ⟨b, rfl, rfl, fun k' go => ?_⟩⟩
    refine ⟨_, rfl, 2, bad_one T (args := fun v => [.int 2, v]) ((hb.ext (e3.trans ea))).lev rfl fun pz Hb sb hz => go pz Hb hz (((hb.ext (e3.trans ea))).same sb) fun Hc sc => ?_⟩
    refine ⟨true, rfl, iteF ?_⟩
    have e4 := e3.trans (ea.trans (same_extN (sb.trans sc)))
    have t4 := Ta.ext (sb.trans sc)
    clear ea Ta 
    refine ⟨_, rfl, t4, fun Ha ea Ta => ⟨b, rfl, rfl, fun k' go => ?_⟩⟩
    refine ⟨_, rfl, 2, bad_one T (args := fun v => [v, .int 2]) ((hb.ext (e4.trans ea))).lev rfl fun pz Hb sb hz => go pz Hb hz (((hb.ext (e4.trans ea))).same sb) fun Hc sc => ?_⟩
    refine ⟨true, rfl, iteF ?_⟩
    have e5 := e4.trans (ea.trans (same_extN (sb.trans sc)))
    have t5 := Ta.ext (sb.trans sc)
    clear ea Ta 
    refine ⟨_, rfl, t5, fun Ha ea Ta => ⟨b, rfl, rfl, fun k' go => ?_⟩⟩
    refine ⟨_, rfl, line_s (Nat.le_of_ble_eq_true rfl), fun p hp => ⟨.ref p, bad_one T (args := fun v => [v, .ref p]) ((hb.ext (e5.trans ea)).same (same_upd hp)).lev rfl fun pz Hb sb hz => go pz Hb hz (((hb.ext (e5.trans ea)).same (same_upd hp)).same sb) fun Hc sc => ?_⟩⟩
    refine ⟨true, rfl, iteF ?_⟩
    have e6 := e5.trans (ea.trans (same_extN ((same_upd hp).trans (sb.trans sc))))
    have t6 := Ta.ext ((same_upd hp).trans (sb.trans sc))
    clear ea Ta 
    refine ⟨_, rfl, t6, fun Ha ea Ta => ⟨b, rfl, rfl, fun k' go => ?_⟩⟩
    refine ⟨_, rfl, 2, bad_one T (args := fun v => [v, .int ((2 : Nat) : Int)]) ((hb.ext (e6.trans ea))).lev rfl fun pz Hb sb hz => go pz Hb hz (((hb.ext (e6.trans ea))).same sb) fun Hc sc => ?_⟩
    refine ⟨true, rfl, iteF ?_⟩
    have e7 := e6.trans (ea.trans (same_extN (sb.trans sc)))
    have t7 := Ta.ext (sb.trans sc)
    clear ea Ta 
    refine ⟨_, rfl, t7, fun Ha ea Ta => ⟨b, rfl, rfl, fun k' go => ?_⟩⟩
    refine ⟨_, rfl, 3, ⟨by decide, by decide⟩, bad_one T (args := fun v => [.int 3, v]) ((hb.ext (e7.trans ea))).lev rfl fun pz Hb sb hz => go pz Hb hz (((hb.ext (e7.trans ea))).same sb) fun Hc sc => ?_⟩
    exact k _ (e7.trans (ea.trans (same_extN (sb.trans sc)))) (Ta.ext (sb.trans sc))
end
end K24
end
section
set_option maxRecDepth 100000
set_option maxHeartbeats 8000000
set_option exponentiation.threshold 70000
namespace K24
open PySem PySem.Spec PyProof.Rows L2 MB PM
open LamX hiding takes0
theorem seq_cutO {r : R2} {ta tb : TE} {g : TG} {u : TS} {D : Ends} {σ : L2.St} {H : Hp} (P : L2.St → Hp → Prop) (h1 : ∀ D' : Ends, (∀ σ' H', P σ' H' → D'.nx σ' H') → tAsg (tOp r ta tb) g D' σ H) (h2 : ∀ σ' H', P σ' H' → u D σ' H') : tSeq (tAsg (tOp r ta tb) g) u D σ H := seq_cut P h1 h2
def polD (ns : List Int) : PyData := .tuple [.str "polynomial", .tuple (ns.map PyData.int)]
theorem polD_can (ns : List Int) : (polD ns).canLay0 = true := by
  unfold polD
  have h : PyData.strOk ("polynomial" : Str) = true := by decide +kernel
  simp only [PyData.canLay0, PyData.canLayAll0, ints_lay, Bool.and_self, h]
theorem polD_shaped (ns : List Int) : SeqAt.shaped (polD ns) = true := by
  unfold SeqAt.shaped
  rw [polD_can, Bool.true_and]
  unfold polD
  simp only [PyData.depth, PyData.depthAll, ints_depth]
  decide
theorem polD_refl (ns : List Int) : PyData.eqv (polD ns) (polD ns) = true := by
  first | exact P3.eqv_refl _ (polD_can ns) | exact PyData.eqv_refl _ (polD_can ns) | exact PySem.eqv_refl _ (polD_can ns) | exact SeqAt.eqv_refl _ (polD_can ns)
theorem bits39 : ((10 : Int) ^ (39 : Int).toNat).natAbs ≤ 2 ^ 130 := by decide
section
variable {w : World} {K : PySem.W.Frag} {mg : Str → Option Value} {base : Heap}
theorem ok0_plus (T : Txt K mg) : FnOk P w K mg base L2.CX0 6 T.a_plus T.d_plus P_plus (fun vs H Q _ => spTwo K T.C_BadPolynomial (rPlus K) vs H Q fun _ _ _ => False) := MB.FnOk.quiet (ok_plus T)
theorem ok0_power (T : Txt K mg) : FnOk P w K mg base L2.CX0 7 T.a_power T.d_power P_power (fun vs H Q _ => spPower K T.C_BadPolynomial vs H Q fun _ _ _ => False) := MB.FnOk.quiet (ok_power T)
theorem eq_pol {H : Hp} {pz p : Addr} {v : V} {ns : List Int} {Q : VK} (hv : TI K H v ns) (hz : SqT K H pz [.str "polynomial", v]) (hp : SqT K H p [.str "polynomial", v]) (q : Q (.bl true) H) : rEqD K (.ref pz) (.ref p) H Q := by
  obtain ⟨a, rfl, ha⟩ := hv
  refine ⟨polD ns, polD ns, .tup hz (.cons (.str _) (.cons (.tup ha (dp_ints ns)) .nil)), .tup hp (.cons (.str _) (.cons (.tup ha (dp_ints ns)) .nil)), polD_shaped ns, polD_shaped ns, ?_⟩
  rw [polD_refl]
  exact q
def spGreatR (T : Txt K mg) : Sp := fun vs H Q _ => vs = [] ∧ Tabs (TL T) H ∧ ∀ H', Q (.bl true) H'
theorem ok__law_is_great_refused (T : Txt K mg) (sm : SM base) (tb__law_is_great_refused : TabB base mg T.c__law_is_great_refused T.tP__law_is_great_refused) : FnG P w K mg base 10 T.a__law_is_great_refused T.d__law_is_great_refused P__law_is_great_refused (spGreatR T) := by
  refine fnGL T.F__law_is_great_refused sc__law_is_great_refused (fun vs H Q E h => ?_) (fun A outer s H vs Q E hr hgu h => ?_)
  · obtain ⟨rfl, _⟩ := h
    rfl
  · obtain ⟨rfl, hT, k⟩ := h
    refine ⟨_, 
      (pss_cons (ps_set (i := 0) sc__law_is_great_refused.nd rfl (Or.inl rfl) (pe_call (ok0_plus T) (hr.mono (by decide)) rfl T.m_plus T.F_plus.kp T.b_plus .nil pass0 (pa_cons (pe_call (ok0_power T) (hr.mono (by decide)) rfl T.m_power T.F_power.kp T.b_power .nil pass0 (pa_cons (pe_call (ok0_power T) (hr.mono (by decide)) rfl T.m_power T.F_power.kp T.b_power .nil pass0 (pa_cons (pe_tup (pa_cons (pe_op op_pow pe_int pe_int) pa_nil)) (pa_cons pe_int pa_nil))) (pa_cons pe_int pa_nil))) (pa_cons (pe_tup (pa_cons pe_int (pa_cons pe_int pa_nil))) pa_nil))))
      (pss_cons (ps_set (i := 3) sc__law_is_great_refused.nd rfl (Or.inr rfl) (pe_op op_catA (pe_slice sl_tupA (pv 0) po_none (po_some pe_int)) (pe_tup (pa_cons pe_int pa_nil))))
      (pss_cons (ps_set (i := 1) sc__law_is_great_refused.nd rfl (Or.inl rfl) (pe_tell (T := TL T) (k := 6) (c := T.c__law_is_great_refused) (P := T.tP__law_is_great_refused) T.F__law_refused T.b__law_refused rfl T.m__law_refused sc__law_refused rfl (Or.inl rfl) (fun _ => gives__law_refused T) tb__law_is_great_refused rfl (.tail _ (.tail _ (.tail _ (.head _)))) (hu__law_is_great_refused T) (hr.mono (by decide)) (lamS_by (sc := defScope s__law_is_great_refused) (by decide +kernel)) rfl (fun _ _ _ _ _ => rfl)
        (fun A outer s H E f c' hr => (pe_callS (ok_plus T) (hr.mono (by decide)) rfl T.m_plus T.F_plus.kp T.b_plus (fun σ => passAt (takes_of rfl rfl rfl rfl) σ) (pa_cons (pv 3) (pa_cons (pe_tup pa_nil) pa_nil))))))
      (pss_cons (ps_set (i := 2) sc__law_is_great_refused.nd rfl (Or.inl rfl) (pe_tell (T := TL T) (k := 5) (c := T.c__law_is_great_refused) (P := T.tP__law_is_great_refused) T.F__law_refused T.b__law_refused rfl T.m__law_refused sc__law_refused rfl (Or.inl rfl) (fun _ => gives__law_refused T) tb__law_is_great_refused rfl (.tail _ (.tail _ (.tail _ (.head _)))) (hu__law_is_great_refused T) (hr.mono (by decide)) (lamS_by (sc := defScope s__law_is_great_refused) (by decide +kernel)) rfl (fun _ _ _ _ _ => rfl)
        (fun A outer s H E f c' hr => (pe_callK0S (ok_value T) (hr.mono (by decide)) rfl T.m_value T.F_value.kp T.q_value_integer_one (fun σ => passAt (takes_of rfl rfl rfl rfl) σ) (pk_cons pe_int (pk_cons (pv 3) pk_nil))))))
      (pss_one (ps_ret (pe_and (pe_cmpR (op_eqD hr.units) (pv 1) (pe_tup (pa_cons pe_str (pa_cons (pv 3) pa_nil))) (nomark _)) (pe_one (pe_cmpR (op_eqD hr.units) (pv 2) (pe_tup (pa_cons pe_str (pa_cons (pv 3) pa_nil))) (nomark _)))))))))), ?_⟩
    refine ⟨_, _, rfl, rfl, ⟨by decide, by decide, by decide⟩, line_s (Nat.le_of_ble_eq_true rfl), fun p hp => ?_⟩
    dsimp only
    have s1 := same_upd (o := .tup [.int ((10 : Int) ^ (39 : Int).toNat)]) hp
    have b39 := bits39
    have np : ((10 : Int) ^ (39 : Int).toNat) ≠ 0 := by decide
    have hp1 : (upd H p (.tup [.int ((10 : Int) ^ (39 : Int).toNat)])) p = some (.tup [.int ((10 : Int) ^ (39 : Int).toNat)]) := upd_same
    generalize (10 : Int) ^ (39 : Int).toNat = g at s1 b39 np hp1 ⊢
    have nr : nrm [g] = g.natAbs := by simp [nrm]
    have pg : isPoly [g] = true := by
      have z := poly_snoc [] g
      rw [List.nil_append] at z
      rw [z]
      simpa using np
    refine ⟨20, one_good (args := fun v => [v, .int ((20 : Nat) : Int)]) (ns := [g]) ⟨p, rfl, SqT.of hp1⟩ (Nat.le_of_ble_eq_true rfl) pg ⟨by decide, Nat.le_of_ble_eq_true rfl, Nat.le_of_ble_eq_true rfl, ?_, ?_, fun z l H2 s2 hz r2 => ?_⟩⟩
    · rw [nr]
      exact lt_bits (Nat.lt_of_le_of_lt b39 (Nat.pow_lt_pow_right (by decide) (by decide : 130 < 131))) (by decide)
    · rw [nr]
      have e1 : (g.natAbs + 1) ^ 20 ≤ (2 ^ 131) ^ 20 := Nat.pow_le_pow_left (Nat.lt_of_le_of_lt b39 (Nat.pow_lt_pow_right (by decide) (by decide))) 20
      rw [← Nat.pow_mul] at e1
      exact Nat.lt_of_le_of_lt e1 (Nat.pow_lt_pow_right (by decide) (by decide))
    have n2 : nrm l ≤ 2 ^ 2600 := by
      have e0 := r2.n
      rw [nr] at e0
      have e1 : g.natAbs ^ 20 ≤ (2 ^ 130) ^ 20 := Nat.pow_le_pow_left b39 20
      rw [← Nat.pow_mul] at e1
      exact Nat.le_trans e0 e1
    have l2 : l.length ≤ 21 := r2.z
    refine ⟨20, one_good (args := fun v => [v, .int ((20 : Nat) : Int)]) hz (by omega) r2.p ⟨by decide, by omega, by omega, ?_, ?_, fun z3 l3 H3 s3 hz3 r3 => ?_⟩⟩
    · exact Nat.lt_of_le_of_lt n2 (Nat.pow_lt_pow_right (by decide) (by decide))
    · have e1 : (nrm l + 1) ^ 20 ≤ (2 ^ 2601) ^ 20 := Nat.pow_le_pow_left (Nat.lt_of_le_of_lt n2 (Nat.pow_lt_pow_right (by decide) (by decide))) 20
      rw [← Nat.pow_mul] at e1
      exact Nat.lt_of_le_of_lt e1 (Nat.pow_lt_pow_right (by decide) (by decide))
    have n3 : nrm l3 ≤ 2 ^ 52000 := by
      have e1 : nrm l ^ 20 ≤ (2 ^ 2600) ^ 20 := Nat.pow_le_pow_left n2 20
      rw [← Nat.pow_mul] at e1
      exact Nat.le_trans r3.n e1
    have l3' : l3.length ≤ 421 := Nat.le_trans r3.z (by omega)
    refine ⟨line_s (Nat.le_of_ble_eq_true rfl), fun p4 hp4 => ?_⟩
    have s4 := same_upd (o := .tup [.int 0, .int 1]) hp4
    refine two_good (ms := [0, 1]) (hz3.same s4) ⟨p4, rfl, SqT.of upd_same⟩ (by omega) (by decide) r3.p rfl ⟨by omega, by decide, ?_, ?_, fun z5 l5 H5 s5 hz5 r5 => ?_⟩
    · exact Nat.lt_of_le_of_lt n3 (Nat.pow_lt_pow_right (by decide) (by decide))
    · exact Nat.lt_of_lt_of_le (by decide : nrm [0, 1] < 2 ^ 1) (Nat.pow_le_pow_right (by decide) (by decide))
    have l5' : l5.length ≤ 421 := Nat.le_trans r5.z (by show max l3.length 2 ≤ 421; omega)
    have s05 : Same H H5 := s1.trans (s2.trans (s3.trans (s4.trans s5)))
    have e5 := same_extN s05
    have t5 := hT.ext s05
    clear s05 s5 s4 s3 s2 s1 hp1 hz3 hz r2 r3 hp hp4 n2 n3 r5
    obtain ⟨a, rfl, ha⟩ := hz5
    have rest : ∀ (v : V) (G : Hp) (cs : List Int), Same H5 G → TI K G v cs → cs.length ≤ 421 → ∀ (k' : VK), (∀ z G', Same H5 G' → TI K G' z (cs ++ [0]) → k' z G') → (fun x H1 => (tTup (tCons (tC (.int 0)) tNil) : TE) [some (.ref a), none, none, none] H1 fun y H2 => rCatA K x y H2 k') v G := fun v G cs s hv hl k' go => by
      refine ⟨line_s (Nat.le_of_ble_eq_true rfl), fun p6 hp6 => ?_⟩
      exact cat_rd (ns := cs) (ms := [0]) (hv.same (same_upd hp6)) ⟨p6, rfl, SqT.of upd_same⟩ (by simp; omega) fun z G' s' hz => go z G' (s.trans ((same_upd hp6).trans s')) hz
    have cut : cutV (l5.map V.int) none (some (1 : Int)) = (l5.take 1).map V.int := by
      unfold cutV
      rw [HT.sIx_none, List.drop_zero, List.length_map, List.map_take]
      have e := HT.sIx_nat l5.length l5.length 1
      rw [show ((1 : Nat) : Int) = (1 : Int) from rfl] at e
      rw [e]
      cases l5 with
      | nil => rfl
      | cons c r =>
        rfl
    refine (seq_cutO (fun σ' G => ∃ (z : V) (cs : List Int), σ' = [some (.ref a), none, none, some z] ∧ Same H5 G ∧ TI K G z (cs ++ [0]) ∧ cs.length ≤ 421) (fun D' go => ?_) ?_)
    · refine ⟨_, rfl, _, rfl, a, _, rfl, ha, fun hw => ?_, fun hw p6 hp6 => ?_⟩
      · exact rest (.ref a) H5 l5 (Same.refl _) ⟨a, rfl, ha⟩ l5' _ fun z G' s' hz => go _ _ ⟨z, l5, rfl, s', hz, l5'⟩
      · refine rest (.ref p6) _ (l5.take 1) (same_upd hp6) ⟨p6, rfl, ?_⟩ (by rw [List.length_take]; omega) _ fun z G' s' hz => go _ _ ⟨z, _, rfl, s', hz, by rw [List.length_take]; omega⟩
        rw [← cut]
        exact SqT.of upd_same
    rintro _ G ⟨z, cs, rfl, s6, hz, hcs⟩
    have e6 := e5.trans (same_extN s6)
    have t6 := t5.ext s6
    have ln : (cs ++ [0]).length ≤ 1000 := by rw [List.length_append]; simp; omega
    have nb : polyQ (some ((cs ++ [0]).map some)) = false := by rw [polyQ_ints, poly_snoc]; rfl
    have tz : ∀ {G' : Hp}, ExtN G G' → TI K G' z (cs ++ [0]) := fun {G'} e => by
      obtain ⟨c, rfl, hc⟩ := hz
      exact ⟨c, rfl, SqT.extN e hc⟩
    refine ⟨t6, fun Ha ea Ta => ⟨_, rfl, line_s (Nat.le_of_ble_eq_true rfl), fun p7 hp7 => ?_⟩⟩
    have s7 := same_upd (o := .tup []) hp7
    refine bad_two1 T (ti_lev (tz (ea.trans (same_extN s7))) ln) nb (ti_lev (ns := []) ⟨p7, rfl, SqT.of upd_same⟩ (by decide)) fun pz Hb sb hpz => ?_
    have e8 := ea.trans (same_extN (s7.trans sb))
    have t8 := Ta.ext (s7.trans sb)
    refine ⟨t8, fun Hc ec Tc => ⟨_, rfl, 0, bad_one T (args := fun v => [v, .int 0]) (ti_lev (tz (e8.trans ec)) ln) nb fun py Hd sd hpy => ?_⟩⟩
    have e9 := ec.trans (same_extN sd)
    have hpz9 : SqT K Hd pz [.str "polynomial", z] := SqT.extN e9 hpz
    have tz9 := tz (e8.trans e9)
    refine ⟨_, rfl, _, rfl, line_s (Nat.le_of_ble_eq_true rfl), fun p10 hp10 => ?_⟩
    have s10 := same_upd (o := .tup [.str "polynomial", z]) hp10
    refine eq_pol (tz9.same s10) (sqT_same s10 hpz9) (SqT.of upd_same) ⟨true, rfl, iteT ?_⟩
    refine ⟨_, rfl, _, rfl, line_s (Nat.le_of_ble_eq_true rfl), fun p11 hp11 => ?_⟩
    have s11 := same_upd (o := .tup [.str "polynomial", z]) hp11
    exact eq_pol (tz9.same (s10.trans s11)) (sqT_same (s10.trans s11) hpy) (SqT.of upd_same) (k _)
end
end K24
end
section
set_option maxRecDepth 100000
set_option maxHeartbeats 8000000
set_option exponentiation.threshold 70000
namespace K24
open PySem PySem.Spec PyProof.Rows L2 MB PM
open LamX hiding takes0
theorem seq_cutI {c : TT} {ta tb u : TS} {D : Ends} {σ : L2.St} {H : Hp} (P : L2.St → Hp → Prop) (h1 : ∀ D' : Ends, (∀ σ' H', P σ' H' → D'.nx σ' H') → tIfS c ta tb D' σ H) (h2 : ∀ σ' H', P σ' H' → u D σ' H') : tSeq (tIfS c ta tb) u D σ H := seq_cut P h1 h2
theorem ext_hide {d l : Addr} {H H' : Hp} (e : ExtN H H') : ExtN (hide d l H) (hide d l H') := fun b u q n => by
  have q' : (if b = d ∨ b = l then none else H b) = some u := q
  show (if b = d ∨ b = l then none else H' b) = some u
  split at q'
  · cases q'
  · rename_i nb
    rw [if_neg nb]
    exact e b u q' n
theorem sz_text2 {b k : Nat} {x : Str} (h : Sig x) (hl : x.length ≤ b) : Sz b k (.str x) where
  sh := rfl
  lv := by
    simp only [PyData.leavesShort, List.all_eq_true, decide_eq_true_eq]
    exact h
  bu := hl
  de := Nat.zero_le _
theorem shown_told {dd : PyData} (h : Sz 500 9 dd) : Told (.str dd.shown) := by
  have h1 := PyData.shown_le_bulk 60 (by decide) dd h.lv
  have h2 := h.bu
  exact (sz_text2 (b := 100000) (k := 1) (sig_shown 60 dd h.lv) (by omega)).told
theorem sz_two {d1 d2 : PyData} (h1 : Sz 200 8 d1) (h2 : Sz 200 8 d2) : Sz 500 9 (.tuple [d1, d2]) := sz_tup ((szAll_cons h1 (szAll_cons h2 (szAll_nil (b := 0)))).mono (by decide) (by decide))
section
variable {w : World} {K : PySem.W.Frag} {mg : Str → Option Value} {base : Heap}
theorem ok_law (T : Txt K mg) (sm : SM base) (tb__law_two_right : TabB base mg T.c__law_two_right T.tP__law_two_right) (tb__law_one_right : TabB base mg T.c__law_one_right T.tP__law_one_right)
    (tb__law_are_books_refused : TabB base mg T.c__law_are_books_refused T.tP__law_are_books_refused) (tb__law_is_great_refused : TabB base mg T.c__law_is_great_refused T.tP__law_is_great_refused) : FnG P w K mg base 14 T.a_law T.d_law P_law (spLaw K (TL T)) := by
  refine fnG T.F_law sc_law (fun vs H Q E h => ?_) (fun cdv A outer s H vs Q E hr hgu h => ?_)
  · obtain ⟨a, ns, rfl, _⟩ := h
    rfl
  · obtain ⟨a, ns, rfl, ha, hl, hT, q⟩ := h
    refine ⟨_, 
      (pss_cons (ps_set (i := 1) sc_law.nd rfl (Or.inl rfl) (pe_call (ok__law_deck T) (hr.mono (by decide)) rfl T.m__law_deck T.F__law_deck.kp T.b__law_deck .nil pass0 (pa_cons (pv 0) pa_nil)))
      (pss_cons (ps_for PassesOwn.never rfl (pi_range1 rfl T.m_range (pa_cons pe_int pa_nil)) (pg_name (i := 2) sc_law.nd rfl (Or.inl rfl)) (pss_cons (ps_par (i := 3) (j := 4) (by rfl) sc_law.nd rfl rfl (by decide) rfl rfl (pa_cons (pe_call (ok__law_value T) (hr.mono (by decide)) rfl T.m__law_value T.F__law_value.kp T.b__law_value .nil pass0 (pa_cons (pv 1) pa_nil)) (pa_cons (pe_call (ok__law_value T) (hr.mono (by decide)) rfl T.m__law_value T.F__law_value.kp T.b__law_value .nil pass0 (pa_cons (pv 1) pa_nil)) pa_nil)) (by rfl))
      (pss_cons (ps_if (pt_cmpR op_eq (pe_call (ok__law_draw T) (hr.mono (by decide)) rfl T.m__law_draw T.F__law_draw.kp T.b__law_draw .nil pass0 (pa_cons (pv 1) (pa_cons pe_int pa_nil))) pe_int (nomark _)) (pss_one (ps_set (i := 4) sc_law.nd rfl (Or.inl rfl) (pv 3))) pss_nil)
      (pss_cons (ps_set (i := 5) sc_law.nd rfl (Or.inl rfl) (pe_callB (call_tell sm hgu hr.units) (by rfl) T.m_repr (by decide +kernel) (pa_cons (pe_tup (pa_cons (pv 3) (pa_cons (pv 4) pa_nil))) pa_nil)))
      (pss_cons (ps_if (PW.pt (pw_or (pt_not (pt_val (pe_callG (ok__law_two_right T sm tb__law_two_right) (hr.mono (by decide)) hgu rfl T.m__law_two_right T.F__law_two_right.kp T.b__law_two_right (pa_cons (pv 1) (pa_cons (pv 3) (pa_cons (pv 4) pa_nil)))))) (pw_or1 (pt_not (pt_val (pe_callG (ok__law_one_right T sm tb__law_one_right) (hr.mono (by decide)) hgu rfl T.m__law_one_right T.F__law_one_right.kp T.b__law_one_right (pa_cons (pv 1) (pa_cons (pv 3) pa_nil)))))))) (pss_one (ps_ret pe_bl)) pss_nil)
      (pss_one (ps_if (pt_not (pt_val (pe_callG (ok__law_same T sm) (hr.mono (by decide)) hgu rfl T.m__law_same T.F__law_same.kp T.b__law_same (pa_cons (pe_callB (call_tell sm hgu hr.units) (by rfl) T.m_repr (by decide +kernel) (pa_cons (pe_tup (pa_cons (pv 3) (pa_cons (pv 4) pa_nil))) pa_nil)) (pa_cons (pv 5) pa_nil))))) (pss_one (ps_ret pe_bl)) pss_nil)))))))
      (pss_one (ps_ret (pe_and (pe_callG (ok__law_are_books_refused T sm tb__law_are_books_refused) (hr.mono (by decide)) hgu rfl T.m__law_are_books_refused T.F__law_are_books_refused.kp T.b__law_are_books_refused (pa_cons (pe_make T.mk_Book (ok_Book___init__ T) (hr.mono (by decide)) rfl T.g_Book T.b_Book___init__ .nil pass0 (pa_cons pe_int (pa_cons pe_int (pa_cons (pe_tup (pa_cons (pe_tup (pa_cons pe_int (pa_cons pe_int pa_nil))) pa_nil)) pa_nil)))) pa_nil)) (pe_one (pe_callG0 (ok__law_is_great_refused T sm tb__law_is_great_refused) (hr.mono (by decide)) hgu rfl T.m__law_is_great_refused T.F__law_is_great_refused.kp T.b__law_is_great_refused))))))), ?_⟩
    refine ⟨_, rfl, a, ns, rfl, ha, hl, fun d l H1 s1 D1 => ?_⟩
    have T1 := hT.ext s1
    refine ⟨_, rfl, by decide, by decide, for_range (lo := 0) (n := 8)
      (fun i σ H' => ∃ o2 o3 o4 o5, σ = [some (.ref a), some (.ref d), o2, o3, o4, o5] ∧ Deck kL H' d l ∧ Tabs (TL T) H')
      ⟨none, none, none, none, rfl, D1, T1⟩ ?_ ?_⟩
    · rintro i _ H2 hi ⟨o2, o3, o4, o5, rfl, D2, T2⟩
      refine ⟨_, rfl, d, l, rfl, D2, fun x1 d1 H3 e3 D3 h1 z1 c1 => ?_⟩
      refine ⟨_, rfl, d, l, rfl, D3, fun x2 d2 H4 e4 D4 h2 z2 c2 => ?_⟩
      have T4 := tabs_but D3 e4 (tabs_but D2 e3 T2)
      replace h1 := Dq.same e4.hide _ _ h1
      refine ⟨_, _, rfl, ?_⟩
      dsimp only
      refine (seq_cutI (fun σ' G => ∃ y dy, σ' = [some (.ref a), some (.ref d), some (.int (0 + (i : Int))), some x1, some y, o5] ∧ Deck kL G d l ∧ Tabs (TL T) G ∧ Dq K (hide d l G) x1 d1 ∧ Dq K (hide d l G) y dy ∧ Sz 200 8 dy ∧ Cnt dy) (fun D' go => ?_) ?_)
      · refine ⟨_, rfl, d, l, 6, rfl, by decide, by decide, D4, fun r H5 r0 r1 e5 D5 => ⟨rfl, _, rfl, ?_⟩⟩
        have T5 := tabs_but D4 e5 T4
        have h15 := Dq.same e5.hide _ _ h1
        refine ite2 (fun _ => ?_) (fun _ => ?_)
        · exact ⟨_, rfl, go _ _ ⟨x1, d1, rfl, D5, T5, h15, h15, z1, c1⟩⟩
        · exact go _ _ ⟨x2, d2, rfl, D5, T5, h15, Dq.same e5.hide _ _ h2, z2, c2⟩
      rintro _ H5 ⟨y, dy, rfl, D5, T5, h15, hy, zy, cy⟩
      clear D4 T4 h1 h2 z2 c2 D3 e4 e3 D2 T2
      have sz := sz_two z1 zy
      refine ⟨_, rfl, _, rfl, line_s (Nat.le_of_ble_eq_true rfl), fun p hp => ⟨_, .tuple [d1, dy], rfl, .tup (SqT.of upd_same) (.cons (Dq.same (same_upd hp) _ _ (Dq.same hide_sub _ _ h15)) (.cons (Dq.same (same_upd hp) _ _ (Dq.same hide_sub _ _ hy)) .nil)), sz.told, ?_⟩⟩
      have s6 := same_upd (o := .tup [x1, y]) hp
      have D6 := D5.same s6
      have T6 := T5.ext s6
      replace h15 := Dq.same (same_hide s6) _ _ h15
      replace hy := Dq.same (same_hide s6) _ _ hy
      generalize upd H5 p (.tup [x1, y]) = H6 at D6 T6 h15 hy ⊢
      have b1 := polyB z1 c1
      have b2 := polyB zy cy
      refine ⟨_, rfl, _, rfl, _, rfl, .ref d, x1, y, d1, dy, rfl, Dq.same hide_sub _ _ h15, Dq.same hide_sub _ _ hy, z1, zy, b1, b2, T6, fun H7 e7 T7 => ⟨true, rfl, iteF ?_⟩⟩
      have D7 := D6.extN e7
      have h17 := Dq.extN (ext_hide e7) h15
      have hy7 := Dq.extN (ext_hide e7) hy
      refine ⟨_, rfl, _, rfl, d, l, x1, d1, rfl, D7, h17, z1, b1, T7, fun H8 H9 b8 D8 e9 T9 => ⟨true, rfl, iteF ?_⟩⟩
      have D9 := D8.extN e9
      have h19 := Dq.extN (ext_hide e9) (Dq.same b8.hide _ _ h17)
      have hy9 := Dq.extN (ext_hide e9) (Dq.same b8.hide _ _ hy7)
      refine ⟨_, rfl, _, rfl, line_s (Nat.le_of_ble_eq_true rfl), fun p2 hp2 => ⟨_, .tuple [d1, dy], rfl, .tup (SqT.of upd_same) (.cons (Dq.same (same_upd hp2) _ _ (Dq.same hide_sub _ _ h19)) (.cons (Dq.same (same_upd hp2) _ _ (Dq.same hide_sub _ _ hy9)) .nil)), sz.told, _, rfl, _, _, _, rfl, .str _, .str _, shown_told sz, true, rfl, iteF ?_⟩⟩
      exact ⟨_, _, _, _, rfl, D9.same (same_upd hp2), T9.ext (same_upd hp2)⟩
    · rintro _ H15 ⟨o2, o3, o4, o5, rfl, D2, T2⟩
      have z1 : (1 : Nat) ≤ sizeLine := by rw [sizeLine_eq]; decide
      refine ⟨line_s (Nat.le_of_ble_eq_true rfl), fun p7 hp7 => ⟨z1, fun p8 hp8 => fun b dx hb hdx hne => ?_⟩⟩
      have u7 := same_upd (o := .tup [.int 1, .int 1]) hp7
      have v1 := same_upd (o := .tup [.ref p7]) hp8
      have T16 := T2.ext (u7.trans v1)
      generalize hH16 : upd (upd H15 p7 (.tup [.int 1, .int 1])) p8 (.tup [.ref p7]) = H16 at hb hdx v1 T16
      have hp7' : SqT K H16 p7 [.int 1, .int 1] := sqT_same v1 (SqT.of upd_same)
      have hp8' : SqT K H16 p8 [.ref p7] := by
        rw [← hH16]
        exact SqT.of upd_same
      have hb2 : (upd H16 dx (.own b)) b = none := by rw [upd_ne hne.symm]; exact hb
      refine ⟨H16, b, dx, 2, 2, .ref p8, [[1, 1]], rfl, (same_upd hdx).trans (same_upd hb2), hb, upd_same, ⟨by decide, by decide⟩, ⟨by decide, by decide⟩, ⟨p8, _, rfl, hp8', .cons ⟨p7, rfl, hp7'⟩ .nil⟩, ?_, by decide, fun H17 s17 hbk => ⟨rfl, ?_⟩⟩
      · intro r hr
        rw [List.mem_singleton.mp hr]
        refine ⟨fun c hc => ?_, rfl⟩
        simp only [List.mem_cons, List.not_mem_nil, or_false] at hc
        rcases hc with rfl | rfl <;> exact ⟨by decide, by decide⟩
      have gl : (gauss 2 2 [[1, 1]]).length ≤ 20 := by decide
      generalize gauss 2 2 [[1, 1]] = Rs at hbk gl
      refine ⟨b, rfl, ⟨2, 2, Rs, hbk, gl⟩, T16.ext s17, fun H18 e18 T18 => ⟨true, rfl, iteT ?_⟩⟩
      exact ⟨rfl, T18, fun H19 => q H19⟩
end
end K24
end
section
set_option maxRecDepth 100000
set_option maxHeartbeats 4000000
namespace K24
open PySem PySem.Spec PyProof.Rows L2 MB
open LamX hiding takes0
theorem tabIn_of {K : PySem.W.Frag} {x : Str} {f c Pt : Addr} {oc cc : Value} {od cd : Option Addr} {fd : FuncData} {sl cs : Array (Option Value)} {vs : Array Value} (a : PySem.W.nsIn K mainGlobals x = some (some (.ref f)))
    (l : K.lookup f = some ⟨oc, od, .func fd, sl⟩) (hc : fd.code = .ref c) (lc : K.lookup c = some ⟨cc, cd, .fields vs, cs⟩) (hv : (vs[11]? : Option Value) = some (.ref Pt)) : PySem.W.tabIn K x = some (c, Pt) := by
  unfold PySem.W.tabIn
  rw [a]
  dsimp only
  rw [l]
  dsimp only
  rw [hc]
  dsimp only
  rw [lc]
  dsimp only
  rw [hv]
theorem kit_sub {K : PySem.W.Frag} {C : Addr} {T : String} {r : Bool} (m : PySem.W.kitMeta T = true) (h : PySem.W.subIn K (.ref C) (.type T) = some r) : PySem.W.kitOne K (.ref C) (.type T) = some r := by
  unfold PySem.W.kitOne
  rw [if_neg (by intro z; cases (eq_of_beq z))]
  show (if PySem.W.kitMeta T = true then PySem.W.subIn K (.ref C) (.type T) else none) = some r
  rw [if_pos m]
  exact h
theorem kit_clsR {K : PySem.W.Frag} {C D : Addr} {r : Bool} (c : PySem.W.isClsIn K D = true) (ty : PySem.W.typeIn K (.ref D) = some (.type "type")) (s : PySem.W.subIn K (.ref C) (.ref D) = some r) : PySem.W.kitCls K (.ref C) (.ref D) = some r := by
  have c' : (PySem.W.clsIn K D).isSome = true := c
  have e2 : ((PySem.W.clsIn K D).isSome && PySem.W.typeIn K (.ref D) == some (.type "type")) = true := by
    rw [c', ty] <;> rfl
  show (if ((PySem.W.clsIn K D).isSome && PySem.W.typeIn K (.ref D) == some (.type "type")) = true then PySem.W.subIn K (.ref C) (.ref D) else none) = some r
  rw [if_pos e2]
  exact s
theorem kit_refT {K : PySem.W.Frag} {C D : Addr} (c : PySem.W.isClsIn K D = true) (ty : PySem.W.typeIn K (.ref D) = some (.type "type")) (s : PySem.W.subIn K (.ref C) (.ref D) = some true) : PySem.W.kitOne K (.ref C) (.ref D) = some true := by
  show (if (Value.ref C == Value.ref D) = true then some true else _) = some true
  split
  · rfl
  · exact kit_clsR c ty s
theorem kit_refF {K : PySem.W.Frag} {C D : Addr} (n : C ≠ D) (c : PySem.W.isClsIn K D = true) (ty : PySem.W.typeIn K (.ref D) = some (.type "type")) (s : PySem.W.subIn K (.ref C) (.ref D) = some false) : PySem.W.kitOne K (.ref C) (.ref D) = some false := by
  show (if (Value.ref C == Value.ref D) = true then some true else _) = some false
  rw [if_neg (fun z => n (Value.ref.inj (eq_of_beq z)))]
  exact kit_clsR c ty s
theorem four_mk {K : PySem.W.Frag} {t r0 r1 r2 r3 : Addr} {d d0 d1 d2 d3 : Option Addr} {n n0 n1 n2 n3 : Nat} {sl sl0 sl1 sl2 sl3 : Array (Option Value)}
    {a0 a1 a2 a3 b0 b1 b2 b3 c0 c1 c2 c3 e0 e1 e2 e3 : Tok}
    (lt : K.lookup t = some ⟨.type "tuple", d, .seq #[.ref r0, .ref r1, .ref r2, .ref r3] n, sl⟩)
    (l0 : K.lookup r0 = some ⟨.type "tuple", d0, .seq #[.int 0 a0, .int 0 a1, .int 0 a2, .int 0 a3] n0, sl0⟩)
    (l1 : K.lookup r1 = some ⟨.type "tuple", d1, .seq #[.int 0 b0, .int 1 b1, .int 2 b2, .int 3 b3] n1, sl1⟩)
    (l2 : K.lookup r2 = some ⟨.type "tuple", d2, .seq #[.int 0 c0, .int 2 c1, .int 3 c2, .int 1 c3] n2, sl2⟩)
    (l3 : K.lookup r3 = some ⟨.type "tuple", d3, .seq #[.int 0 e0, .int 3 e1, .int 1 e2, .int 2 e3] n3, sl3⟩) : FourTab K t := by
  refine ⟨[r0, r1, r2, r3], rfl, fun H => .inr ⟨_, _, _, lt, rfl, rfl, by rw [sizeLine_eq]; exact (by decide : 4 ≤ 16777216), .cons rfl (.cons rfl (.cons rfl (.cons rfl .nil)))⟩, fun i r H e => ?_⟩
  have z : (4 : Nat) ≤ sizeLine := by rw [sizeLine_eq]; decide
  match i, e with
  | 0, e =>
    cases e
    exact .inr ⟨_, _, _, l0, rfl, rfl, z, .cons ⟨_, rfl⟩ (.cons ⟨_, rfl⟩ (.cons ⟨_, rfl⟩ (.cons ⟨_, rfl⟩ .nil)))⟩
  | 1, e =>
    cases e
    exact .inr ⟨_, _, _, l1, rfl, rfl, z, .cons ⟨_, rfl⟩ (.cons ⟨_, rfl⟩ (.cons ⟨_, rfl⟩ (.cons ⟨_, rfl⟩ .nil)))⟩
  | 2, e =>
    cases e
    exact .inr ⟨_, _, _, l2, rfl, rfl, z, .cons ⟨_, rfl⟩ (.cons ⟨_, rfl⟩ (.cons ⟨_, rfl⟩ (.cons ⟨_, rfl⟩ .nil)))⟩
  | 3, e =>
    cases e
    exact .inr ⟨_, _, _, l3, rfl, rfl, z, .cons ⟨_, rfl⟩ (.cons ⟨_, rfl⟩ (.cons ⟨_, rfl⟩ (.cons ⟨_, rfl⟩ .nil)))⟩
theorem all_mk {w : World} {K : PySem.W.Frag} {h : Heap} {mg : Str → Option Value} {fa : Addr} (X : K.In h) (G : h.Ns mainGlobals mg) (hfa : mg "law" = some (.ref fa))
    {q : Program} (tq : ∀ (x : Str) (r : DefRec) (c P : Addr), (recsOf q).find? (fun e => e.name == x) = some r → PySem.W.tabIn K x = some (c, P) → PySem.W.CodeHd h c P ∧ h.get? P = some (PySem.W.tabObj #[])) (nK : PySem.W.noTabs K = true)
    {f0 : Addr} {od0 an0 : Option Addr} {sl0 : Array (Option Value)} {oc0 kV0 dc0 pm0 cd0 ct0 : Value}
    {f1 : Addr} {od1 an1 : Option Addr} {sl1 : Array (Option Value)} {oc1 kV1 dc1 pm1 cd1 ct1 : Value}
    {f2 : Addr} {od2 an2 : Option Addr} {sl2 : Array (Option Value)} {oc2 kV2 dc2 pm2 cd2 ct2 : Value}
    {f3 : Addr} {od3 an3 : Option Addr} {sl3 : Array (Option Value)} {oc3 kV3 dc3 pm3 cd3 ct3 : Value}
    {f4 : Addr} {od4 an4 : Option Addr} {sl4 : Array (Option Value)} {oc4 kV4 dc4 pm4 cd4 ct4 : Value}
    {f5 : Addr} {od5 an5 : Option Addr} {sl5 : Array (Option Value)} {oc5 kV5 dc5 pm5 cd5 ct5 : Value}
    {f6 : Addr} {od6 an6 : Option Addr} {sl6 : Array (Option Value)} {oc6 kV6 dc6 pm6 cd6 ct6 : Value}
    {f7 : Addr} {od7 an7 : Option Addr} {sl7 : Array (Option Value)} {oc7 kV7 dc7 pm7 cd7 ct7 : Value}
    {f8 : Addr} {od8 an8 : Option Addr} {sl8 : Array (Option Value)} {oc8 kV8 dc8 pm8 cd8 ct8 : Value}
    {f9 : Addr} {od9 an9 : Option Addr} {sl9 : Array (Option Value)} {oc9 kV9 dc9 pm9 cd9 ct9 : Value}
    {f10 : Addr} {od10 an10 : Option Addr} {sl10 : Array (Option Value)} {oc10 kV10 dc10 pm10 cd10 ct10 : Value}
    {f11 : Addr} {od11 an11 : Option Addr} {sl11 : Array (Option Value)} {oc11 kV11 dc11 pm11 cd11 ct11 : Value}
    {f12 : Addr} {od12 an12 : Option Addr} {sl12 : Array (Option Value)} {oc12 kV12 dc12 pm12 cd12 ct12 : Value}
    {f13 : Addr} {od13 an13 : Option Addr} {sl13 : Array (Option Value)} {oc13 kV13 dc13 pm13 cd13 ct13 : Value}
    {f14 : Addr} {od14 an14 : Option Addr} {sl14 : Array (Option Value)} {oc14 kV14 dc14 pm14 cd14 ct14 : Value}
    {f15 : Addr} {od15 an15 : Option Addr} {sl15 : Array (Option Value)} {oc15 kV15 dc15 pm15 cd15 ct15 : Value}
    {f16 : Addr} {od16 an16 : Option Addr} {sl16 : Array (Option Value)} {oc16 kV16 dc16 pm16 cd16 ct16 : Value}
    {f17 : Addr} {od17 an17 : Option Addr} {sl17 : Array (Option Value)} {oc17 kV17 dc17 pm17 cd17 ct17 : Value}
    {f18 : Addr} {od18 an18 : Option Addr} {sl18 : Array (Option Value)} {oc18 kV18 dc18 pm18 cd18 ct18 : Value}
    {f19 : Addr} {od19 an19 : Option Addr} {sl19 : Array (Option Value)} {oc19 kV19 dc19 pm19 cd19 ct19 : Value}
    {f20 : Addr} {od20 an20 : Option Addr} {sl20 : Array (Option Value)} {oc20 kV20 dc20 pm20 cd20 ct20 : Value}
    {f21 : Addr} {od21 an21 : Option Addr} {sl21 : Array (Option Value)} {oc21 kV21 dc21 pm21 cd21 ct21 : Value}
    {f22 : Addr} {od22 an22 : Option Addr} {sl22 : Array (Option Value)} {oc22 kV22 dc22 pm22 cd22 ct22 : Value}
    {f23 : Addr} {od23 an23 : Option Addr} {sl23 : Array (Option Value)} {oc23 kV23 dc23 pm23 cd23 ct23 : Value}
    {f24 : Addr} {od24 an24 : Option Addr} {sl24 : Array (Option Value)} {oc24 kV24 dc24 pm24 cd24 ct24 : Value}
    {f25 : Addr} {od25 an25 : Option Addr} {sl25 : Array (Option Value)} {oc25 kV25 dc25 pm25 cd25 ct25 : Value}
    {f26 : Addr} {od26 an26 : Option Addr} {sl26 : Array (Option Value)} {oc26 kV26 dc26 pm26 cd26 ct26 : Value}
    {f27 : Addr} {od27 an27 : Option Addr} {sl27 : Array (Option Value)} {oc27 kV27 dc27 pm27 cd27 ct27 : Value}
    {f28 : Addr} {od28 an28 : Option Addr} {sl28 : Array (Option Value)} {oc28 kV28 dc28 pm28 cd28 ct28 : Value}
    {f29 : Addr} {od29 an29 : Option Addr} {sl29 : Array (Option Value)} {oc29 kV29 dc29 pm29 cd29 ct29 : Value}
    {f30 : Addr} {od30 an30 : Option Addr} {sl30 : Array (Option Value)} {oc30 kV30 dc30 pm30 cd30 ct30 : Value}
    {f31 : Addr} {od31 an31 : Option Addr} {sl31 : Array (Option Value)} {oc31 kV31 dc31 pm31 cd31 ct31 : Value}
    {f32 : Addr} {od32 an32 : Option Addr} {sl32 : Array (Option Value)} {oc32 kV32 dc32 pm32 cd32 ct32 : Value}
    {f33 : Addr} {od33 an33 : Option Addr} {sl33 : Array (Option Value)} {oc33 kV33 dc33 pm33 cd33 ct33 : Value}
    {f34 : Addr} {od34 an34 : Option Addr} {sl34 : Array (Option Value)} {oc34 kV34 dc34 pm34 cd34 ct34 : Value}
    {f35 : Addr} {od35 an35 : Option Addr} {sl35 : Array (Option Value)} {oc35 kV35 dc35 pm35 cd35 ct35 : Value}
    {f36 : Addr} {od36 an36 : Option Addr} {sl36 : Array (Option Value)} {oc36 kV36 dc36 pm36 cd36 ct36 : Value}
    {f37 : Addr} {od37 an37 : Option Addr} {sl37 : Array (Option Value)} {oc37 kV37 dc37 pm37 cd37 ct37 : Value}
    {f38 : Addr} {od38 an38 : Option Addr} {sl38 : Array (Option Value)} {oc38 kV38 dc38 pm38 cd38 ct38 : Value}
    {f39 : Addr} {od39 an39 : Option Addr} {sl39 : Array (Option Value)} {oc39 kV39 dc39 pm39 cd39 ct39 : Value}
    {f40 : Addr} {od40 an40 : Option Addr} {sl40 : Array (Option Value)} {oc40 kV40 dc40 pm40 cd40 ct40 : Value}
    {f41 : Addr} {od41 an41 : Option Addr} {sl41 : Array (Option Value)} {oc41 kV41 dc41 pm41 cd41 ct41 : Value}
    {f42 : Addr} {od42 an42 : Option Addr} {sl42 : Array (Option Value)} {oc42 kV42 dc42 pm42 cd42 ct42 : Value}
    {f43 : Addr} {od43 an43 : Option Addr} {sl43 : Array (Option Value)} {oc43 kV43 dc43 pm43 cd43 ct43 : Value}
    {f44 : Addr} {od44 an44 : Option Addr} {sl44 : Array (Option Value)} {oc44 kV44 dc44 pm44 cd44 ct44 : Value}
    {f45 : Addr} {od45 an45 : Option Addr} {sl45 : Array (Option Value)} {oc45 kV45 dc45 pm45 ct45 : Value}
    {f46 : Addr} {od46 an46 : Option Addr} {sl46 : Array (Option Value)} {oc46 kV46 dc46 pm46 ct46 : Value}
    {f47 : Addr} {od47 an47 : Option Addr} {sl47 : Array (Option Value)} {oc47 kV47 dc47 pm47 ct47 : Value}
    {f48 : Addr} {od48 an48 : Option Addr} {sl48 : Array (Option Value)} {oc48 kV48 dc48 pm48 ct48 : Value}
    {f49 : Addr} {od49 an49 : Option Addr} {sl49 : Array (Option Value)} {oc49 kV49 dc49 pm49 cd49 ct49 : Value}
    {c__law_two_right tP__law_two_right : Addr}
    {c__law_one_right tP__law_one_right : Addr}
    {c__law_are_books_refused tP__law_are_books_refused : Addr}
    {c__law_is_great_refused tP__law_is_great_refused : Addr}
    {B0 : Addr} (gB : PySem.W.nsIn K mainGlobals "BookError" = some (some (.ref B0)))
    {C_BadPolynomial I_BadPolynomial : Addr} (e_BadPolynomial : Er.Txt P K mg B0 C_BadPolynomial I_BadPolynomial "BadPolynomial" "thing")
    {C_Book : Addr} (aC_Book : PySem.W.nsIn K mainGlobals "Book" = some (some (.ref C_Book)))
    (a0 : PySem.W.nsIn K mainGlobals "is_integer" = some (some (.ref f0))) (l0 : K.lookup f0 = some ⟨oc0, od0, .func (PySem.W.fnOf "is_integer" "is_integer" (defArgs s_is_integer) (defBody s_is_integer) (defScope s_is_integer) .none kV0 dc0 pm0 an0 cd0 ct0), sl0⟩) (c0 : PySem.W.codeIn K cd0 "is_integer" = true) (k0 : PySem.W.keepIn K (.ref f0) = true)
    (a1 : PySem.W.nsIn K mainGlobals "is_integer_from" = some (some (.ref f1))) (l1 : K.lookup f1 = some ⟨oc1, od1, .func (PySem.W.fnOf "is_integer_from" "is_integer_from" (defArgs s_is_integer_from) (defBody s_is_integer_from) (defScope s_is_integer_from) .none kV1 dc1 pm1 an1 cd1 ct1), sl1⟩) (c1 : PySem.W.codeIn K cd1 "is_integer_from" = true) (k1 : PySem.W.keepIn K (.ref f1) = true)
    (a2 : PySem.W.nsIn K mainGlobals "are_integers" = some (some (.ref f2))) (l2 : K.lookup f2 = some ⟨oc2, od2, .func (PySem.W.fnOf "are_integers" "are_integers" (defArgs s_are_integers) (defBody s_are_integers) (defScope s_are_integers) .none kV2 dc2 pm2 an2 cd2 ct2), sl2⟩) (c2 : PySem.W.codeIn K cd2 "are_integers" = true) (k2 : PySem.W.keepIn K (.ref f2) = true)
    (a3 : PySem.W.nsIn K mainGlobals "are_integers_from" = some (some (.ref f3))) (l3 : K.lookup f3 = some ⟨oc3, od3, .func (PySem.W.fnOf "are_integers_from" "are_integers_from" (defArgs s_are_integers_from) (defBody s_are_integers_from) (defScope s_are_integers_from) .none kV3 dc3 pm3 an3 cd3 ct3), sl3⟩) (c3 : PySem.W.codeIn K cd3 "are_integers_from" = true) (k3 : PySem.W.keepIn K (.ref f3) = true)
    (a4 : PySem.W.nsIn K mainGlobals "are_letters" = some (some (.ref f4))) (l4 : K.lookup f4 = some ⟨oc4, od4, .func (PySem.W.fnOf "are_letters" "are_letters" (defArgs s_are_letters) (defBody s_are_letters) (defScope s_are_letters) .none kV4 dc4 pm4 an4 cd4 ct4), sl4⟩) (c4 : PySem.W.codeIn K cd4 "are_letters" = true) (k4 : PySem.W.keepIn K (.ref f4) = true)
    (a5 : PySem.W.nsIn K mainGlobals "is_row" = some (some (.ref f5))) (l5 : K.lookup f5 = some ⟨oc5, od5, .func (PySem.W.fnOf "is_row" "is_row" (defArgs s_is_row) (defBody s_is_row) (defScope s_is_row) .none kV5 dc5 pm5 an5 cd5 ct5), sl5⟩) (c5 : PySem.W.codeIn K cd5 "is_row" = true) (k5 : PySem.W.keepIn K (.ref f5) = true)
    (a6 : PySem.W.nsIn K mainGlobals "lowest_terms" = some (some (.ref f6))) (l6 : K.lookup f6 = some ⟨oc6, od6, .func (PySem.W.fnOf "lowest_terms" "lowest_terms" (defArgs s_lowest_terms) (defBody s_lowest_terms) (defScope s_lowest_terms) .none kV6 dc6 pm6 an6 cd6 ct6), sl6⟩) (c6 : PySem.W.codeIn K cd6 "lowest_terms" = true) (k6 : PySem.W.keepIn K (.ref f6) = true)
    (a7 : PySem.W.nsIn K mainGlobals "is_polynomial" = some (some (.ref f7))) (l7 : K.lookup f7 = some ⟨oc7, od7, .func (PySem.W.fnOf "is_polynomial" "is_polynomial" (defArgs s_is_polynomial) (defBody s_is_polynomial) (defScope s_is_polynomial) .none kV7 dc7 pm7 an7 cd7 ct7), sl7⟩) (c7 : PySem.W.codeIn K cd7 "is_polynomial" = true) (k7 : PySem.W.keepIn K (.ref f7) = true)
    (a8 : PySem.W.nsIn K mainGlobals "check_polynomial" = some (some (.ref f8))) (l8 : K.lookup f8 = some ⟨oc8, od8, .func (PySem.W.fnOf "check_polynomial" "check_polynomial" (defArgs s_check_polynomial) (defBody s_check_polynomial) (defScope s_check_polynomial) .none kV8 dc8 pm8 an8 cd8 ct8), sl8⟩) (c8 : PySem.W.codeIn K cd8 "check_polynomial" = true) (k8 : PySem.W.keepIn K (.ref f8) = true)
    (a9 : PySem.W.nsIn K mainGlobals "check_two_polynomials" = some (some (.ref f9))) (l9 : K.lookup f9 = some ⟨oc9, od9, .func (PySem.W.fnOf "check_two_polynomials" "check_two_polynomials" (defArgs s_check_two_polynomials) (defBody s_check_two_polynomials) (defScope s_check_two_polynomials) .none kV9 dc9 pm9 an9 cd9 ct9), sl9⟩) (c9 : PySem.W.codeIn K cd9 "check_two_polynomials" = true) (k9 : PySem.W.keepIn K (.ref f9) = true)
    (a10 : PySem.W.nsIn K mainGlobals "trimmed" = some (some (.ref f10))) (l10 : K.lookup f10 = some ⟨oc10, od10, .func (PySem.W.fnOf "trimmed" "trimmed" (defArgs s_trimmed) (defBody s_trimmed) (defScope s_trimmed) .none kV10 dc10 pm10 an10 cd10 ct10), sl10⟩) (c10 : PySem.W.codeIn K cd10 "trimmed" = true) (k10 : PySem.W.keepIn K (.ref f10) = true)
    (a11 : PySem.W.nsIn K mainGlobals "plus" = some (some (.ref f11))) (l11 : K.lookup f11 = some ⟨oc11, od11, .func (PySem.W.fnOf "plus" "plus" (defArgs s_plus) (defBody s_plus) (defScope s_plus) .none kV11 dc11 pm11 an11 cd11 ct11), sl11⟩) (c11 : PySem.W.codeIn K cd11 "plus" = true) (k11 : PySem.W.keepIn K (.ref f11) = true)
    (a12 : PySem.W.nsIn K mainGlobals "minus" = some (some (.ref f12))) (l12 : K.lookup f12 = some ⟨oc12, od12, .func (PySem.W.fnOf "minus" "minus" (defArgs s_minus) (defBody s_minus) (defScope s_minus) .none kV12 dc12 pm12 an12 cd12 ct12), sl12⟩) (c12 : PySem.W.codeIn K cd12 "minus" = true) (k12 : PySem.W.keepIn K (.ref f12) = true)
    (a13 : PySem.W.nsIn K mainGlobals "times" = some (some (.ref f13))) (l13 : K.lookup f13 = some ⟨oc13, od13, .func (PySem.W.fnOf "times" "times" (defArgs s_times) (defBody s_times) (defScope s_times) .none kV13 dc13 pm13 an13 cd13 ct13), sl13⟩) (c13 : PySem.W.codeIn K cd13 "times" = true) (k13 : PySem.W.keepIn K (.ref f13) = true)
    (a14 : PySem.W.nsIn K mainGlobals "scaled" = some (some (.ref f14))) (l14 : K.lookup f14 = some ⟨oc14, od14, .func (PySem.W.fnOf "scaled" "scaled" (defArgs s_scaled) (defBody s_scaled) (defScope s_scaled) .none kV14 dc14 pm14 an14 cd14 ct14), sl14⟩) (c14 : PySem.W.codeIn K cd14 "scaled" = true) (k14 : PySem.W.keepIn K (.ref f14) = true)
    (a15 : PySem.W.nsIn K mainGlobals "power" = some (some (.ref f15))) (l15 : K.lookup f15 = some ⟨oc15, od15, .func (PySem.W.fnOf "power" "power" (defArgs s_power) (defBody s_power) (defScope s_power) .none kV15 dc15 pm15 an15 cd15 ct15), sl15⟩) (c15 : PySem.W.codeIn K cd15 "power" = true) (k15 : PySem.W.keepIn K (.ref f15) = true)
    (a16 : PySem.W.nsIn K mainGlobals "value" = some (some (.ref f16))) (l16 : K.lookup f16 = some ⟨oc16, od16, .func (PySem.W.fnOf "value" "value" (defArgs s_value) (defBody s_value) (defScope s_value) .none kV16 dc16 pm16 an16 cd16 ct16), sl16⟩) (c16 : PySem.W.codeIn K cd16 "value" = true) (k16 : PySem.W.keepIn K (.ref f16) = true)
    (a17 : PySem.W.nsIn K mainGlobals "value_at" = some (some (.ref f17))) (l17 : K.lookup f17 = some ⟨oc17, od17, .func (PySem.W.fnOf "value_at" "value_at" (defArgs s_value_at) (defBody s_value_at) (defScope s_value_at) .none kV17 dc17 pm17 an17 cd17 ct17), sl17⟩) (c17 : PySem.W.codeIn K cd17 "value_at" = true) (k17 : PySem.W.keepIn K (.ref f17) = true)
    (a18 : PySem.W.nsIn K mainGlobals "letter_sum" = some (some (.ref f18))) (l18 : K.lookup f18 = some ⟨oc18, od18, .func (PySem.W.fnOf "letter_sum" "letter_sum" (defArgs s_letter_sum) (defBody s_letter_sum) (defScope s_letter_sum) .none kV18 dc18 pm18 an18 cd18 ct18), sl18⟩) (c18 : PySem.W.codeIn K cd18 "letter_sum" = true) (k18 : PySem.W.keepIn K (.ref f18) = true)
    (a19 : PySem.W.nsIn K mainGlobals "letter_negative" = some (some (.ref f19))) (l19 : K.lookup f19 = some ⟨oc19, od19, .func (PySem.W.fnOf "letter_negative" "letter_negative" (defArgs s_letter_negative) (defBody s_letter_negative) (defScope s_letter_negative) .none kV19 dc19 pm19 an19 cd19 ct19), sl19⟩) (c19 : PySem.W.codeIn K cd19 "letter_negative" = true) (k19 : PySem.W.keepIn K (.ref f19) = true)
    (a20 : PySem.W.nsIn K mainGlobals "letter_times" = some (some (.ref f20))) (l20 : K.lookup f20 = some ⟨oc20, od20, .func (PySem.W.fnOf "letter_times" "letter_times" (defArgs s_letter_times) (defBody s_letter_times) (defScope s_letter_times) .none kV20 dc20 pm20 an20 cd20 ct20), sl20⟩) (c20 : PySem.W.codeIn K cd20 "letter_times" = true) (k20 : PySem.W.keepIn K (.ref f20) = true)
    (a21 : PySem.W.nsIn K mainGlobals "letter_inverse" = some (some (.ref f21))) (l21 : K.lookup f21 = some ⟨oc21, od21, .func (PySem.W.fnOf "letter_inverse" "letter_inverse" (defArgs s_letter_inverse) (defBody s_letter_inverse) (defScope s_letter_inverse) .none kV21 dc21 pm21 an21 cd21 ct21), sl21⟩) (c21 : PySem.W.codeIn K cd21 "letter_inverse" = true) (k21 : PySem.W.keepIn K (.ref f21) = true)
    (a22 : PySem.W.nsIn K mainGlobals "row_sum" = some (some (.ref f22))) (l22 : K.lookup f22 = some ⟨oc22, od22, .func (PySem.W.fnOf "row_sum" "row_sum" (defArgs s_row_sum) (defBody s_row_sum) (defScope s_row_sum) .none kV22 dc22 pm22 an22 cd22 ct22), sl22⟩) (c22 : PySem.W.codeIn K cd22 "row_sum" = true) (k22 : PySem.W.keepIn K (.ref f22) = true)
    (a23 : PySem.W.nsIn K mainGlobals "row_times" = some (some (.ref f23))) (l23 : K.lookup f23 = some ⟨oc23, od23, .func (PySem.W.fnOf "row_times" "row_times" (defArgs s_row_times) (defBody s_row_times) (defScope s_row_times) .none kV23 dc23 pm23 an23 cd23 ct23), sl23⟩) (c23 : PySem.W.codeIn K cd23 "row_times" = true) (k23 : PySem.W.keepIn K (.ref f23) = true)
    (a24 : PySem.W.nsIn K mainGlobals "row_support" = some (some (.ref f24))) (l24 : K.lookup f24 = some ⟨oc24, od24, .func (PySem.W.fnOf "row_support" "row_support" (defArgs s_row_support) (defBody s_row_support) (defScope s_row_support) .none kV24 dc24 pm24 an24 cd24 ct24), sl24⟩) (c24 : PySem.W.codeIn K cd24 "row_support" = true) (k24 : PySem.W.keepIn K (.ref f24) = true)
    (a25 : PySem.W.nsIn K mainGlobals "check_field" = some (some (.ref f25))) (l25 : K.lookup f25 = some ⟨oc25, od25, .func (PySem.W.fnOf "check_field" "check_field" (defArgs s_check_field) (defBody s_check_field) (defScope s_check_field) .none kV25 dc25 pm25 an25 cd25 ct25), sl25⟩) (c25 : PySem.W.codeIn K cd25 "check_field" = true) (k25 : PySem.W.keepIn K (.ref f25) = true)
    (a26 : PySem.W.nsIn K mainGlobals "lead_of" = some (some (.ref f26))) (l26 : K.lookup f26 = some ⟨oc26, od26, .func (PySem.W.fnOf "lead_of" "lead_of" (defArgs s_lead_of) (defBody s_lead_of) (defScope s_lead_of) .none kV26 dc26 pm26 an26 cd26 ct26), sl26⟩) (c26 : PySem.W.codeIn K cd26 "lead_of" = true) (k26 : PySem.W.keepIn K (.ref f26) = true)
    (a27 : PySem.W.nsIn K mainGlobals "with_zero_at" = some (some (.ref f27))) (l27 : K.lookup f27 = some ⟨oc27, od27, .func (PySem.W.fnOf "with_zero_at" "with_zero_at" (defArgs s_with_zero_at) (defBody s_with_zero_at) (defScope s_with_zero_at) .none kV27 dc27 pm27 an27 cd27 ct27), sl27⟩) (c27 : PySem.W.codeIn K cd27 "with_zero_at" = true) (k27 : PySem.W.keepIn K (.ref f27) = true)
    (a28 : PySem.W.nsIn K mainGlobals "reduced_rows" = some (some (.ref f28))) (l28 : K.lookup f28 = some ⟨oc28, od28, .func (PySem.W.fnOf "reduced_rows" "reduced_rows" (defArgs s_reduced_rows) (defBody s_reduced_rows) (defScope s_reduced_rows) .none kV28 dc28 pm28 an28 cd28 ct28), sl28⟩) (c28 : PySem.W.codeIn K cd28 "reduced_rows" = true) (k28 : PySem.W.keepIn K (.ref f28) = true)
    (a29 : PySem.W.findIn K (.ref C_Book) "__init__" = some (some (.ref f29))) (l29 : K.lookup f29 = some ⟨oc29, od29, .func (PySem.W.fnOf "__init__" "Book.__init__" (defArgs s_Book___init__) (defBody s_Book___init__) (defScope s_Book___init__) .none kV29 dc29 pm29 an29 cd29 ct29), sl29⟩) (c29 : PySem.W.codeIn K cd29 "Book.__init__" = true) (k29 : PySem.W.keepIn K (.ref f29) = true)
    (a30 : PySem.W.findIn K (.ref C_Book) "__eq__" = some (some (.ref f30))) (l30 : K.lookup f30 = some ⟨oc30, od30, .func (PySem.W.fnOf "__eq__" "Book.__eq__" (defArgs s_Book___eq__) (defBody s_Book___eq__) (defScope s_Book___eq__) .none kV30 dc30 pm30 an30 cd30 ct30), sl30⟩) (c30 : PySem.W.codeIn K cd30 "Book.__eq__" = true) (k30 : PySem.W.keepIn K (.ref f30) = true)
    (a31 : PySem.W.nsIn K mainGlobals "divided" = some (some (.ref f31))) (l31 : K.lookup f31 = some ⟨oc31, od31, .func (PySem.W.fnOf "divided" "divided" (defArgs s_divided) (defBody s_divided) (defScope s_divided) .none kV31 dc31 pm31 an31 cd31 ct31), sl31⟩) (c31 : PySem.W.codeIn K cd31 "divided" = true) (k31 : PySem.W.keepIn K (.ref f31) = true)
    (a32 : PySem.W.nsIn K mainGlobals "subcounts" = some (some (.ref f32))) (l32 : K.lookup f32 = some ⟨oc32, od32, .func (PySem.W.fnOf "subcounts" "subcounts" (defArgs s_subcounts) (defBody s_subcounts) (defScope s_subcounts) .none kV32 dc32 pm32 an32 cd32 ct32), sl32⟩) (c32 : PySem.W.codeIn K cd32 "subcounts" = true) (k32 : PySem.W.keepIn K (.ref f32) = true)
    (a33 : PySem.W.nsIn K mainGlobals "_law_deck" = some (some (.ref f33))) (l33 : K.lookup f33 = some ⟨oc33, od33, .func (PySem.W.fnOf "_law_deck" "_law_deck" (defArgs s__law_deck) (defBody s__law_deck) (defScope s__law_deck) .none kV33 dc33 pm33 an33 cd33 ct33), sl33⟩) (c33 : PySem.W.codeIn K cd33 "_law_deck" = true) (k33 : PySem.W.keepIn K (.ref f33) = true)
    (a34 : PySem.W.nsIn K mainGlobals "_law_draw" = some (some (.ref f34))) (l34 : K.lookup f34 = some ⟨oc34, od34, .func (PySem.W.fnOf "_law_draw" "_law_draw" (defArgs s__law_draw) (defBody s__law_draw) (defScope s__law_draw) .none kV34 dc34 pm34 an34 cd34 ct34), sl34⟩) (c34 : PySem.W.codeIn K cd34 "_law_draw" = true) (k34 : PySem.W.keepIn K (.ref f34) = true)
    (a35 : PySem.W.nsIn K mainGlobals "_law_pick" = some (some (.ref f35))) (l35 : K.lookup f35 = some ⟨oc35, od35, .func (PySem.W.fnOf "_law_pick" "_law_pick" (defArgs s__law_pick) (defBody s__law_pick) (defScope s__law_pick) .none kV35 dc35 pm35 an35 cd35 ct35), sl35⟩) (c35 : PySem.W.codeIn K cd35 "_law_pick" = true) (k35 : PySem.W.keepIn K (.ref f35) = true)
    (a36 : PySem.W.nsIn K mainGlobals "_law_figures" = some (some (.ref f36))) (l36 : K.lookup f36 = some ⟨oc36, od36, .func (PySem.W.fnOf "_law_figures" "_law_figures" (defArgs s__law_figures) (defBody s__law_figures) (defScope s__law_figures) .none kV36 dc36 pm36 an36 cd36 ct36), sl36⟩) (c36 : PySem.W.codeIn K cd36 "_law_figures" = true) (k36 : PySem.W.keepIn K (.ref f36) = true)
    (a37 : PySem.W.nsIn K mainGlobals "_law_polynomial" = some (some (.ref f37))) (l37 : K.lookup f37 = some ⟨oc37, od37, .func (PySem.W.fnOf "_law_polynomial" "_law_polynomial" (defArgs s__law_polynomial) (defBody s__law_polynomial) (defScope s__law_polynomial) .none kV37 dc37 pm37 an37 cd37 ct37), sl37⟩) (c37 : PySem.W.codeIn K cd37 "_law_polynomial" = true) (k37 : PySem.W.keepIn K (.ref f37) = true)
    (a38 : PySem.W.nsIn K mainGlobals "_law_is_polynomial" = some (some (.ref f38))) (l38 : K.lookup f38 = some ⟨oc38, od38, .func (PySem.W.fnOf "_law_is_polynomial" "_law_is_polynomial" (defArgs s__law_is_polynomial) (defBody s__law_is_polynomial) (defScope s__law_is_polynomial) .none kV38 dc38 pm38 an38 cd38 ct38), sl38⟩) (c38 : PySem.W.codeIn K cd38 "_law_is_polynomial" = true) (k38 : PySem.W.keepIn K (.ref f38) = true)
    (a39 : PySem.W.nsIn K mainGlobals "_law_odd" = some (some (.ref f39))) (l39 : K.lookup f39 = some ⟨oc39, od39, .func (PySem.W.fnOf "_law_odd" "_law_odd" (defArgs s__law_odd) (defBody s__law_odd) (defScope s__law_odd) .none kV39 dc39 pm39 an39 cd39 ct39), sl39⟩) (c39 : PySem.W.codeIn K cd39 "_law_odd" = true) (k39 : PySem.W.keepIn K (.ref f39) = true)
    (a40 : PySem.W.nsIn K mainGlobals "_law_bent" = some (some (.ref f40))) (l40 : K.lookup f40 = some ⟨oc40, od40, .func (PySem.W.fnOf "_law_bent" "_law_bent" (defArgs s__law_bent) (defBody s__law_bent) (defScope s__law_bent) .none kV40 dc40 pm40 an40 cd40 ct40), sl40⟩) (c40 : PySem.W.codeIn K cd40 "_law_bent" = true) (k40 : PySem.W.keepIn K (.ref f40) = true)
    (a41 : PySem.W.nsIn K mainGlobals "_law_same" = some (some (.ref f41))) (l41 : K.lookup f41 = some ⟨oc41, od41, .func (PySem.W.fnOf "_law_same" "_law_same" (defArgs s__law_same) (defBody s__law_same) (defScope s__law_same) .none kV41 dc41 pm41 an41 cd41 ct41), sl41⟩) (c41 : PySem.W.codeIn K cd41 "_law_same" = true) (k41 : PySem.W.keepIn K (.ref f41) = true)
    (a42 : PySem.W.nsIn K mainGlobals "_law_is_refused" = some (some (.ref f42))) (l42 : K.lookup f42 = some ⟨oc42, od42, .func (PySem.W.fnOf "_law_is_refused" "_law_is_refused" (defArgs s__law_is_refused) (defBody s__law_is_refused) (defScope s__law_is_refused) .none kV42 dc42 pm42 an42 cd42 ct42), sl42⟩) (c42 : PySem.W.codeIn K cd42 "_law_is_refused" = true) (k42 : PySem.W.keepIn K (.ref f42) = true)
    (a43 : PySem.W.nsIn K mainGlobals "_law_value" = some (some (.ref f43))) (l43 : K.lookup f43 = some ⟨oc43, od43, .func (PySem.W.fnOf "_law_value" "_law_value" (defArgs s__law_value) (defBody s__law_value) (defScope s__law_value) .none kV43 dc43 pm43 an43 cd43 ct43), sl43⟩) (c43 : PySem.W.codeIn K cd43 "_law_value" = true) (k43 : PySem.W.keepIn K (.ref f43) = true)
    (a44 : PySem.W.nsIn K mainGlobals "_law_refused" = some (some (.ref f44))) (l44 : K.lookup f44 = some ⟨oc44, od44, .func (PySem.W.fnOf "_law_refused" "_law_refused" (defArgs s__law_refused) (defBody s__law_refused) (defScope s__law_refused) .none kV44 dc44 pm44 an44 cd44 ct44), sl44⟩) (c44 : PySem.W.codeIn K cd44 "_law_refused" = true) (k44 : PySem.W.keepIn K (.ref f44) = true)
    (a45 : PySem.W.nsIn K mainGlobals "_law_two_right" = some (some (.ref f45))) (l45 : K.lookup f45 = some ⟨oc45, od45, .func (PySem.W.fnOf "_law_two_right" "_law_two_right" (defArgs s__law_two_right) (defBody s__law_two_right) (defScope s__law_two_right) .none kV45 dc45 pm45 an45 (.ref c__law_two_right) ct45), sl45⟩) (c45 : PySem.W.codeIn K (.ref c__law_two_right) "_law_two_right" = true) (k45 : PySem.W.keepIn K (.ref f45) = true) {occ__law_two_right : Value} {ocd__law_two_right : Option Addr} {vsc__law_two_right : Array Value} {ocs__law_two_right : Array (Option Value)} (lc__law_two_right : K.lookup c__law_two_right = some ⟨occ__law_two_right, ocd__law_two_right, .fields vsc__law_two_right, ocs__law_two_right⟩) (vp__law_two_right : (vsc__law_two_right[11]? : Option Value) = some (.ref tP__law_two_right)) (rc__law_two_right : ((recsOf q).find? (fun e => e.name == ("_law_two_right" : Str))).isSome = true)
    (a46 : PySem.W.nsIn K mainGlobals "_law_one_right" = some (some (.ref f46))) (l46 : K.lookup f46 = some ⟨oc46, od46, .func (PySem.W.fnOf "_law_one_right" "_law_one_right" (defArgs s__law_one_right) (defBody s__law_one_right) (defScope s__law_one_right) .none kV46 dc46 pm46 an46 (.ref c__law_one_right) ct46), sl46⟩) (c46 : PySem.W.codeIn K (.ref c__law_one_right) "_law_one_right" = true) (k46 : PySem.W.keepIn K (.ref f46) = true) {occ__law_one_right : Value} {ocd__law_one_right : Option Addr} {vsc__law_one_right : Array Value} {ocs__law_one_right : Array (Option Value)} (lc__law_one_right : K.lookup c__law_one_right = some ⟨occ__law_one_right, ocd__law_one_right, .fields vsc__law_one_right, ocs__law_one_right⟩) (vp__law_one_right : (vsc__law_one_right[11]? : Option Value) = some (.ref tP__law_one_right)) (rc__law_one_right : ((recsOf q).find? (fun e => e.name == ("_law_one_right" : Str))).isSome = true)
    (a47 : PySem.W.nsIn K mainGlobals "_law_are_books_refused" = some (some (.ref f47))) (l47 : K.lookup f47 = some ⟨oc47, od47, .func (PySem.W.fnOf "_law_are_books_refused" "_law_are_books_refused" (defArgs s__law_are_books_refused) (defBody s__law_are_books_refused) (defScope s__law_are_books_refused) .none kV47 dc47 pm47 an47 (.ref c__law_are_books_refused) ct47), sl47⟩) (c47 : PySem.W.codeIn K (.ref c__law_are_books_refused) "_law_are_books_refused" = true) (k47 : PySem.W.keepIn K (.ref f47) = true) {occ__law_are_books_refused : Value} {ocd__law_are_books_refused : Option Addr} {vsc__law_are_books_refused : Array Value} {ocs__law_are_books_refused : Array (Option Value)} (lc__law_are_books_refused : K.lookup c__law_are_books_refused = some ⟨occ__law_are_books_refused, ocd__law_are_books_refused, .fields vsc__law_are_books_refused, ocs__law_are_books_refused⟩) (vp__law_are_books_refused : (vsc__law_are_books_refused[11]? : Option Value) = some (.ref tP__law_are_books_refused)) (rc__law_are_books_refused : ((recsOf q).find? (fun e => e.name == ("_law_are_books_refused" : Str))).isSome = true)
    (a48 : PySem.W.nsIn K mainGlobals "_law_is_great_refused" = some (some (.ref f48))) (l48 : K.lookup f48 = some ⟨oc48, od48, .func (PySem.W.fnOf "_law_is_great_refused" "_law_is_great_refused" (defArgs s__law_is_great_refused) (defBody s__law_is_great_refused) (defScope s__law_is_great_refused) .none kV48 dc48 pm48 an48 (.ref c__law_is_great_refused) ct48), sl48⟩) (c48 : PySem.W.codeIn K (.ref c__law_is_great_refused) "_law_is_great_refused" = true) (k48 : PySem.W.keepIn K (.ref f48) = true) {occ__law_is_great_refused : Value} {ocd__law_is_great_refused : Option Addr} {vsc__law_is_great_refused : Array Value} {ocs__law_is_great_refused : Array (Option Value)} (lc__law_is_great_refused : K.lookup c__law_is_great_refused = some ⟨occ__law_is_great_refused, ocd__law_is_great_refused, .fields vsc__law_is_great_refused, ocs__law_is_great_refused⟩) (vp__law_is_great_refused : (vsc__law_is_great_refused[11]? : Option Value) = some (.ref tP__law_is_great_refused)) (rc__law_is_great_refused : ((recsOf q).find? (fun e => e.name == ("_law_is_great_refused" : Str))).isSome = true)
    (a49 : PySem.W.nsIn K mainGlobals "law" = some (some (.ref f49))) (l49 : K.lookup f49 = some ⟨oc49, od49, .func (PySem.W.fnOf "law" "law" (defArgs s_law) (defBody s_law) (defScope s_law) .none kV49 dc49 pm49 an49 cd49 ct49), sl49⟩) (c49 : PySem.W.codeIn K cd49 "law" = true) (k49 : PySem.W.keepIn K (.ref f49) = true)
    (pg_Book : PySem.W.plainGet K C_Book Str.empty = true) (hd_Book : PySem.W.hasDictIn K C_Book = true) (po_Book : PySem.W.plainOver K C_Book = true) (sa_Book : PySem.W.findIn K (.ref C_Book) "__setattr__" = some (some (.builtin "object.__setattr__")))
    (ma_Book : PySem.W.makesIn K C_Book = true) (kp_Book : PySem.W.keepIn K (.ref C_Book) = true) (fn_Book : PySem.W.isFn K (.ref f29) = true)
    (ha_Book : PySem.W.findIn K (.ref C_Book) "__class__" = some (some (.builtin "object.__class__"))) (hn_Book : PySem.W.specialIn K (.builtin "object.__class__") "__get__" = some (some (.builtin "getset_descriptor.__get__"))) (ht_Book : PySem.W.takesIn K (.builtin "object.__class__") = some true) (hm_Book : PySem.W.mroIn K C_Book (.type "object") = some true) (nt_Book : PySem.W.subIn K (.ref C_Book) (.type "tuple") = some false) (ni_Book : PySem.W.subIn K (.ref C_Book) (.type "int") = some false)
    (no_Book_q : PySem.W.findIn K (.ref C_Book) "q" = some none)
    (no_Book_n : PySem.W.findIn K (.ref C_Book) "n" = some none)
    (no_Book_rows : PySem.W.findIn K (.ref C_Book) "rows" = some none)
    (no_Book_dimension : PySem.W.findIn K (.ref C_Book) "dimension" = some none)
    (ef_Book : PySem.W.isFn K (.ref f30) = true)
    {t_MOST_PLACES : Tok} (m_MOST_PLACES : PySem.W.nsIn K mainGlobals "MOST_PLACES" = some (some (.int 8 t_MOST_PLACES)))
    {t_MOST_ROWS : Tok} (m_MOST_ROWS : PySem.W.nsIn K mainGlobals "MOST_ROWS" = some (some (.int 16 t_MOST_ROWS)))
    {t_four : Addr} (aF : PySem.W.nsIn K mainGlobals "FOUR_TIMES" = some (some (.ref t_four))) (fF : FourTab K t_four)
    (xha : PySem.W.findIn K (.ref C_BadPolynomial) "__class__" = some (some (.builtin "object.__class__"))) (xhn : PySem.W.specialIn K (.builtin "object.__class__") "__get__" = some (some (.builtin "getset_descriptor.__get__"))) (xht : PySem.W.takesIn K (.builtin "object.__class__") = some true) (xhm : PySem.W.mroIn K C_BadPolynomial (.type "object") = some true)
    (sB0 : PySem.W.subIn K (.ref C_BadPolynomial) (.ref B0) = some true) (iB0 : PySem.W.isClsIn K B0 = true) (tB0 : PySem.W.typeIn K (.ref B0) = some (.type "type"))
    (tnd : [tP__law_two_right, tP__law_one_right, tP__law_are_books_refused, tP__law_is_great_refused].Nodup)
    {C_BadNumber : Addr} (aBadNumber : PySem.W.nsIn K mainGlobals "BadNumber" = some (some (.ref C_BadNumber))) (sBadNumber : PySem.W.subIn K (.ref C_BadPolynomial) (.ref C_BadNumber) = some false) (iBadNumber : PySem.W.isClsIn K C_BadNumber = true) (tBadNumber : PySem.W.typeIn K (.ref C_BadNumber) = some (.type "type")) (nBadNumber : C_BadPolynomial ≠ C_BadNumber)
    {C_BadField : Addr} (aBadField : PySem.W.nsIn K mainGlobals "BadField" = some (some (.ref C_BadField))) (sBadField : PySem.W.subIn K (.ref C_BadPolynomial) (.ref C_BadField) = some false) (iBadField : PySem.W.isClsIn K C_BadField = true) (tBadField : PySem.W.typeIn K (.ref C_BadField) = some (.type "type")) (nBadField : C_BadPolynomial ≠ C_BadField)
    {C_BadTable : Addr} (aBadTable : PySem.W.nsIn K mainGlobals "BadTable" = some (some (.ref C_BadTable))) (sBadTable : PySem.W.subIn K (.ref C_BadPolynomial) (.ref C_BadTable) = some false) (iBadTable : PySem.W.isClsIn K C_BadTable = true) (tBadTable : PySem.W.typeIn K (.ref C_BadTable) = some (.type "type")) (nBadTable : C_BadPolynomial ≠ C_BadTable)
    (z_abs : PySem.W.nsIn K mainGlobals "abs" = some none)
    (z_all : PySem.W.nsIn K mainGlobals "all" = some none)
    (z_bool : PySem.W.nsIn K mainGlobals "bool" = some none)
    (z_enumerate : PySem.W.nsIn K mainGlobals "enumerate" = some none)
    (z_int : PySem.W.nsIn K mainGlobals "int" = some none)
    (z_isinstance : PySem.W.nsIn K mainGlobals "isinstance" = some none)
    (z_len : PySem.W.nsIn K mainGlobals "len" = some none)
    (z_list : PySem.W.nsIn K mainGlobals "list" = some none)
    (z_max : PySem.W.nsIn K mainGlobals "max" = some none)
    (z_min : PySem.W.nsIn K mainGlobals "min" = some none)
    (z_range : PySem.W.nsIn K mainGlobals "range" = some none)
    (z_repr : PySem.W.nsIn K mainGlobals "repr" = some none)
    (z_reversed : PySem.W.nsIn K mainGlobals "reversed" = some none)
    (z_str : PySem.W.nsIn K mainGlobals "str" = some none)
    (z_tuple : PySem.W.nsIn K mainGlobals "tuple" = some none)
    (z_zip : PySem.W.nsIn K mainGlobals "zip" = some none)
    (g_gcd : PySem.W.nsIn K mainGlobals "gcd" = some (some (.builtin "math.gcd"))) :
    ∃ (fd : FuncData) (tabs : List Tb), (∀ t ∈ tabs, TabAt h t) ∧ PySem.W.noTabs K = true ∧ (∀ (s : Shared) (v : Value), BindsTo s fd ⟨[v], []⟩ [("_law_script", v)]) ∧ ∀ base : Heap, K.In base → base.Ns mainGlobals mg → SM base → (∀ t ∈ tabs, TabB base mg t.1 t.2.1) → FnG P w K mg base 14 fa fd ["_law_script"] (spLaw K (tbs tabs)) := by
  obtain rfl : f49 = fa := PySem.Value.ref.inj (Option.some.inj ((PySem.W.mg_of X G a49).symm.trans hfa))
  have F0 := fun_mk (st := s_is_integer) l0 c0 k0
  have F1 := fun_mk (st := s_is_integer_from) l1 c1 k1
  have F2 := fun_mk (st := s_are_integers) l2 c2 k2
  have F3 := fun_mk (st := s_are_integers_from) l3 c3 k3
  have F4 := fun_mk (st := s_are_letters) l4 c4 k4
  have F5 := fun_mk (st := s_is_row) l5 c5 k5
  have F6 := fun_mk (st := s_lowest_terms) l6 c6 k6
  have F7 := fun_mk (st := s_is_polynomial) l7 c7 k7
  have F8 := fun_mk (st := s_check_polynomial) l8 c8 k8
  have F9 := fun_mk (st := s_check_two_polynomials) l9 c9 k9
  have F10 := fun_mk (st := s_trimmed) l10 c10 k10
  have F11 := fun_mk (st := s_plus) l11 c11 k11
  have F12 := fun_mk (st := s_minus) l12 c12 k12
  have F13 := fun_mk (st := s_times) l13 c13 k13
  have F14 := fun_mk (st := s_scaled) l14 c14 k14
  have F15 := fun_mk (st := s_power) l15 c15 k15
  have F16 := fun_mk (st := s_value) l16 c16 k16
  have F17 := fun_mk (st := s_value_at) l17 c17 k17
  have F18 := fun_mk (st := s_letter_sum) l18 c18 k18
  have F19 := fun_mk (st := s_letter_negative) l19 c19 k19
  have F20 := fun_mk (st := s_letter_times) l20 c20 k20
  have F21 := fun_mk (st := s_letter_inverse) l21 c21 k21
  have F22 := fun_mk (st := s_row_sum) l22 c22 k22
  have F23 := fun_mk (st := s_row_times) l23 c23 k23
  have F24 := fun_mk (st := s_row_support) l24 c24 k24
  have F25 := fun_mk (st := s_check_field) l25 c25 k25
  have F26 := fun_mk (st := s_lead_of) l26 c26 k26
  have F27 := fun_mk (st := s_with_zero_at) l27 c27 k27
  have F28 := fun_mk (st := s_reduced_rows) l28 c28 k28
  have F29 := fun_mk (st := s_Book___init__) l29 c29 k29
  have F30 := fun_mk (st := s_Book___eq__) l30 c30 k30
  have F31 := fun_mk (st := s_divided) l31 c31 k31
  have F32 := fun_mk (st := s_subcounts) l32 c32 k32
  have F33 := fun_mk (st := s__law_deck) l33 c33 k33
  have F34 := fun_mk (st := s__law_draw) l34 c34 k34
  have F35 := fun_mk (st := s__law_pick) l35 c35 k35
  have F36 := fun_mk (st := s__law_figures) l36 c36 k36
  have F37 := fun_mk (st := s__law_polynomial) l37 c37 k37
  have F38 := fun_mk (st := s__law_is_polynomial) l38 c38 k38
  have F39 := fun_mk (st := s__law_odd) l39 c39 k39
  have F40 := fun_mk (st := s__law_bent) l40 c40 k40
  have F41 := fun_mk (st := s__law_same) l41 c41 k41
  have F42 := fun_mk (st := s__law_is_refused) l42 c42 k42
  have F43 := fun_mk (st := s__law_value) l43 c43 k43
  have F44 := fun_mk (st := s__law_refused) l44 c44 k44
  have F45 := funL_mk (st := s__law_two_right) l45 c45 k45
  have F46 := funL_mk (st := s__law_one_right) l46 c46 k46
  have F47 := funL_mk (st := s__law_are_books_refused) l47 c47 k47
  have F48 := funL_mk (st := s__law_is_great_refused) l48 c48 k48
  have F49 := fun_mk (st := s_law) l49 c49 k49
  let T : Txt K mg := {
    a_is_integer := f0, d_is_integer := _, F_is_integer := F0, m_is_integer := PySem.W.mg_of X G a0,
    b_is_integer := F0.binds (ps := P_is_integer) fun _ _ _ _ _ _ us hl => match us, hl with | [_], _ => rfl,
    a_is_integer_from := f1, d_is_integer_from := _, F_is_integer_from := F1, m_is_integer_from := PySem.W.mg_of X G a1,
    b_is_integer_from := F1.binds (ps := P_is_integer_from) fun _ _ _ _ _ _ us hl => match us, hl with | [_, _, _], _ => rfl,
    a_are_integers := f2, d_are_integers := _, F_are_integers := F2, m_are_integers := PySem.W.mg_of X G a2,
    b_are_integers := F2.binds (ps := P_are_integers) fun _ _ _ _ _ _ us hl => match us, hl with | [_], _ => rfl,
    a_are_integers_from := f3, d_are_integers_from := _, F_are_integers_from := F3, m_are_integers_from := PySem.W.mg_of X G a3,
    b_are_integers_from := F3.binds (ps := P_are_integers_from) fun _ _ _ _ _ _ us hl => match us, hl with | [_, _, _], _ => rfl,
    a_are_letters := f4, d_are_letters := _, F_are_letters := F4, m_are_letters := PySem.W.mg_of X G a4,
    b_are_letters := F4.binds (ps := P_are_letters) fun _ _ _ _ _ _ us hl => match us, hl with | [_, _], _ => rfl,
    a_is_row := f5, d_is_row := _, F_is_row := F5, m_is_row := PySem.W.mg_of X G a5,
    b_is_row := F5.binds (ps := P_is_row) fun _ _ _ _ _ _ us hl => match us, hl with | [_, _, _], _ => rfl,
    a_lowest_terms := f6, d_lowest_terms := _, F_lowest_terms := F6, m_lowest_terms := PySem.W.mg_of X G a6,
    b_lowest_terms := F6.binds (ps := P_lowest_terms) fun _ _ _ _ _ _ us hl => match us, hl with | [_, _], _ => rfl,
    a_is_polynomial := f7, d_is_polynomial := _, F_is_polynomial := F7, m_is_polynomial := PySem.W.mg_of X G a7,
    b_is_polynomial := F7.binds (ps := P_is_polynomial) fun _ _ _ _ _ _ us hl => match us, hl with | [_], _ => rfl,
    a_check_polynomial := f8, d_check_polynomial := _, F_check_polynomial := F8, m_check_polynomial := PySem.W.mg_of X G a8,
    b_check_polynomial := F8.binds (ps := P_check_polynomial) fun _ _ _ _ _ _ us hl => match us, hl with | [_], _ => rfl,
    a_check_two_polynomials := f9, d_check_two_polynomials := _, F_check_two_polynomials := F9, m_check_two_polynomials := PySem.W.mg_of X G a9,
    b_check_two_polynomials := F9.binds (ps := P_check_two_polynomials) fun _ _ _ _ _ _ us hl => match us, hl with | [_, _], _ => rfl,
    a_trimmed := f10, d_trimmed := _, F_trimmed := F10, m_trimmed := PySem.W.mg_of X G a10,
    b_trimmed := F10.binds (ps := P_trimmed) fun _ _ _ _ _ _ us hl => match us, hl with | [_], _ => rfl,
    a_plus := f11, d_plus := _, F_plus := F11, m_plus := PySem.W.mg_of X G a11,
    b_plus := F11.binds (ps := P_plus) fun _ _ _ _ _ _ us hl => match us, hl with | [_, _], _ => rfl,
    q_plus_other_one := kb2s fun _ _ => rfl,
    a_minus := f12, d_minus := _, F_minus := F12, m_minus := PySem.W.mg_of X G a12,
    b_minus := F12.binds (ps := P_minus) fun _ _ _ _ _ _ us hl => match us, hl with | [_, _], _ => rfl,
    q_minus_other_one := kb2s fun _ _ => rfl,
    a_times := f13, d_times := _, F_times := F13, m_times := PySem.W.mg_of X G a13,
    b_times := F13.binds (ps := P_times) fun _ _ _ _ _ _ us hl => match us, hl with | [_, _], _ => rfl,
    q_times_other_one := kb2s fun _ _ => rfl,
    a_scaled := f14, d_scaled := _, F_scaled := F14, m_scaled := PySem.W.mg_of X G a14,
    b_scaled := F14.binds (ps := P_scaled) fun _ _ _ _ _ _ us hl => match us, hl with | [_, _], _ => rfl,
    q_scaled_one_integer := kb2s fun _ _ => rfl,
    a_power := f15, d_power := _, F_power := F15, m_power := PySem.W.mg_of X G a15,
    b_power := F15.binds (ps := P_power) fun _ _ _ _ _ _ us hl => match us, hl with | [_, _], _ => rfl,
    q_power_many_one := kb2s fun _ _ => rfl,
    a_value := f16, d_value := _, F_value := F16, m_value := PySem.W.mg_of X G a16,
    b_value := F16.binds (ps := P_value) fun _ _ _ _ _ _ us hl => match us, hl with | [_, _], _ => rfl,
    q_value_integer_one := kb2s fun _ _ => rfl,
    a_value_at := f17, d_value_at := _, F_value_at := F17, m_value_at := PySem.W.mg_of X G a17,
    b_value_at := F17.binds (ps := P_value_at) fun _ _ _ _ _ _ us hl => match us, hl with | [_, _], _ => rfl,
    q_value_at_number_one := kb2s fun _ _ => rfl,
    a_letter_sum := f18, d_letter_sum := _, F_letter_sum := F18, m_letter_sum := PySem.W.mg_of X G a18,
    b_letter_sum := F18.binds (ps := P_letter_sum) fun _ _ _ _ _ _ us hl => match us, hl with | [_, _, _], _ => rfl,
    a_letter_negative := f19, d_letter_negative := _, F_letter_negative := F19, m_letter_negative := PySem.W.mg_of X G a19,
    b_letter_negative := F19.binds (ps := P_letter_negative) fun _ _ _ _ _ _ us hl => match us, hl with | [_, _], _ => rfl,
    a_letter_times := f20, d_letter_times := _, F_letter_times := F20, m_letter_times := PySem.W.mg_of X G a20,
    b_letter_times := F20.binds (ps := P_letter_times) fun _ _ _ _ _ _ us hl => match us, hl with | [_, _, _], _ => rfl,
    a_letter_inverse := f21, d_letter_inverse := _, F_letter_inverse := F21, m_letter_inverse := PySem.W.mg_of X G a21,
    b_letter_inverse := F21.binds (ps := P_letter_inverse) fun _ _ _ _ _ _ us hl => match us, hl with | [_, _], _ => rfl,
    a_row_sum := f22, d_row_sum := _, F_row_sum := F22, m_row_sum := PySem.W.mg_of X G a22,
    b_row_sum := F22.binds (ps := P_row_sum) fun _ _ _ _ _ _ us hl => match us, hl with | [_, _, _], _ => rfl,
    a_row_times := f23, d_row_times := _, F_row_times := F23, m_row_times := PySem.W.mg_of X G a23,
    b_row_times := F23.binds (ps := P_row_times) fun _ _ _ _ _ _ us hl => match us, hl with | [_, _, _], _ => rfl,
    a_row_support := f24, d_row_support := _, F_row_support := F24, m_row_support := PySem.W.mg_of X G a24,
    b_row_support := F24.binds (ps := P_row_support) fun _ _ _ _ _ _ us hl => match us, hl with | [_], _ => rfl,
    a_check_field := f25, d_check_field := _, F_check_field := F25, m_check_field := PySem.W.mg_of X G a25,
    b_check_field := F25.binds (ps := P_check_field) fun _ _ _ _ _ _ us hl => match us, hl with | [_], _ => rfl,
    a_lead_of := f26, d_lead_of := _, F_lead_of := F26, m_lead_of := PySem.W.mg_of X G a26,
    b_lead_of := F26.binds (ps := P_lead_of) fun _ _ _ _ _ _ us hl => match us, hl with | [_], _ => rfl,
    a_with_zero_at := f27, d_with_zero_at := _, F_with_zero_at := F27, m_with_zero_at := PySem.W.mg_of X G a27,
    b_with_zero_at := F27.binds (ps := P_with_zero_at) fun _ _ _ _ _ _ us hl => match us, hl with | [_, _, _, _], _ => rfl,
    a_reduced_rows := f28, d_reduced_rows := _, F_reduced_rows := F28, m_reduced_rows := PySem.W.mg_of X G a28,
    b_reduced_rows := F28.binds (ps := P_reduced_rows) fun _ _ _ _ _ _ us hl => match us, hl with | [_, _, _], _ => rfl,
    a_Book___init__ := f29, d_Book___init__ := _, F_Book___init__ := F29,
    b_Book___init__ := F29.binds (ps := P_Book___init__) fun _ _ _ _ _ _ us hl => match us, hl with | [_, _, _, _], _ => rfl,
    a_Book___eq__ := f30, d_Book___eq__ := _, F_Book___eq__ := F30,
    b_Book___eq__ := F30.binds (ps := P_Book___eq__) fun _ _ _ _ _ _ us hl => match us, hl with | [_, _], _ => rfl,
    a_divided := f31, d_divided := _, F_divided := F31, m_divided := PySem.W.mg_of X G a31,
    b_divided := F31.binds (ps := P_divided) fun _ _ _ _ _ _ us hl => match us, hl with | [_, _], _ => rfl,
    a_subcounts := f32, d_subcounts := _, F_subcounts := F32, m_subcounts := PySem.W.mg_of X G a32,
    b_subcounts := F32.binds (ps := P_subcounts) fun _ _ _ _ _ _ us hl => match us, hl with | [_, _], _ => rfl,
    q_subcounts_polynomial_q := kb2s fun _ _ => rfl,
    a__law_deck := f33, d__law_deck := _, F__law_deck := F33, m__law_deck := PySem.W.mg_of X G a33,
    b__law_deck := F33.binds (ps := P__law_deck) fun _ _ _ _ _ _ us hl => match us, hl with | [_], _ => rfl,
    a__law_draw := f34, d__law_draw := _, F__law_draw := F34, m__law_draw := PySem.W.mg_of X G a34,
    b__law_draw := F34.binds (ps := P__law_draw) fun _ _ _ _ _ _ us hl => match us, hl with | [_, _], _ => rfl,
    a__law_pick := f35, d__law_pick := _, F__law_pick := F35, m__law_pick := PySem.W.mg_of X G a35,
    b__law_pick := F35.binds (ps := P__law_pick) fun _ _ _ _ _ _ us hl => match us, hl with | [_, _], _ => rfl,
    a__law_figures := f36, d__law_figures := _, F__law_figures := F36, m__law_figures := PySem.W.mg_of X G a36,
    b__law_figures := F36.binds (ps := P__law_figures) fun _ _ _ _ _ _ us hl => match us, hl with | [_], _ => rfl,
    a__law_polynomial := f37, d__law_polynomial := _, F__law_polynomial := F37, m__law_polynomial := PySem.W.mg_of X G a37,
    b__law_polynomial := F37.binds (ps := P__law_polynomial) fun _ _ _ _ _ _ us hl => match us, hl with | [_, _], _ => rfl,
    a__law_is_polynomial := f38, d__law_is_polynomial := _, F__law_is_polynomial := F38, m__law_is_polynomial := PySem.W.mg_of X G a38,
    b__law_is_polynomial := F38.binds (ps := P__law_is_polynomial) fun _ _ _ _ _ _ us hl => match us, hl with | [_], _ => rfl,
    a__law_odd := f39, d__law_odd := _, F__law_odd := F39, m__law_odd := PySem.W.mg_of X G a39,
    b__law_odd := F39.binds (ps := P__law_odd) fun _ _ _ _ _ _ us hl => match us, hl with | [_, _], _ => rfl,
    a__law_bent := f40, d__law_bent := _, F__law_bent := F40, m__law_bent := PySem.W.mg_of X G a40,
    b__law_bent := F40.binds (ps := P__law_bent) fun _ _ _ _ _ _ us hl => match us, hl with | [_, _], _ => rfl,
    a__law_same := f41, d__law_same := _, F__law_same := F41, m__law_same := PySem.W.mg_of X G a41,
    b__law_same := F41.binds (ps := P__law_same) fun _ _ _ _ _ _ us hl => match us, hl with | [_, _], _ => rfl,
    a__law_is_refused := f42, d__law_is_refused := _, F__law_is_refused := F42, m__law_is_refused := PySem.W.mg_of X G a42,
    b__law_is_refused := F42.binds (ps := P__law_is_refused) fun _ _ _ _ _ _ us hl => match us, hl with | [_, _, _], _ => rfl,
    a__law_value := f43, d__law_value := _, F__law_value := F43, m__law_value := PySem.W.mg_of X G a43,
    b__law_value := F43.binds (ps := P__law_value) fun _ _ _ _ _ _ us hl => match us, hl with | [_], _ => rfl,
    a__law_refused := f44, d__law_refused := _, F__law_refused := F44, m__law_refused := PySem.W.mg_of X G a44,
    b__law_refused := F44.binds (ps := P__law_refused) fun _ _ _ _ _ _ us hl => match us, hl with | [_], _ => rfl,
    c__law_two_right := c__law_two_right, tP__law_two_right := tP__law_two_right,
    a__law_two_right := f45, d__law_two_right := _, F__law_two_right := F45, m__law_two_right := PySem.W.mg_of X G a45,
    b__law_two_right := F45.bindsL (ps := P__law_two_right) fun _ _ _ _ _ _ us hl => match us, hl with | [_, _, _], _ => rfl,
    c__law_one_right := c__law_one_right, tP__law_one_right := tP__law_one_right,
    a__law_one_right := f46, d__law_one_right := _, F__law_one_right := F46, m__law_one_right := PySem.W.mg_of X G a46,
    b__law_one_right := F46.bindsL (ps := P__law_one_right) fun _ _ _ _ _ _ us hl => match us, hl with | [_, _], _ => rfl,
    c__law_are_books_refused := c__law_are_books_refused, tP__law_are_books_refused := tP__law_are_books_refused,
    a__law_are_books_refused := f47, d__law_are_books_refused := _, F__law_are_books_refused := F47, m__law_are_books_refused := PySem.W.mg_of X G a47,
    b__law_are_books_refused := F47.bindsL (ps := P__law_are_books_refused) fun _ _ _ _ _ _ us hl => match us, hl with | [_], _ => rfl,
    c__law_is_great_refused := c__law_is_great_refused, tP__law_is_great_refused := tP__law_is_great_refused,
    a__law_is_great_refused := f48, d__law_is_great_refused := _, F__law_is_great_refused := F48, m__law_is_great_refused := PySem.W.mg_of X G a48,
    b__law_is_great_refused := F48.bindsL (ps := P__law_is_great_refused) fun _ _ _ _ _ _ us hl => match us, hl with | [], _ => rfl,
    a_law := f49, d_law := _, F_law := F49, m_law := PySem.W.mg_of X G a49,
    b_law := F49.binds (ps := P_law) fun _ _ _ _ _ _ us hl => match us, hl with | [_], _ => rfl,
    B0 := B0, gB := PySem.W.mg_of X G gB,
    C_BadPolynomial := C_BadPolynomial, I_BadPolynomial := I_BadPolynomial, e_BadPolynomial := e_BadPolynomial,
    C_Book := C_Book, g_Book := PySem.W.mg_of X G aC_Book, cl_Book := ⟨pg_Book, hd_Book, po_Book, sa_Book⟩, mk_Book := ⟨ma_Book, a29, fn_Book, kp_Book⟩, is_Book := ⟨ha_Book, hn_Book, ht_Book, hm_Book, kit_sub (by decide +kernel) nt_Book, kit_sub (by decide +kernel) ni_Book⟩,
    no_Book_q := no_Book_q,
    no_Book_n := no_Book_n,
    no_Book_rows := no_Book_rows,
    no_Book_dimension := no_Book_dimension,
    eq_Book := a30, eqf_Book := ef_Book,
    t_MOST_PLACES := t_MOST_PLACES, m_MOST_PLACES := PySem.W.mg_of X G m_MOST_PLACES,
    t_MOST_ROWS := t_MOST_ROWS, m_MOST_ROWS := PySem.W.mg_of X G m_MOST_ROWS,
    t_four := t_four, m_four := PySem.W.mg_of X G aF, four := fF,
    ex_BadPolynomial := ⟨e_BadPolynomial.ga, e_BadPolynomial.gg, e_BadPolynomial.exC, e_BadPolynomial.hdC, xha, xhn, xht, xhm⟩,
    k_B0 := kit_refT iB0 tB0 sB0,
    tnd := tnd,
    C_BadNumber := C_BadNumber, g_BadNumber := PySem.W.mg_of X G aBadNumber, k_BadNumber := kit_refF nBadNumber iBadNumber tBadNumber sBadNumber,
    C_BadField := C_BadField, g_BadField := PySem.W.mg_of X G aBadField, k_BadField := kit_refF nBadField iBadField tBadField sBadField,
    C_BadTable := C_BadTable, g_BadTable := PySem.W.mg_of X G aBadTable, k_BadTable := kit_refF nBadTable iBadTable tBadTable sBadTable,
    m_abs := PySem.W.mg_none_of X G z_abs,
    m_all := PySem.W.mg_none_of X G z_all,
    m_bool := PySem.W.mg_none_of X G z_bool,
    m_enumerate := PySem.W.mg_none_of X G z_enumerate,
    m_int := PySem.W.mg_none_of X G z_int,
    m_isinstance := PySem.W.mg_none_of X G z_isinstance,
    m_len := PySem.W.mg_none_of X G z_len,
    m_list := PySem.W.mg_none_of X G z_list,
    m_max := PySem.W.mg_none_of X G z_max,
    m_min := PySem.W.mg_none_of X G z_min,
    m_range := PySem.W.mg_none_of X G z_range,
    m_repr := PySem.W.mg_none_of X G z_repr,
    m_reversed := PySem.W.mg_none_of X G z_reversed,
    m_str := PySem.W.mg_none_of X G z_str,
    m_tuple := PySem.W.mg_none_of X G z_tuple,
    m_zip := PySem.W.mg_none_of X G z_zip,
    m_gcd := PySem.W.mg_of X G g_gcd }
  obtain ⟨r__law_two_right, hr__law_two_right⟩ := Option.isSome_iff_exists.mp rc__law_two_right
  have ta__law_two_right := tq _ _ _ _ hr__law_two_right (tabIn_of a45 l45 rfl lc__law_two_right vp__law_two_right)
  obtain ⟨r__law_one_right, hr__law_one_right⟩ := Option.isSome_iff_exists.mp rc__law_one_right
  have ta__law_one_right := tq _ _ _ _ hr__law_one_right (tabIn_of a46 l46 rfl lc__law_one_right vp__law_one_right)
  obtain ⟨r__law_are_books_refused, hr__law_are_books_refused⟩ := Option.isSome_iff_exists.mp rc__law_are_books_refused
  have ta__law_are_books_refused := tq _ _ _ _ hr__law_are_books_refused (tabIn_of a47 l47 rfl lc__law_are_books_refused vp__law_are_books_refused)
  obtain ⟨r__law_is_great_refused, hr__law_is_great_refused⟩ := Option.isSome_iff_exists.mp rc__law_is_great_refused
  have ta__law_is_great_refused := tq _ _ _ _ hr__law_is_great_refused (tabIn_of a48 l48 rfl lc__law_is_great_refused vp__law_is_great_refused)
  exact ⟨_, [(c__law_two_right, tP__law_two_right, qL__law_two_right), (c__law_one_right, tP__law_one_right, qL__law_one_right), (c__law_are_books_refused, tP__law_are_books_refused, qL__law_are_books_refused), (c__law_is_great_refused, tP__law_is_great_refused, qL__law_is_great_refused)], fun t ht => ((List.mem_cons.mp ht).elim (fun e => by rw [e]; exact ⟨ta__law_two_right.1, ta__law_two_right.2⟩) fun ht => ((List.mem_cons.mp ht).elim (fun e => by rw [e]; exact ⟨ta__law_one_right.1, ta__law_one_right.2⟩) fun ht => ((List.mem_cons.mp ht).elim (fun e => by rw [e]; exact ⟨ta__law_are_books_refused.1, ta__law_are_books_refused.2⟩) fun ht => ((List.mem_cons.mp ht).elim (fun e => by rw [e]; exact ⟨ta__law_is_great_refused.1, ta__law_is_great_refused.2⟩) fun ht => (nomatch ht))))), nK, fun s v => .of_eq rfl, fun base _ _ sm hTB => ok_law T sm (hTB _ (.head _)) (hTB _ (.tail _ (.head _))) (hTB _ (.tail _ (.tail _ (.head _)))) (hTB _ (.tail _ (.tail _ (.tail _ (.head _)))))⟩
end K24
end
section
set_option maxRecDepth 100000
open PySem PySem.W PyProof.Rows in
set_option maxRecDepth 100000 in
set_option maxHeartbeats 0 in
theorem PySem.Challenge.cw_mirrorbook_k24_refusals_of_polynomials_holds : PySem.Challenge.rw_mirrorbook_k24_refusals_of_polynomials.Holds := by
  w_on; o_law; k_head; (case hw => w_witness2)
  k_fill
  refine MB.walkT (l := PySem.Challenge.rw_mirrorbook_k24_refusals_of_polynomials) (n := 63) (k := 14) (x := "_law_script") (sp := K24.spLaw) rfl (by decide) rfl (by decide +kernel) ⟨rfl, by decide, by decide⟩ (fun w h Y => PySem.W.km_in_of Y) ?F ?S
  case S =>
    exact fun K H a ns _ hl hT hS => ⟨a, ns, rfl, hS, hl, hT, fun _ => rfl⟩
  case F =>
    intro w mg fa h KX G tq hmg
    refine' K24.all_mk KX G hmg tq ?nK ?gB ?e_BadPolynomial ?aC_Book ?a0 ?l0 ?c0 ?k0 ?a1 ?l1 ?c1 ?k1 ?a2 ?l2 ?c2 ?k2 ?a3 ?l3 ?c3 ?k3 ?a4 ?l4 ?c4 ?k4 ?a5 ?l5 ?c5 ?k5 ?a6 ?l6 ?c6 ?k6 ?a7 ?l7 ?c7 ?k7 ?a8 ?l8 ?c8 ?k8 ?a9 ?l9 ?c9 ?k9 ?a10 ?l10 ?c10 ?k10 ?a11 ?l11 ?c11 ?k11 ?a12 ?l12 ?c12 ?k12 ?a13 ?l13 ?c13 ?k13 ?a14 ?l14 ?c14 ?k14 ?a15 ?l15 ?c15 ?k15 ?a16 ?l16 ?c16 ?k16 ?a17 ?l17 ?c17 ?k17 ?a18 ?l18 ?c18 ?k18 ?a19 ?l19 ?c19 ?k19 ?a20 ?l20 ?c20 ?k20 ?a21 ?l21 ?c21 ?k21 ?a22 ?l22 ?c22 ?k22 ?a23 ?l23 ?c23 ?k23 ?a24 ?l24 ?c24 ?k24 ?a25 ?l25 ?c25 ?k25 ?a26 ?l26 ?c26 ?k26 ?a27 ?l27 ?c27 ?k27 ?a28 ?l28 ?c28 ?k28 ?a29 ?l29 ?c29 ?k29 ?a30 ?l30 ?c30 ?k30 ?a31 ?l31 ?c31 ?k31 ?a32 ?l32 ?c32 ?k32 ?a33 ?l33 ?c33 ?k33 ?a34 ?l34 ?c34 ?k34 ?a35 ?l35 ?c35 ?k35 ?a36 ?l36 ?c36 ?k36 ?a37 ?l37 ?c37 ?k37 ?a38 ?l38 ?c38 ?k38 ?a39 ?l39 ?c39 ?k39 ?a40 ?l40 ?c40 ?k40 ?a41 ?l41 ?c41 ?k41 ?a42 ?l42 ?c42 ?k42 ?a43 ?l43 ?c43 ?k43 ?a44 ?l44 ?c44 ?k44 ?a45 ?l45 ?c45 ?k45 ?lc__law_two_right ?vp__law_two_right ?rc__law_two_right ?a46 ?l46 ?c46 ?k46 ?lc__law_one_right ?vp__law_one_right ?rc__law_one_right ?a47 ?l47 ?c47 ?k47 ?lc__law_are_books_refused ?vp__law_are_books_refused ?rc__law_are_books_refused ?a48 ?l48 ?c48 ?k48 ?lc__law_is_great_refused ?vp__law_is_great_refused ?rc__law_is_great_refused ?a49 ?l49 ?c49 ?k49 ?pg_Book ?hd_Book ?po_Book ?sa_Book ?ma_Book ?kp_Book ?fn_Book ?ha_Book ?hn_Book ?ht_Book ?hm_Book ?nt_Book ?ni_Book ?no_Book_q ?no_Book_n ?no_Book_rows ?no_Book_dimension ?ef_Book ?m_MOST_PLACES ?m_MOST_ROWS ?aF ?fF ?xha ?xhn ?xht ?xhm ?sB0 ?iB0 ?tB0 ?tnd ?aBadNumber ?sBadNumber ?iBadNumber ?tBadNumber ?nBadNumber ?aBadField ?sBadField ?iBadField ?tBadField ?nBadField ?aBadTable ?sBadTable ?iBadTable ?tBadTable ?nBadTable ?z_abs ?z_all ?z_bool ?z_enumerate ?z_int ?z_isinstance ?z_len ?z_list ?z_max ?z_min ?z_range ?z_repr ?z_reversed ?z_str ?z_tuple ?z_zip ?g_gcd
    (case nK => rfl)
    (case gB => k_is)
    (case e_BadPolynomial =>
      refine' MB.Er.of KX G ?aC ?lB ?fB ?lC ?sa ?ga ?gg ?noF ?iC ?tC ?kC ?exC ?exE ?suC ?ssC ?isC ?tyC ?hdC ?op ?su ?lI ?cI ?lc ?lcc ?top ?line ?fl ?fi ?fok ?bi
      (case aC => k_is)
      (case iC => k_is)
      (case lC => k_is)
      (case lB => k_is)
      (case fB => k_is)
      (case sa => k_is)
      (case ga => k_is)
      (case gg => k_is)
      (case noF => k_is)
      (case tC => k_is)
      (case kC => k_is)
      (case exC => k_is)
      (case exE => k_is)
      (case suC => k_is)
      (case ssC => k_is)
      (case isC => k_is)
      (case tyC => k_is)
      (case hdC => k_is)
      (case op => k_is)
      (case su => k_is)
      (case lI => k_is)
      (case cI => k_is)
      (case lc => k_is)
      (case lcc => k_is)
      (case top => rfl)
      (case line => rfl)
      (case fl => rfl)
      (case fi => rfl)
      (case fok => exact ⟨by decide, by decide, by decide, by decide⟩)
      (case bi => exact fun s a b => .of_eq rfl))
    (case aC_Book => k_is)
    (case a0 => k_is)
    (case l0 => k_is)
    (case c0 => k_is)
    (case k0 => k_is)
    (case a1 => k_is)
    (case l1 => k_is)
    (case c1 => k_is)
    (case k1 => k_is)
    (case a2 => k_is)
    (case l2 => k_is)
    (case c2 => k_is)
    (case k2 => k_is)
    (case a3 => k_is)
    (case l3 => k_is)
    (case c3 => k_is)
    (case k3 => k_is)
    (case a4 => k_is)
    (case l4 => k_is)
    (case c4 => k_is)
    (case k4 => k_is)
    (case a5 => k_is)
    (case l5 => k_is)
    (case c5 => k_is)
    (case k5 => k_is)
    (case a6 => k_is)
    (case l6 => k_is)
    (case c6 => k_is)
    (case k6 => k_is)
    (case a7 => k_is)
    (case l7 => k_is)
    (case c7 => k_is)
    (case k7 => k_is)
    (case a8 => k_is)
    (case l8 => k_is)
    (case c8 => k_is)
    (case k8 => k_is)
    (case a9 => k_is)
    (case l9 => k_is)
    (case c9 => k_is)
    (case k9 => k_is)
    (case a10 => k_is)
    (case l10 => k_is)
    (case c10 => k_is)
    (case k10 => k_is)
    (case a11 => k_is)
    (case l11 => k_is)
    (case c11 => k_is)
    (case k11 => k_is)
    (case a12 => k_is)
    (case l12 => k_is)
    (case c12 => k_is)
    (case k12 => k_is)
    (case a13 => k_is)
    (case l13 => k_is)
    (case c13 => k_is)
    (case k13 => k_is)
    (case a14 => k_is)
    (case l14 => k_is)
    (case c14 => k_is)
    (case k14 => k_is)
    (case a15 => k_is)
    (case l15 => k_is)
    (case c15 => k_is)
    (case k15 => k_is)
    (case a16 => k_is)
    (case l16 => k_is)
    (case c16 => k_is)
    (case k16 => k_is)
    (case a17 => k_is)
    (case l17 => k_is)
    (case c17 => k_is)
    (case k17 => k_is)
    (case a18 => k_is)
    (case l18 => k_is)
    (case c18 => k_is)
    (case k18 => k_is)
    (case a19 => k_is)
    (case l19 => k_is)
    (case c19 => k_is)
    (case k19 => k_is)
    (case a20 => k_is)
    (case l20 => k_is)
    (case c20 => k_is)
    (case k20 => k_is)
    (case a21 => k_is)
    (case l21 => k_is)
    (case c21 => k_is)
    (case k21 => k_is)
    (case a22 => k_is)
    (case l22 => k_is)
    (case c22 => k_is)
    (case k22 => k_is)
    (case a23 => k_is)
    (case l23 => k_is)
    (case c23 => k_is)
    (case k23 => k_is)
    (case a24 => k_is)
    (case l24 => k_is)
    (case c24 => k_is)
    (case k24 => k_is)
    (case a25 => k_is)
    (case l25 => k_is)
    (case c25 => k_is)
    (case k25 => k_is)
    (case a26 => k_is)
    (case l26 => k_is)
    (case c26 => k_is)
    (case k26 => k_is)
    (case a27 => k_is)
    (case l27 => k_is)
    (case c27 => k_is)
    (case k27 => k_is)
    (case a28 => k_is)
    (case l28 => k_is)
    (case c28 => k_is)
    (case k28 => k_is)
    (case a29 => k_is)
    (case l29 => k_is)
    (case c29 => k_is)
    (case k29 => k_is)
    (case a30 => k_is)
    (case l30 => k_is)
    (case c30 => k_is)
    (case k30 => k_is)
    (case a31 => k_is)
    (case l31 => k_is)
    (case c31 => k_is)
    (case k31 => k_is)
    (case a32 => k_is)
    (case l32 => k_is)
    (case c32 => k_is)
    (case k32 => k_is)
    (case a33 => k_is)
    (case l33 => k_is)
    (case c33 => k_is)
    (case k33 => k_is)
    (case a34 => k_is)
    (case l34 => k_is)
    (case c34 => k_is)
    (case k34 => k_is)
    (case a35 => k_is)
    (case l35 => k_is)
    (case c35 => k_is)
    (case k35 => k_is)
    (case a36 => k_is)
    (case l36 => k_is)
    (case c36 => k_is)
    (case k36 => k_is)
    (case a37 => k_is)
    (case l37 => k_is)
    (case c37 => k_is)
    (case k37 => k_is)
    (case a38 => k_is)
    (case l38 => k_is)
    (case c38 => k_is)
    (case k38 => k_is)
    (case a39 => k_is)
    (case l39 => k_is)
    (case c39 => k_is)
    (case k39 => k_is)
    (case a40 => k_is)
    (case l40 => k_is)
    (case c40 => k_is)
    (case k40 => k_is)
    (case a41 => k_is)
    (case l41 => k_is)
    (case c41 => k_is)
    (case k41 => k_is)
    (case a42 => k_is)
    (case l42 => k_is)
    (case c42 => k_is)
    (case k42 => k_is)
    (case a43 => k_is)
    (case l43 => k_is)
    (case c43 => k_is)
    (case k43 => k_is)
    (case a44 => k_is)
    (case l44 => k_is)
    (case c44 => k_is)
    (case k44 => k_is)
    (case a45 => k_is)
    (case l45 => k_is)
    (case c45 => k_is)
    (case k45 => k_is)
    (case lc__law_two_right => k_is)
    (case vp__law_two_right => rfl)
    (case rc__law_two_right => rfl)
    (case a46 => k_is)
    (case l46 => k_is)
    (case c46 => k_is)
    (case k46 => k_is)
    (case lc__law_one_right => k_is)
    (case vp__law_one_right => rfl)
    (case rc__law_one_right => rfl)
    (case a47 => k_is)
    (case l47 => k_is)
    (case c47 => k_is)
    (case k47 => k_is)
    (case lc__law_are_books_refused => k_is)
    (case vp__law_are_books_refused => rfl)
    (case rc__law_are_books_refused => rfl)
    (case a48 => k_is)
    (case l48 => k_is)
    (case c48 => k_is)
    (case k48 => k_is)
    (case lc__law_is_great_refused => k_is)
    (case vp__law_is_great_refused => rfl)
    (case rc__law_is_great_refused => rfl)
    (case a49 => k_is)
    (case l49 => k_is)
    (case c49 => k_is)
    (case k49 => k_is)
    (case pg_Book => k_is)
    (case hd_Book => k_is)
    (case po_Book => k_is)
    (case sa_Book => k_is)
    (case ma_Book => k_is)
    (case kp_Book => k_is)
    (case fn_Book => k_is)
    (case ha_Book => k_is)
    (case hn_Book => k_is)
    (case ht_Book => k_is)
    (case hm_Book => k_is)
    (case nt_Book => k_is)
    (case ni_Book => k_is)
    (case no_Book_q => k_is)
    (case no_Book_n => k_is)
    (case no_Book_rows => k_is)
    (case no_Book_dimension => k_is)
    (case ef_Book => k_is)
    (case m_MOST_PLACES => k_is)
    (case m_MOST_ROWS => k_is)
    (case aF => k_is)
    (case fF => 
      refine' K24.four_mk ?lt ?lr0 ?lr1 ?lr2 ?lr3
      (case lt => k_is)
      (case lr0 => k_is)
      (case lr1 => k_is)
      (case lr2 => k_is)
      (case lr3 => k_is))
    (case xha => k_is)
    (case xhn => k_is)
    (case xht => k_is)
    (case xhm => k_is)
    (case sB0 => k_is)
    (case iB0 => k_is)
    (case tB0 => k_is)
    (case tnd => decide)
    (case aBadNumber => k_is)
    (case sBadNumber => k_is)
    (case iBadNumber => k_is)
    (case tBadNumber => k_is)
    (case nBadNumber => decide)
    (case aBadField => k_is)
    (case sBadField => k_is)
    (case iBadField => k_is)
    (case tBadField => k_is)
    (case nBadField => decide)
    (case aBadTable => k_is)
    (case sBadTable => k_is)
    (case iBadTable => k_is)
    (case tBadTable => k_is)
    (case nBadTable => decide)
    (case z_abs => k_is)
    (case z_all => k_is)
    (case z_bool => k_is)
    (case z_enumerate => k_is)
    (case z_int => k_is)
    (case z_isinstance => k_is)
    (case z_len => k_is)
    (case z_list => k_is)
    (case z_max => k_is)
    (case z_min => k_is)
    (case z_range => k_is)
    (case z_repr => k_is)
    (case z_reversed => k_is)
    (case z_str => k_is)
    (case z_tuple => k_is)
    (case z_zip => k_is)
    (case g_gcd => k_is)
end
