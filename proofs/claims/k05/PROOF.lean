import PyProof.Rows.All
import Wide.All
import OpenK.AllK
import Wide.FinOn
import HandS.ForMost
import HandS.Ends
import HandS.Style
import HandS.TupAny
import HandS.TupMul
import HandS.Zip
import HandS.Rev
import HandS.Walk
import KE.GoesMore
import KE.KSuper
import KE.KExcInit
import HandS.ExcSuper
import HandS.ExcOwn
import HandS.ExcField
import HandS.TryMany
import HandS.WordsExc
import HandS.IsInst
import PyProof.ReprBulk
import HandS.Lambda
import KE.KNest
import HandS.Gcd
import HandS.Wide
import PyProof.ReprLen
import PySem.Challenge.RW_mirrorbook_k05_words_and_their_products
set_option Elab.async false
set_option linter.all false
section
set_option maxRecDepth 100000
set_option maxHeartbeats 4000000
namespace MB
open PySem PySem.Spec PyProof.Rows L2
mutual
theorem Dp.flat {K : PySem.W.Frag} {H : Hp} : ∀ (d : PyData) (v : V), Dp K H v d → d.hasDict = false
  | .none, _, _ => by simp only [PyData.hasDict]
  | .bool _, _, _ => by simp only [PyData.hasDict]
  | .int _, _, _ => by simp only [PyData.hasDict]
  | .str _, _, _ => by simp only [PyData.hasDict]
  | .list ds, _, h => by
    cases h with
    | lst _ ha =>
      simp only [PyData.hasDict]
      exact Dp.flats ds _ ha
  | .tuple ds, _, h => by
    cases h with
    | tup _ ha =>
      simp only [PyData.hasDict]
      exact Dp.flats ds _ ha
  | .dict _, _, h => by cases h
theorem Dp.flats {K : PySem.W.Frag} {H : Hp} : ∀ (ds : List PyData) (vs : List V), DpAll K H vs ds → PyData.hasDictAll ds = false
  | [], _, _ => by simp only [PyData.hasDictAll]
  | d :: ds, _, h => by
    cases h with
    | cons h1 h2 =>
      simp only [PyData.hasDictAll]
      rw [Dp.flat d _ h1, Dp.flats ds _ h2]
      rfl
end
def rRepr (K : PySem.W.Frag) : List V → Hp → VK → Prop := fun xs H Q => ∃ x d, xs = [x] ∧ Dp K H x d ∧
  d.showable = true ∧ d.depth ≤ 60 ∧ d.shown.length ≤ sizeLine ∧ Q (.str d.shown) H
theorem call_repr {X : Cx} (hgu : X.A.guards = some []) (hu : X.A.units + 64 < cLine) : CallR X (.builtin "repr") (rRepr X.K) := by
  intro pins s σ H xs us Q I r h
  obtain ⟨x, d, rfl, hd, hs, hz, hl, q⟩ := h
  obtain ⟨u, rfl, ru⟩ := vals1 r
  have hu1 : X.A.units + 1 < cLine := by omega
  cases hd with
  | non =>
    cases ru
    simp only [PyData.shown] at q
    exact PySem.P.repr_of_none ⟨.str _, H, I.tok _, ⟨_, rfl⟩, q⟩
  | bl b =>
    cases ru
    simp only [PyData.shown] at q
    exact PySem.P.repr_of_bool ⟨.str _, H, I.tok _, ⟨_, rfl⟩, q⟩
  | int i =>
    obtain ⟨t, rfl⟩ := ru
    simp only [PyData.shown] at q
    simp only [PyData.showable, decide_eq_true_eq] at hs
    exact PySem.P.repr_of_int hs ⟨.str _, H, I.tok _, ⟨_, rfl⟩, q⟩
  | str z =>
    obtain ⟨t, rfl⟩ := ru
    simp only [PyData.shown] at q hl
    exact PySem.P.repr_of_str ⟨.str _, H, I.tok _, ⟨_, rfl⟩, q⟩ hl
  | @lst a ys ds h1 h2 =>
    obtain ⟨as, rd⟩ := Dp.reads I _ _ _ (Dp.lst h1 h2) ru
    cases ru
    refine repr_of_reads' rd hs (PyData.noDict_hsm (Dp.flat _ _ (Dp.lst h1 h2))) hgu (by omega) (fun _ _ e => e) (fun h' u tk k => ?_) hl
    exact ⟨.str _, H, I.kept (t' := tk) k, ⟨_, rfl⟩, q⟩
  | @tup a ys ds h1 h2 =>
    obtain ⟨as, rd⟩ := Dp.reads I _ _ _ (Dp.tup h1 h2) ru
    cases ru
    refine repr_of_reads' rd hs (PyData.noDict_hsm (Dp.flat _ _ (Dp.tup h1 h2))) hgu (by omega) (fun _ _ e => e) (fun h' u tk k => ?_) hl
    exact ⟨.str _, H, I.kept (t' := tk) k, ⟨_, rfl⟩, q⟩
theorem adj_back (n : Nat) : Builtin.Slice.sliceAdjust none none (-1) (n : Int) = ((n : Int) - 1, -1) := rfl
theorem places_back (n : Nat) : Builtin.Slice.slicePlaces ((n : Int) - 1) (-1) (-1) = n := by
  unfold Builtin.Slice.slicePlaces
  rw [if_neg (by decide)]
  split
  · have e : (-(-1) : Int) = 1 := rfl
    rw [e, Int.ediv_one]
    omega
  · omega
theorem picked_back (xs : Array Value) :
    ((List.range xs.size).filterMap fun (k : Nat) => xs[(((xs.size : Nat) : Int) - 1 + (k : Int) * (-1)).toNat]?) = xs.toList.reverse := by
  have e : ∀ k ∈ List.range xs.size, xs[(((xs.size : Nat) : Int) - 1 + (k : Int) * (-1)).toNat]? = xs[xs.size - 1 - k]? := by
    intro k hk
    have := List.mem_range.mp hk
    have z : (((xs.size : Nat) : Int) - 1 + (k : Int) * (-1)).toNat = xs.size - 1 - k := by omega
    rw [z]
  have fc : ∀ (l : List Nat) (f g : Nat → Option Value), (∀ k ∈ l, f k = g k) → l.filterMap f = l.filterMap g := by
    intro l f g
    induction l with
    | nil => intro _; rfl
    | cons z r ih =>
      intro hh
      rw [List.filterMap_cons, List.filterMap_cons, hh z List.mem_cons_self, ih fun k hk => hh k (List.mem_cons_of_mem _ hk)]
  rw [fc _ _ _ e]
  have e2 : (List.range xs.size).filterMap (fun k => xs[xs.size - 1 - k]?) = ((List.range xs.size).map fun k => xs.size - 1 - k).filterMap (fun k => xs[k]?) := by
    rw [List.filterMap_map]
    rfl
  rw [e2, PySem.W.krv_range, List.filterMap_reverse]
  have := PySem.W.krv_all xs
  rw [this]
section
variable {prog : Program} {w : World} {A : Around} {E : Value → Shared → Prop} {s : Shared}
theorem getItem_tup_back {t sl : Addr} {items : Array Value} {vl vu vk : Value} {Q : Value → Shared → Prop} (ht : IsTup s.heap t items)
    (hs : s.heap.IsSliceOf sl vl vu vk) (pl : IsPart vl none) (pu : IsPart vu none) (pk : IsPart vk (some (-1))) (hz : items.size ≤ sizeLine)
    (h : Q (.ref s.heap.objs.size) { s with heap := s.heap.push { cls := .type "tuple", data := .seq items.toList.reverse.toArray } }) :
    wpAny (model prog w) A (getItem (.ref t) (.ref sl)) Q E s := by
  have okz : sizeOk (.seq items.toList.reverse.toArray) := by
    show items.toList.reverse.toArray.size ≤ sizeLine
    rw [List.size_toArray, List.length_reverse, Array.length_toList]
    exact hz
  obtain ⟨os, hos, hcs, hds⟩ := id hs
  have hT : s.TypeIs (.ref sl) "slice" := ⟨os, hos, hcs⟩
  unfold getItem
  try with_reducible refine wpAny_holding ?_
  first
    | refine wpAny_bind (wpAny_pure ?_)
    | skip
  refine wpAny_bind (wpAny_sequenceKey ht.typeIs (by decide) ?_)
  refine wpAny_bind (wpAny_callSpecial?_slot (name := Str.ofString "__getitem__") ht.typeIs slot_tuple_getitem
    (wpAny_call_entry slot_tuple_getitem ht.typeIs PyProof.Rows.entry_tuple_getitem ?_ (PyProof.Rows.args_tuple_getitem _ _)))
  show wpAny _ _ (Builtin.Tuple.tupleItemsOf (.ref t) >>= _) _ _ s
  refine wpAny_bind (PyProof.Rows.tupleItemsOf_ ht ?_)
  refine wpAny_bind (wpAny_typeOf hT ?_)
  rw [if_pos (by decide)]
  have sa : ∀ {Q' : Int × Int × Nat → Shared → Prop} {E' : Value → Shared → Prop} {A' : Around}, Q' (((items.size : Nat) : Int) - 1, -1, items.size) s →
      wpAny (model prog w) A' (Builtin.Slice.sliceApplied (.ref sl) (pure ((items.size : Nat) : Int))) Q' E' s := by
    intro Q' E' A' q
    unfold Builtin.Slice.sliceApplied Builtin.Slice.sliceFields
    refine wpAny_bind (wpAny_bind (wpAny_field hos hds (x := vl) rfl (wpAny_bind
      (wpAny_field hos hds (x := vu) rfl (wpAny_bind (wpAny_field hos hds (x := vk) rfl (wpAny_pure ?_)))))))
    refine wpAny_bind (HT.slicePart_ pk ?_)
    show wpAny _ _ (if ((-1 : Int) == 0) = true then _ else _) _ _ s
    rw [if_neg (by decide)]
    refine wpAny_bind (HT.slicePart_ pl (wpAny_bind (HT.slicePart_ pu (wpAny_bind (wpAny_pure ?_)))))
    show wpAny _ _ (match Builtin.Slice.sliceAdjust none none (-1) ((items.size : Nat) : Int) with
      | (lo, hi) => pure (lo, (-1 : Int), Builtin.Slice.slicePlaces lo hi (-1))) _ _ s
    rw [adj_back]
    show wpAny _ _ (pure (((items.size : Nat) : Int) - 1, (-1 : Int), Builtin.Slice.slicePlaces (((items.size : Nat) : Int) - 1) (-1) (-1))) _ _ s
    rw [places_back]
    exact wpAny_pure q
  refine wpAny_bind (sa ?_)
  have hno : ¬ (((((items.size : Nat) : Int) - 1 == 0) && ((-1 : Int) == 1) && (items.size == items.size)) = true) := by
    intro q
    rw [Bool.and_eq_true, Bool.and_eq_true] at q
    exact absurd (eq_of_beq q.1.2) (by decide)
  show wpAny _ _ (if ((((items.size : Nat) : Int) - 1 == 0) && ((-1 : Int) == 1) && (items.size == items.size)) = true then _ else _) _ _ s
  rw [if_neg hno, picked_back]
  first
    | exact wpAny_bind (m := Builtin.Tuple.tupleExact _) (wpAny_newObj_type (wpAny_pure ⟨_, rfl, wpAny_pure h⟩) okz)
    | exact wpAny_bind (m := Builtin.Tuple.tupleExact _) (wpAny_newObj_type (wpAny_bind (wpAny_pure (wpAny_pure ⟨_, rfl, wpAny_pure h⟩))) okz)
    | exact wpAny_bind (wpAny_bind (m := Builtin.Tuple.tupleExact _) (wpAny_newObj_type (wpAny_pure (wpAny_pure ⟨_, rfl, wpAny_pure h⟩)) okz))
    | exact wpAny_bind (wpAny_bind (m := Builtin.Tuple.tupleExact _) (wpAny_newObj_type (wpAny_pure ⟨_, rfl, wpAny_pure h⟩) okz))
end
def tRevT (K : PySem.W.Frag) (te : TE) : TE := fun σ H Q => te σ H fun x H1 => ∃ a xs, x = .ref a ∧ SqT K H1 a xs ∧
  ∀ p, H1 p = none → Q (.ref p) (upd H1 p (.tup xs.reverse))
theorem pe_revT {X : Cx} {e : Expr} {te : TE} {k : Nat} {p1 p2 p3 pos : Pos} (he : PE X e te) :
    PE X (.Subscript e (.Slice none none (some (.UnaryOp .USub (.Constant (.int 1) k p1) p2)) p3) pos) (tRevT X.K te) := by
  refine ⟨fun pins s σ H Q I h => ?_⟩
  refine Subscript_ (thn (he.run pins s σ H _ I h) fun v s1 ⟨x, H1, I1, r1, q1⟩ => ?_)
  obtain ⟨a, xs, rfl, hx, q⟩ := q1
  cases r1
  have back : PO X (some (.UnaryOp .USub (.Constant (.int 1) k p1) p2)) (tPart (tUn (rU fun i => .int (-i)) (tC (.int 1)))) :=
    po_some (pe_un un_neg pe_int)
  refine wpAny_Slice (thn (po_none.run pins s1 σ H1 (fun o H2 => o = none ∧ H2 = H1) I1 ⟨rfl, rfl⟩) fun vl s2 ⟨l, H2, I2, pl, el, e2⟩ => ?_)
  subst el e2
  refine thn (po_none.run pins s2 σ H2 (fun o H3 => o = none ∧ H3 = H2) I2 ⟨rfl, rfl⟩) fun vu s3 ⟨u, H3, I3, pu, eu, e3⟩ => ?_
  subst eu e3
  refine thn (back.run pins s3 σ H3 (fun o H4 => o = some (-1) ∧ H4 = H3) I3 ⟨1, rfl, -1, rfl, rfl, rfl⟩) fun vk s4 ⟨o, H4, I4, pk, eo, e4⟩ => ?_
  subst eo e4
  have I5 : Inv X pins σ H4 { s4 with heap := s4.heap.push { cls := .type "slice", data := .fields #[vl, vu, vk] } } :=
    I4.kept (t' := s4.toks) fun b ob z => Heap.get?_push_of_some _ z
  obtain ⟨its, r, ht, hz⟩ := I5.tuple hx
  have hlen := r.length
  show wpAny (model X.prog X.w) X.A (subscriptTail e (.Slice none none (some (.UnaryOp .USub (.Constant (.int 1) k p1) p2)) p3)
    (.ref a) (.ref s4.heap.objs.size)) (EP X pins σ Q) X.xe { s4 with heap := s4.heap.push { cls := .type "slice", data := .fields #[vl, vu, vk] } }
  refine tail_any (ops := [.ref a, .ref s4.heap.objs.size]) ht.typeIs slot_tuple_getitem.lookup ?_ (by with_unfolding_all rfl)
  refine getItem_tup_back ht (Heap.IsSliceOf.new _ vl vu vk) pl pu pk (by rw [List.size_toArray]; omega) ?_
  refine ⟨.ref _, _, I5.laid (t' := s4.toks) (o := .tup xs.reverse) (fun b ob z => Heap.get?_push_of_some _ z) (Nat.le_refl _) ?_, rfl,
    q _ (I5.hok.fresh (Nat.le_refl _))⟩
  exact ⟨by rw [List.length_reverse]; omega, _, r.reverse, IsTup.new _ _⟩
section
variable {K : PySem.W.Frag} {a b : Addr} {xs ys : List V}
theorem walk_zipT {n : Nat} (hn : n = min xs.length ys.length) :
    Walk (RZ.ItzT K a b) n (fun H => SqT K H a xs ∧ SqT K H b ys) (YPair (fun i => xs[i]?) (fun i => ys[i]?)) := by
  subst hn
  refine ⟨fun i _ hi q => ?_, fun _ q => ⟨xs, ys, q.1, q.2, by omega⟩, fun i H v H' _ q y => ?_⟩
  · have h1 : i < xs.length := by omega
    have h2 : i < ys.length := by omega
    exact ⟨xs, ys, xs[i], ys[i], q.1, q.2, by simp [h1], by simp [h2]⟩
  · obtain ⟨T, x, z, h1, h2, h3, h4, h5⟩ := y
    exact ⟨T, x, z, h1, h2, h3, h4 xs q.1, h5 ys q.2⟩
theorem walk_revT : Walk (RT.ItvT K a xs.length) xs.length (fun H => SqT K H a xs) (fun i H x H' => H' = H ∧ xs[xs.length - 1 - i]? = some x) := by
  refine ⟨fun i _ hi q => ⟨hi, xs, xs[xs.length - 1 - i]'(by omega), q, by simp [show xs.length - 1 - i < xs.length by omega]⟩, fun _ _ => Nat.le_refl _, ?_⟩
  intro i H x H' _ q y
  exact ⟨y.1, y.2 xs q⟩
end
end MB
end
section
set_option maxRecDepth 100000
set_option maxHeartbeats 4000000
namespace MB
open PySem PySem.Spec PyProof.Rows L2
theorem mul_once (l : Addr) (items : Array Value) (n : Nat) (dd : Option Addr) (sl : Array (Option Value)) (u : Tok) :
    Meets (Builtin.«tuple.__mul__» ⟨[.ref l, .int 1 u], []⟩) (fun _ R s =>
      s.heap.get? l = some { cls := .type "tuple", dict := dd, data := .seq items n, slots := sl } ∧ R (.ok (.ret (.ref l))) s) :=
  .of_wp fun prog w A R s h => by
    obtain ⟨hp, g, d, tk, os⟩ := s
    obtain ⟨hl, h⟩ := h
    have f1 := AutoSeq1.idx_int
    wp_walk using wpAny_loadPart' hl
    repeat (first
      | (refine wpAny_ite_false (by decide) ?_; wp_walk using wpAny_loadPart' hl)
      | (refine wpAny_ite_true (by simp) ?_; wp_walk using wpAny_loadPart' hl))
    all_goals exact ⟨_, rfl, h⟩
theorem mul_none (l : Addr) (items : Array Value) (n : Nat) (dd : Option Addr) (sl : Array (Option Value)) (x : Int) (u : Tok)
    (c0 : (decide (x < -(2 ^ 63)) || decide (x ≥ 2 ^ 63)) = false) (c1 : (items.isEmpty || x == 1) = false) (c2 : (decide (x ≤ 0) || items.isEmpty) = true) :
    Meets (Builtin.«tuple.__mul__» ⟨[.ref l, .int x u], []⟩) (fun _ R s =>
      s.heap.get? l = some { cls := .type "tuple", dict := dd, data := .seq items n, slots := sl } ∧
      R (.ok (.ret (Value.ref s.heap.objs.size))) { s with heap := s.heap.push { cls := Value.type "tuple", data := Data.seq #[] }, toks := s.toks }) :=
  .of_wp fun prog w A R s h => by
    obtain ⟨hp, g, d, tk, os⟩ := s
    obtain ⟨hl, h⟩ := h
    have f1 := AutoSeq1.idx_int
    wp_walk using wpAny_loadPart' hl
    repeat (first
      | (refine wpAny_ite_false (decide_eq_false (by rw [c0]; exact Bool.false_ne_true)) ?_; wp_walk using wpAny_loadPart' hl)
      | (refine wpAny_ite_false (decide_eq_false (by rw [c1]; exact Bool.false_ne_true)) ?_; wp_walk using wpAny_loadPart' hl)
      | (refine wpAny_ite_true (decide_eq_true c2) ?_; wp_walk using wpAny_loadPart' hl))
    exact ⟨_, rfl, h⟩
def rRepA (K : PySem.W.Frag) : R2 := fun x y H Q => ∃ l k xs, x = .ref l ∧ y = .int k ∧ SqT K H l xs ∧ xs ≠ [] ∧ -(2 ^ 63) ≤ k ∧ k ≤ 1000 ∧ xs.length ≤ 1000 ∧
  (k = 1 → Q (.ref l) H) ∧ (k ≠ 1 → ∀ p, H p = none → Q (.ref p) (upd H p (.tup (List.replicate k.toNat xs).flatten)))
theorem op_repA {X : Cx} : OpR X (binaryOp .Mult) (rRepA X.K) := by
  intro pins s σ H x y v u Q I rx ry h
  obtain ⟨l, k, xs, rfl, rfl, hT, hne, h0, h2, hz, q1, qn⟩ := h
  by_cases hbig : 2 ≤ k
  · exact op_repT pins s σ H _ _ v u Q I rx ry ⟨l, k, xs, rfl, rfl, hT, hne, hbig, h2, hz, qn (by omega)⟩
  · cases rx
    obtain ⟨t, rfl⟩ := ry
    obtain ⟨its, r, ⟨⟨cls, dd, data, sl⟩, ho, hc, n, hd⟩, hs⟩ := I.tuple hT
    simp only at hc hd
    subst hc hd
    have hle : its.length = xs.length := r.length.symm
    have hi : its.toArray.isEmpty = false := by
      cases its with
      | nil => exact absurd (List.eq_nil_of_length_eq_zero hle.symm) hne
      | cons _ _ => rfl
    refine wpAny_binaryOp_repeat_ref (T := "tuple") (U := "int") (by decide) ⟨_, ho, rfl⟩ (fun s' => typeIs_int s' k t) noFill_tuple_mul
      F.fills_int_mul F.slot_int_rmul repeat_tuple F.slot_int_index.lookup (call_meets F.slot_int_rmul (typeIs_int s k t) F.entry_int_rmul
        (F.args_int_rmul_2 _ _) (int_rmul_tuple k t l its.toArray n dd sl) ⟨ho, rfl, ⟨_, ho, rfl⟩, ?_⟩)
    by_cases h1 : k = 1
    · subst h1
      exact call_meets F.slot_tuple_mul ⟨_, ho, rfl⟩ F.entry_tuple_mul (F.args_tuple_mul_2 _ _) (mul_once l its.toArray n dd sl t)
        ⟨ho, .ref l, H, I, rfl, q1 rfl⟩
    · have c0 : (decide (k < -(2 ^ 63)) || decide (k ≥ 2 ^ 63)) = false := by
        rw [decide_eq_false (by omega), decide_eq_false (by omega)]
        rfl
      have c1 : (its.toArray.isEmpty || k == 1) = false := by
        rw [hi, Bool.false_or]
        exact beq_eq_false_iff_ne.mpr h1
      have c2 : (decide (k ≤ 0) || its.toArray.isEmpty) = true := by
        rw [decide_eq_true (by omega)]
        rfl
      refine call_meets F.slot_tuple_mul ⟨_, ho, rfl⟩ F.entry_tuple_mul (F.args_tuple_mul_2 _ _) (mul_none l its.toArray n dd sl k t c0 c1 c2) ⟨ho, ?_⟩
      have e0 : (List.replicate k.toNat xs).flatten = [] := by
        rw [show k.toNat = 0 by omega]
        rfl
      have q := qn h1
      rw [e0] at q
      refine ⟨.ref s.heap.objs.size, _, I.laid (t' := s.toks) (o := .tup []) (fun b ob z => Heap.get?_push_of_some _ z) (Nat.le_refl _) ?_, rfl,
        q _ (I.hok.fresh (Nat.le_refl _))⟩
      exact ⟨Nat.zero_le _, [], .nil, IsTup.new _ _⟩
end MB
end
section
set_option maxRecDepth 100000
set_option maxHeartbeats 4000000
namespace MB
open PySem PySem.Spec PyProof.Rows L2
open AutoSeq1 (wpAny_loadPart')
abbrev tupIt (t : Addr) : Obj := { cls := .type "tuple_iterator", data := .fields #[.ref t, .int 0 0] }
abbrev enumObj (it : Addr) : Obj := { cls := .type "enumerate", data := .fields #[.none, .bool false, .ref it, rawInt 0, .none, .none] }
theorem new_enum_tup (l : Addr) (items : Array Value) (n : Nat) (dct : Option Addr) (sl : Array (Option Value)) :
    Meets (Builtin.«enumerate.__new__» ⟨[.type "enumerate", .ref l], []⟩) (fun _ R s =>
      s.heap.get? l = some { cls := .type "tuple", dict := dct, data := .seq items n, slots := sl } ∧
      R (.ok (.ret (.ref (s.heap.push (tupIt l)).objs.size))) { s with heap := (s.heap.push (tupIt l)).push (enumObj s.heap.objs.size) }) :=
  .of_wp fun prog w A R s h => by
    obtain ⟨hp, g, d, tk, os⟩ := s
    obtain ⟨hl, h⟩ := h
    have hsub := sub_enumerate
    have hL : Heap.IsTuple (Shared.heap ⟨hp, g, d, tk, os⟩) l items := ⟨_, hl, rfl, n, rfl⟩
    wp_walk using wpAny_loadPart' hl
    refine wpAny_stack_any fun st => wpAny_pure ?_
    split
    · rename_i c _ _ _ _ _
      cases (c == Value.type "enumerate") <;>
      · wp_walk using wpAny_loadPart' hl, wpAny_pyIter_tuple hL
        exact ⟨_, rfl, h⟩
    · wp_walk using wpAny_loadPart' hl, wpAny_pyIter_tuple hL
      exact ⟨_, rfl, h⟩
section
variable {prog : Program} {w : World} {A : Around} {E : Value → Shared → Prop} {s : Shared}
theorem call_enum_tup {l : Addr} {items : Array Value} {Q : Value → Shared → Prop} (hL : s.heap.IsTuple l items)
    (h : ∀ h', IsEnum h' (s.heap.objs.size + 1) s.heap.objs.size 0 .none → h'.IsTupleIter s.heap.objs.size l 0 →
      (∀ b o, s.heap.get? b = some o → h'.get? b = some o) → Q (.ref (s.heap.objs.size + 1)) { s with heap := h' }) :
    wpAny (model prog w) A (call (.type "enumerate") [.ref l]) Q E s := by
  obtain ⟨⟨c, dct, dt, sl⟩, hl, hc, n, hd⟩ := hL
  replace hc : c = .type "tuple" := hc
  replace hd : dt = .seq items n := hd
  subst hc hd
  refine callType_new F.called_enumerate (by decide) (F.typeCall_enumerate_1 _) (F.newCall_enumerate_1 _)
    (fun obj => F.args_object_init_2 obj _) F.entry_enumerate_new (new_enum_tup l items n dct sl) ⟨hl, ?_⟩
  have hz : (s.heap.push (tupIt l)).objs.size = s.heap.objs.size + 1 := Heap.size_push ..
  show _ ∧ _
  rw [hz]
  have he : IsEnum ((s.heap.push (tupIt l)).push (enumObj s.heap.objs.size)) (s.heap.objs.size + 1) s.heap.objs.size 0 .none := by
    have q := Heap.get?_push_size (s.heap.push (tupIt l)) (o := enumObj s.heap.objs.size) rfl
    rw [hz] at q
    exact q
  exact ⟨⟨_, he, rfl⟩, h _ he ⟨_, Heap.get?_push_of_some _ (Heap.get?_push_size _ rfl), rfl, rfl⟩
    fun b o x => Heap.get?_push_of_some _ (Heap.get?_push_of_some _ x)⟩
end
def IteT (K : PySem.W.Frag) (a : Addr) : It :=
  ⟨fun i H => ∃ (xs : List V) (x : V), SqT K H a xs ∧ xs[i]? = some x,
   fun i H v H' => ∃ T x, v = .ref T ∧ H T = none ∧ H' = upd H T (.tup [.int (i : Nat), x]) ∧ ∀ xs, SqT K H a xs → xs[i]? = some x,
   fun i H => ∃ xs : List V, SqT K H a xs ∧ xs.length = i⟩
theorem turn_enumT {P : Program} {w : World} {K : PySem.W.Frag} {elts : List Expr} {kk : Nat} {tpos : Pos} (a e it : Addr) (hai : a ≠ it) (hae : a ≠ e) :
    Turn P w K (.Tuple elts kk tpos) (IteT K a) [e, it] e
      (fun i h => (∃ old, IsEnum h e it ((i : Nat) : Int) old) ∧ h.IsTupleIter it a i ∧ e ≠ it) where
  mem := by simp
  obj := fun i h st b hb => by
    obtain ⟨⟨old, he⟩, ⟨o, ho, hc, hd⟩, _⟩ := st
    have hb' : b = e ∨ b = it := by simpa using hb
    rcases hb' with z | z
    · subst z
      exact ⟨_, he, fun v q => nomatch q⟩
    · subst z
      exact ⟨o, ho, fun v q => by rw [hd] at q; cases q⟩
  keep := fun i h h' st k => by
    obtain ⟨⟨old, he⟩, hi, hne⟩ := st
    exact ⟨⟨old, k e (by simp) _ he⟩, hi.at fun o q => k it (by simp) o q, hne⟩
  item := by
    intro X hP hw hK hc i pins s σ H E I hf st hg
    subst hP hw hK
    obtain ⟨⟨old, he⟩, hit, hne⟩ := st
    obtain ⟨xs, x, hq, hx⟩ := hg
    obtain ⟨its, rv, p, hz⟩ := I.tuple hq
    obtain ⟨u, hu, ru⟩ := rv.get hx
    have hel : e < s.heap.objs.size := Heap.lt_size he
    have hil : it < s.heap.objs.size := by
      obtain ⟨_, q, _⟩ := hit
      exact Heap.lt_size q
    have hlt : i < its.toArray.size := by
      rw [List.size_toArray]
      exact (List.getElem?_eq_some_iff.mp hu).1
    have hh : X.A.in1.handled = none := I.ok.hd hc
    refine wpAny_pyNext_enum_itemD (Draws.tuple hh it a hai its.toArray) he ⟨hit, p⟩ hlt hne (by simp [hne, Ne.symm hae]) fun y h' tk hy ho hst hT hsz hk => ?_
    have eyu : y = u := by
      have z : its.toArray[i]? = some u := by simpa using hu
      rw [z] at hy
      exact (Option.some.inj hy).symm
    subst eyu
    refine ⟨_, rfl, wpAny_letOwnedTupleGo_enum (s := { s with heap := h', toks := tk + 1 }) ho fun h'' he' sb => ?_⟩
    have hT2 : h''.get? s.heap.objs.size = some { cls := .type "tuple", data := .seq #[.int i tk, y] } :=
      (sb.2 _ (Nat.ne_of_gt hel)).trans hT
    have new : ObjOk X.prog X.w (upd H s.heap.objs.size (.tup [.int (i : Nat), x])) h'' s.heap.objs.size (.tup [.int (i : Nat), x]) :=
      ⟨(by decide : 2 ≤ sizeLine), [.int i tk, y], .cons ⟨_, rfl⟩ (.cons ru .nil), ⟨_, hT2, rfl, _, rfl⟩⟩
    have I1 : Inv X pins σ (upd H s.heap.objs.size (.tup [.int (i : Nat), x])) { s with heap := h'', toks := tk + 1 } :=
      I.turnedNew (ch := [e, it]) (fun b ob hb q => (sb.2 b (fun z => hb (by simp [z]))).trans
        (hk b ob (fun z => hb (by simp [z])) (fun z => hb (by simp [z])) q)) hf (Nat.le_refl _) new
    refine ⟨.ref s.heap.objs.size, _, I1, rfl, ⟨_, x, rfl, I.hok.fresh (Nat.le_refl _), rfl, fun ys hy => by rw [I.tuple_inj hy hq]; exact hx⟩,
      ⟨⟨y, ?_⟩, hst.1.at fun o q => (sb.2 it (Ne.symm hne)).trans q, hne⟩, fun b hb => ?_⟩
    · have e1 : ((i + 1 : Nat) : Int) = (i : Int) + 1 := by omega
      rw [e1]
      exact he'
    · have hb' : b < s.heap.objs.size := by
        have z : b = e ∨ b = it := by simpa using hb
        rcases z with z | z <;> subst z <;> assumption
      rw [upd_ne (Nat.ne_of_lt hb')]
      exact (hf b hb).1
  done := by
    intro X hP hw hK hc i pins s σ H E I hf st hg
    subst hP hw hK
    obtain ⟨⟨old, he⟩, hit, hne⟩ := st
    obtain ⟨xs, hq, hx⟩ := hg
    obtain ⟨its, rv, p, hz⟩ := I.tuple hq
    obtain ⟨f0, f1, f2, f3, f4, f5⟩ := hf it (by simp)
    have hn : its.toArray.size = i := by
      rw [List.size_toArray, ← rv.length]
      exact hx
    rw [← hn] at hit
    have hh : X.A.in1.handled = none := I.ok.hd hc
    exact wpAny_pyNext_enum_endD (Draws.tuple hh it a hai its.toArray) he ⟨hit, p⟩
      fun h' eb => ⟨rfl, I.turned (t' := s.toks) (fun b o hb q => eb b o hb q) f0 f1 f3 f4 f5⟩
  self := fun A i s Q E st h => by
    obtain ⟨⟨_, he⟩, _⟩ := st
    exact wpAny_pyIter_enum he h
def iEnumT (K : PySem.W.Frag) (ta : TA) : TI := fun σ H R => ta σ H fun vs H1 => ∃ a xs, vs = [.ref a] ∧ SqT K H1 a xs ∧ R (IteT K a) H1
theorem pi_enumT {X : Cx} {e : Expr} {ta : TA} {p pos tpos : Pos} {elts : List Expr} {kk : Nat} (hg : Gl X "enumerate") (hm : X.mg "enumerate" = none)
    (ha : PA X [e] ta) (hs : starEach [e] X.env = [(false, eval e X.env)] := by rfl) :
    PI X (.Tuple elts kk tpos) (.Call (.Name "enumerate" p) [e] [] pos) (iEnumT X.K ta) := by
  refine ⟨fun pins s σ H R I h => ?_⟩
  refine Call_ (ld_blt I hg hm boot_enumerate (callWith_type1 (thn (ha.run pos pins s σ H _ I h) fun us s1 ⟨vs, H1, I1, r1, q1⟩ => ?_) hs rfl))
  obtain ⟨a, xs, ex, hq, q⟩ := q1
  subst ex
  obtain ⟨u, rfl, r⟩ := vals1 r1
  cases r
  obtain ⟨its, rv, p', hz⟩ := I1.tuple hq
  have hal : a < s1.heap.objs.size := p'.lt
  refine call_enum_tup p' fun h' he hit hk => wpAny_pyIter_enum he ?_
  have I2 : Inv X pins σ H1 { s1 with heap := h' } := I1.kept (t' := s1.toks) hk
  refine ⟨s1.heap.objs.size + 1, [s1.heap.objs.size + 1, s1.heap.objs.size], _, _, H1, rfl, I2,
    turn_enumT a (s1.heap.objs.size + 1) s1.heap.objs.size (Nat.ne_of_lt hal) (Nat.ne_of_lt (Nat.lt_succ_of_lt hal)),
    ⟨⟨.none, he⟩, hit, Nat.succ_ne_self _⟩, fun b hb => ?_, q⟩
  have hle : s1.heap.objs.size ≤ b := by
    have z : b = s1.heap.objs.size + 1 ∨ b = s1.heap.objs.size := by simpa using hb
    rcases z with z | z
    · rw [z]
      exact Nat.le_succ _
    · rw [z]
      exact Nat.le_refl _
  exact I1.fpOk hle (I1.hok.fresh hle)
theorem walk_enumT {K : PySem.W.Frag} {a : Addr} {xs : List V} :
    Walk (IteT K a) xs.length (fun H => SqT K H a xs) (YPair (fun i => some (.int (i : Nat))) (fun i => xs[i]?)) := by
  refine ⟨fun i _ hi q => ⟨xs, xs[i], q, by simp [hi]⟩, fun _ q => ⟨xs, q, rfl⟩, fun i H v H' _ q y => ?_⟩
  obtain ⟨T, x, h1, h2, h3, h4⟩ := y
  exact ⟨T, .int (i : Nat), x, h1, h2, h3, rfl, h4 xs q⟩
end MB
end
section
set_option maxRecDepth 100000
set_option maxHeartbeats 4000000
namespace MB
open PySem PySem.Spec PyProof.Rows L2
structure FnG (P : Program) (w : World) (K : PySem.W.Frag) (mg : Str → Option Value)
    (base : Heap) (k : Nat) (f : Addr) (fd : FuncData) (ps : List Str) (sp : Sp) : Prop where
  many : ∀ xs H Q E, sp xs H Q E → xs.length = ps.length
  goes : ∀ (A : Around) (outer : List Env) (s : Shared) (H : Hp) (args : Args)
    (us : List Value) (xs : List V) (Q : VK) (E : XK), Room k A → A.guards = some [] →
    Env0 P w K mg base A outer s H → BindsTo s fd args (ps.zip us) → Vals xs us →
    sp xs H Q E → codeAny (model P w) A (.call (.ref f) args) (CR CX0 outer P w H s Q E) s
section
variable {P : Program} {w : World} {K : PySem.W.Frag} {mg : Str → Option Value} {base : Heap}
variable {k : Nat} {f : Addr} {fd : FuncData} {ps : List Str} {sp : Sp}
theorem FnG.ofOk (F : FnOk P w K mg base CX0 k f fd ps sp) : FnG P w K mg base k f fd ps sp :=
  ⟨F.len, fun A outer s H args us xs Q E hr _ => F.run A outer s H args us xs Q E hr⟩
theorem fnG {x qual : Str} {st : Stmt} {N : List Str} (F : Fun K x qual st f fd)
    (S : FnScope N ps (defScope st)) (many : ∀ xs H Q E, sp xs H Q E → xs.length = ps.length)
    (body : ∀ (cdv : Value) (A : Around) (outer : List Env) (s : Shared) (H : Hp) (xs : List V)
      (Q : VK) (E : XK),
      Room k (A.deeper (envOfC qual (defScope st) s.heap.objs.size f cdv)) → A.guards = some [] →
      sp xs H Q E → ∃ t, PSs (cxOf CX0 P w K mg base N qual (defScope st) f cdv A outer s H E).nox (defBody st) t ∧
        t { nx := fun _ H' => Q .non H', rt := Q } (start N xs) H) :
    FnG P w K mg base (k + 1) f fd ps sp := by
  obtain ⟨oc, od, kV, doc, pm, an, cdv, ct, osl, efd, lk, hcd⟩ := F.ex
  refine ⟨many, fun A outer s H args us xs Q E hr hgu e0 hb r hsp => ?_⟩
  subst efd
  have hlen := many _ _ _ _ hsp
  have KX : K.In s.heap := e0.mod.kin.keeps fun b o e => (e0.bs b o e).1
  have lim : s.heap.NoLimit := e0.mod.nolimit.keeps fun b o e => (e0.bs b o e).1
  have kinds : ∀ y ∈ ps.zip us, (defScope st).names.lookup y.1 = some .local ∨
      ((defScope st).names.lookup y.1 = some .cell ∧
        ((cellsFrom (s.heap.objs.size + 1) (defScope st).names []).lookup y.1).isSome = true) := by
    rintro ⟨n, v⟩ hy
    rcases S.par n (List.of_mem_zip hy).1 with q | q
    · exact Or.inl q
    · exact Or.inr ⟨q, PySem.W.cellsFrom_some _ _ _ (Or.inl q)⟩
  refine codeAny_call_function hr.depth (KX _ _ lk) rfl S.co S.gen rfl
    (PySem.W.codeRec_of KX hcd) (hb _ _ _ _ ?_)
  refine wpAny_newFunctionEnv_cells S.kind kinds fun env he s1 x => ?_
  subst he
  refine ⟨lim.keeps x.toInCall.keep, codeAny_func ?_⟩
  obtain ⟨t, ht, hq⟩ := body cdv A outer s H xs Q E (hr.deeper _) hgu hsp
  have I : Inv (cxOf CX0 P w K mg base N qual (defScope st) f cdv A outer s H E) [] (start N xs) H s1 :=
    inv_start S hr.hd e0 hlen r x
  refine wpAny_mono (ht.nox.run [] s1 (start N xs) H _ I hq) (fun fl s' hs => ?_) fun e s' hs => hs
  cases fl with
  | ret u =>
    obtain ⟨v, σ', H', J, rv, q⟩ := hs
    exact ⟨v, H', J.os, J.bare, J.base, J.hok, rv, q⟩
  | next =>
    obtain ⟨σ', H', J, q⟩ := hs
    exact ⟨V.non, H', J.os, J.bare, J.base, J.hok, rfl, q⟩
  | brk =>
    obtain ⟨_, _, _, q⟩ := hs
    exact False.elim q
  | cont =>
    obtain ⟨_, _, _, q⟩ := hs
    exact False.elim q
end
section
variable {X : Cx} {k : Nat} {f : Addr} {fd : FuncData} {ps ks : List Str} {sp : Sp}
variable {x : Str} {p pos : Pos} {e : Expr} {es : List Expr} {t : TA}
theorem runG {pins : List (Addr × Obj)} {σ : L2.St} {H : Hp} {s : Shared} {Q : VK} {us as : List Value}
    {xs : List V} {kw : List (Str × Value)} (F : FnG X.prog X.w X.K X.mg X.base k f fd ps sp) (hr : Room k X.A) (hgu : X.A.guards = some [])
    (hb : BindsTo s fd ⟨us, kw⟩ (ps.zip as)) (I : Inv X pins σ H s) (r : Vals xs as) (h : sp xs H Q E0) :
    wpAny (model X.prog X.w) X.A (call (.ref f) us kw) (EP X pins σ Q) X.xe s := by
  refine wpAny_call (codeAny_mono (F.goes X.A X.stack s H ⟨us, kw⟩ as xs Q E0 hr hgu I.env0 hb r h)
    fun q s' hq => ?_)
  cases q with
  | error e => exact hq.elim
  | ok fl =>
    cases fl with
    | ret u => exact I.after hq
    | next => exact False.elim hq
    | brk => exact False.elim hq
    | cont => exact False.elim hq
theorem pe_callG (F : FnG X.prog X.w X.K X.mg X.base k f fd ps sp) (hr : Room k X.A) (hgu : X.A.guards = some [])
    (hg : Gl X x) (hm : X.mg x = some (.ref f)) (hk : PySem.W.keepIn X.K (.ref f) = true) (hb : Binds X.K fd ps [])
    (ha : PA X (e :: es) t) (hdb : (x == ("__debug__" : Str)) = false := by decide)
    (he : starEach (e :: es) X.env = (false, eval e X.env) :: starEach es X.env := by rfl)
    (hpl : (backTo pos (starEach es X.env)).any (·.1) = false := by rfl) :
    PE X (.Call (.Name x p) (e :: es) [] pos) (tCall sp [] E0 t) := by
  refine ⟨fun pins s σ H Q I h => ?_⟩
  refine wpAny_Call_Name_kw (ld_glob I hg hm ?_ hdb)
  refine PySem.W.callWith_K (h₀ := X.base) I.ok.mod.kin hk
    (thn (ha.run pos pins s σ H _ I h) fun us s1 ⟨xs, H1, I1, r, q⟩ => ⟨I1.kIn, ?_⟩) he hpl
  have q' : sp (xs ++ []) H1 Q E0 := q
  rw [List.append_nil] at q'
  have hl : (us ++ ([] : List Value)).length = ps.length := by
    rw [List.append_nil, ← r.length]
    exact F.many _ _ _ _ q'
  have bb := hb s1 us I1.kIn hl
  rw [List.append_nil] at bb
  exact runG F hr hgu bb I1 r q'
end
theorem lawG_at {P : Program} {w : World} {K : PySem.W.Frag} {mg mb : Str → Option Value} {k : Nat} {fa a : Addr}
    {fd : FuncData} {x : Str} {sp : Sp} {s₁ : Shared} {us : List Value} {ns : List Int} {H : Hp}
    (KX : K.In s₁.heap) (hns : s₁.heap.Ns mainGlobals mg) (hb : s₁.heap.Ns builtinsNs mb)
    (hbb : ∀ x : Str, x ≠ "__name__" → mb x = bootBuiltins x) (hlim : s₁.heap.NoLimit) (hg : s₁.gens = #[])
    (ha : s₁.heap.get? a = some { cls := .type "list", data := .seq us.toArray }) (hr : Room k callerA)
    (F : ∀ base : Heap, K.In base → base.Ns mainGlobals mg → FnG P w K mg base k fa fd [x] sp)
    (hbind : ∀ (s : Shared) (u : Value), BindsTo s fd ⟨[u], []⟩ [(x, u)])
    (hsp : sp [.ref a] H (fun v _ => v = .bl true) E0) (hO : Only H) (hok : HOk P w H s₁.heap)
    (hA : ∀ b, H b ≠ none → b = a) (hK : H a ≠ none → K.lookup a = none) :
    codeAny (model P w) callerA (.call (.ref fa) ⟨[.ref a], []⟩)
      (fun r s' => r = .ok (.ret (.bool true)) ∧ OldK s₁.heap s'.heap ∧ s'.os = s₁.os ∧ AllBare s'.gens) s₁ := by
  have noA : ∀ {b : Addr} {o : Obj} {es : Array DictEntry} {ep : Nat},
      s₁.heap.get? b = some o → o.data = .dict es ep → H b = none := by
    intro b o es ep e d
    cases q : H b with
    | none => rfl
    | some u =>
      obtain rfl : b = a := hA b (by simp [q])
      rw [ha] at e
      cases e
      exact absurd d (by intro z; cases z)
  have nsK : ∀ {b : Addr} {m : Str → Option Value}, s₁.heap.Ns b m → (hidT s₁.heap H).Ns b m :=
    fun {b m} ⟨o, es, ep, e, d, r⟩ => ⟨o, es, ep, hidT_get e (noA e d), d, r⟩
  have hKb : K.In (hidT s₁.heap H) := by
    intro b o e
    refine hidT_get (KX b o e) ?_
    cases q : H b with
    | none => rfl
    | some u =>
      obtain rfl : b = a := hA b (by simp [q])
      rw [hK (by simp [q])] at e
      cases e
  have hM : Mod K mg (hidT s₁.heap H) :=
    ⟨hKb, nsK hns, ⟨mb, nsK hb, hbb⟩, let ⟨mc, h1, h2⟩ := hlim; ⟨mc, nsK h1, h2⟩⟩
  have e0 : Env0 P w K mg (hidT s₁.heap H) callerA [] s₁ H :=
    ⟨rfl, hM, fun b o e => of_hidT e, Nat.le_of_eq (hidT_size _ _), trivial,
      fun b hb => absurd (show b ∈ ([] : List Addr) from hb) (by simp), hok, .of_eq hg⟩
  refine codeAny_mono ((F _ hKb (nsK hns)).goes callerA [] s₁ H ⟨[.ref a], []⟩ [.ref a] [.ref a] _ _ hr rfl e0
    (hbind s₁ (.ref a)) (.cons rfl .nil) hsp) fun r s' h => ?_
  cases r with
  | error e => exact h.elim
  | ok fl =>
    cases fl with
    | next => exact False.elim h
    | brk => exact False.elim h
    | cont => exact False.elim h
    | ret u =>
      obtain ⟨v, H', os, bare, un, hok', r', q⟩ := h
      have q' : v = .bl true := q
      subst q'
      obtain rfl : u = Value.bool true := r'
      refine ⟨rfl, OldK.of_keep fun b o e => ?_, os, bare⟩
      cases q : H b with
      | none => exact un.keep b o e q (fun z => absurd (show b ∈ ([] : List Addr) from z) (by simp)) (by simp)
      | some u =>
        rcases hO b with z | ⟨ob, xs, z⟩
        · rw [q] at z
          cases z
        · obtain ⟨e1, _⟩ := hok b _ z
          obtain ⟨e2, _⟩ := hok' b _ (un.frzs b ob _ z)
          rw [e] at e1
          cases e1
          exact e2
theorem lawG_call {P : Program} {w : World} {K : PySem.W.Frag} {mg mb : Str → Option Value} {k : Nat} {fa a : Addr}
    {fd : FuncData} {x : Str} {sp : Sp} {s₁ : Shared} {us : List Value} {ns : List Int}
    (KX : K.In s₁.heap) (hns : s₁.heap.Ns mainGlobals mg) (hb : s₁.heap.Ns builtinsNs mb)
    (hbb : ∀ x : Str, x ≠ "__name__" → mb x = bootBuiltins x) (hlim : s₁.heap.NoLimit) (hg : s₁.gens = #[])
    (ha : s₁.heap.get? a = some { cls := .type "list", data := .seq us.toArray }) (hi : IntsAre us ns)
    (hl : ns.length ≤ sizeLine) (hr : Room k callerA)
    (F : ∀ base : Heap, K.In base → base.Ns mainGlobals mg → FnG P w K mg base k fa fd [x] sp)
    (hbind : ∀ (s : Shared) (u : Value), BindsTo s fd ⟨[u], []⟩ [(x, u)])
    (hsp : ∀ H : Hp, Only H → SqL K H a (ns.map V.int) → sp [.ref a] H (fun v _ => v = .bl true) E0) :
    codeAny (model P w) callerA (.call (.ref fa) ⟨[.ref a], []⟩)
      (fun r s' => r = .ok (.ret (.bool true)) ∧ OldK s₁.heap s'.heap ∧ s'.os = s₁.os ∧ AllBare s'.gens) s₁ := by
  have rv := vals_ints hi
  have len1 := hi.length
  cases hk : K.lookup a with
  | some o =>
    have e := KX a o hk
    rw [ha] at e
    cases e
    have hS : SqL K (fun _ => none) a (ns.map V.int) :=
      Or.inr ⟨_, us.toArray, _, hk, rfl, rfl, rfl, by rw [List.size_toArray, len1]; exact hl, by simpa using rv⟩
    exact lawG_at (H := fun _ => none) (ns := ns) KX hns hb hbb hlim hg ha hr F hbind
      (hsp _ (fun _ => Or.inl rfl) hS) (fun _ => Or.inl rfl)
      (fun b u z => by cases (show (none : Option HO) = some u from z)) (fun b z => absurd rfl z) fun z => absurd rfl z
  | none =>
    let ob : Obj := { cls := .type "list", data := .seq us.toArray }
    let H0 : Hp := fun b => if b = a then some (.frz ob (.lst (ns.map V.int))) else none
    have at0 : H0 a = some (.frz ob (.lst (ns.map V.int))) := if_pos rfl
    have off : ∀ b, b ≠ a → H0 b = none := fun b hb => if_neg hb
    have hO : Only H0 := fun b => by
      by_cases hb : b = a
      · subst hb
        exact Or.inr ⟨_, _, at0⟩
      · exact Or.inl (off b hb)
    have hok : HOk P w H0 s₁.heap := fun b u z => by
      by_cases hb : b = a
      · subst hb
        rw [at0] at z
        cases z
        exact ⟨ha, by rw [List.length_map]; exact hl, us, _, rv, ha⟩
      · rw [off b hb] at z
        cases z
    refine lawG_at (H := H0) (ns := ns) KX hns hb hbb hlim hg ha hr F hbind
      (hsp H0 hO (Or.inl (Or.inr ⟨_, at0⟩))) hO hok (fun b z => ?_) fun _ => hk
    by_cases hb : b = a
    · exact hb
    · exact absurd (off b hb) z
theorem walkG {l : PySem.W.OpenLaw} {n k : Nat} {q : Program} {loose : List Str}
    {XP : (Str → Option Value) → Heap → Prop} {YP : World → Heap → Prop} {d : DefRec}
    {K : Params → PySem.W.Frag} {sp : PySem.W.Frag → Sp} {x : Str} (hn : l.most = some n) (hn2 : n ≤ sizeLine)
    (hdf : d.params.defaults = []) (hr : Room k callerA) (hY : ∀ (w : World) (h : Heap), YP w h → (K w.params).In h)
    (F : ∀ (w : World) (mg : Str → Option Value) (fa : Addr) (h : Heap), (K w.params).In h → h.Ns mainGlobals mg →
      mg d.name = some (.ref fa) → ∃ fd : FuncData, (∀ (s : Shared) (u : Value), BindsTo s fd ⟨[u], []⟩ [(x, u)]) ∧
        ∀ base : Heap, (K w.params).In base → base.Ns mainGlobals mg →
          FnG l.prog w (K w.params) mg base k fa fd [x] (sp (K w.params)))
    (hsp : ∀ (K : PySem.W.Frag) (H : Hp) (a : Addr) (ns : List Int), ns.length ≤ n → Only H →
      SqL K H a (ns.map V.int) → sp K [.ref a] H (fun v _ => v = .bl true) E0) :
    PySem.W.WalkO q loose XP YP l.row.toRowW d [] (fun f vs => PySem.call f vs) := by
  refine Att.attach_call hn hdf fun w s₀ s₁ mg mb fa o pm cd doc a vs ns G Y ho hd hcd hmg hobj hints hlen hg => ?_
  have KX := hY w _ Y
  obtain ⟨fd, hb, hF⟩ := F w mg fa _ KX G.T.g hmg
  exact lawG_call KX G.T.g G.T.b G.T.builtins G.T.nolimit hg hobj hints (Nat.le_trans hlen hn2) hr hF hb
    fun H hO hS => hsp _ H a ns hlen hO hS
end MB
end
section
set_option maxRecDepth 100000
set_option maxHeartbeats 4000000
namespace MB
open PySem PySem.Spec PyProof.Rows L2
section
variable {α : Type}
def one1 : List α → List α → List α
  | [], [a] => [a]
  | _, _ => []
def two2 : List α → List α → List α
  | [], [a, b] => [a, b]
  | _, _ => []
def two2s : List α → List α → List α
  | [], [a, b] => [b, a]
  | _, _ => []
end
theorem kb1 {K : PySem.W.Frag} {fd : FuncData} {p : Str} (h : ∀ a : Value, bindArgs fd ⟨[], [(p, a)]⟩ = pure [(p, a)]) :
    KBinds K fd [p] [p] one1 one1 where
  to := fun s us ws _ hl => by
    match us, ws, hl with
    | [], [a], _ => exact .of_eq (h a)
  rel := fun {vs us zs ws} r rz => by
    cases r with
    | nil =>
      cases rz with
      | nil => exact .nil
      | cons r1 r2 =>
        cases r2 with
        | nil => exact .cons r1 .nil
        | cons _ _ => exact .nil
    | cons _ _ => exact .nil
theorem kb2 {K : PySem.W.Frag} {fd : FuncData} {p q : Str} (h : ∀ a b : Value, bindArgs fd ⟨[], [(p, a), (q, b)]⟩ = pure [(p, a), (q, b)]) :
    KBinds K fd [p, q] [p, q] two2 two2 where
  to := fun s us ws _ hl => by
    match us, ws, hl with
    | [], [a, b], _ => exact .of_eq (h a b)
  rel := fun {vs us zs ws} r rz => by
    cases r with
    | nil =>
      cases rz with
      | nil => exact .nil
      | cons r1 r2 =>
        cases r2 with
        | nil => exact .nil
        | cons r2 r3 =>
          cases r3 with
          | nil => exact .cons r1 (.cons r2 .nil)
          | cons _ _ => exact .nil
    | cons _ _ => exact .nil
theorem kb2s {K : PySem.W.Frag} {fd : FuncData} {p q : Str} (h : ∀ a b : Value, bindArgs fd ⟨[], [(q, b), (p, a)]⟩ = pure [(p, a), (q, b)]) :
    KBinds K fd [p, q] [q, p] two2s two2s where
  to := fun s us ws _ hl => by
    match us, ws, hl with
    | [], [a, b], _ => exact .of_eq (h b a)
  rel := fun {vs us zs ws} r rz => by
    cases r with
    | nil =>
      cases rz with
      | nil => exact .nil
      | cons r1 r2 =>
        cases r2 with
        | nil => exact .nil
        | cons r2 r3 =>
          cases r3 with
          | nil => exact .cons r2 (.cons r1 .nil)
          | cons _ _ => exact .nil
    | cons _ _ => exact .nil
section
variable {X : Cx} {k : Nat} {f : Addr} {fd : FuncData} {ps ks : List Str} {sp : Sp} {x : Str} {p pos : Pos} {kws : List Keyword} {tk : TA}
variable {g : List Value → List Value → List Value} {gV : List V → List V → List V}
theorem pe_callK0 (F : FnOk X.prog X.w X.K X.mg X.base CX0 k f fd ps sp) (hr : Room k X.A) (hg : Gl X x) (hm : X.mg x = some (.ref f))
    (hk : PySem.W.keepIn X.K (.ref f) = true) (hb : KBinds X.K fd ps ks g gV) (hkw : PK X kws tk)
    (hall : (backToKw pos (keywordEach kws X.env)).all (·.1.isSome) = true := by rfl)
    (hks : (backToKw pos (keywordEach kws X.env)).filterMap (·.1) = ks := by rfl)
    (hdb : (x == ("__debug__" : Str)) = false := by decide)
    (hpl : ((backTo pos (starEach [] X.env)).any (·.1) || (backToKw pos (keywordEach kws X.env)).any (·.1.isNone)) = false := by rfl) :
    PE X (.Call (.Name x p) [] kws pos) (fun σ H Q => tk σ H fun zs H1 => sp (gV [] zs) H1 Q E0) := by
  refine ⟨fun pins s σ H Q I h => ?_⟩
  refine wpAny_Call_Name_kw (ld_glob I hg hm ?_ hdb)
  refine PySem.W.callWith_KW0 (h₀ := X.base) I.ok.mod.kin hk hall (thn (hkw.run pos pins s σ H _ I h) fun ws s1 ⟨zs, H1, I1, rz, q1⟩ => ⟨I1.kIn, ?_⟩) hpl
  rw [hks]
  exact run_fnk F hr hb pass0 I1 .nil rz q1
end
end MB
end
section
set_option maxRecDepth 100000
set_option maxHeartbeats 4000000
namespace MB
namespace Er
open PySem PySem.W PySem.Calls PyProof.Rows PySem.HandSPX
abbrev above (B0 : Addr) : List Value := .ref B0 :: PySem.ESX.exTail
def eA (f : Str) (p1 p2 : Pos) : Arguments :=
  { posonlyargs := [], args := [{ arg := "self", annotation := none, pos := p1 }, { arg := f, annotation := none, pos := p2 }], vararg := none,
    kwonlyargs := [], kw_defaults := [], kwarg := none, defaults := [] }
def eB (f msg : Str) (q1 q2 q3 q4 q5 q6 q7 q8 q9 q10 : Pos) : List Stmt :=
  [.Expr (.Call (.Attribute (.Call (.Name "super" q1) [] [] q2) "__init__" q3) [.Constant (.str msg) 0 q4] [] q5) q6,
   .Assign [.Attribute (.Name "self" q7) f q8] (.Name f q9) q10]
def eS (f : Str) : Scope :=
  { kind := .function, names := [(PySem.Str.ofString "self", .local), (f, .local), (PySem.Str.ofString "__class__", .free), (PySem.Str.ofString "super", .globalImplicit)],
    isGenerator := false, isCoroutine := false, more := [] }
structure NameOk (f : Str) : Prop where
  self : (f == ("self" : Str)) = false
  cls : (("__class__" : Str) == f) = false
  sup : (("super" : Str) == f) = false
  dbg : (f == ("__debug__" : Str)) = false
structure Txt (P : Program) (K : Frag) (mg : Str → Option Value) (B0 C fI : Addr) (x f : Str) : Prop where
  gC : mg x = some (.ref C)
  cls : ∃ nm q N bs sn sub ab col dd k0 k1 k2 k3 k5, K.lookup C = some (excClassObj nm q C N bs (above B0) true sn sub ab col dd k0 k1 k2 k3 k5 "Exception.__new__")
  sa : findIn K (.ref C) "__setattr__" = some (some (.builtin "object.__setattr__"))
  al : alongIn K "__init__" (above B0) = some (some (.builtin "Exception.__init__"))
  ga : findIn K (.ref C) "__getattribute__" = some (some (.builtin "BaseException.__getattribute__"))
  gg : findIn K (.ref C) "__getattr__" = some none
  noF : findIn K (.ref C) f = some none
  ov : excOver K C PySem.ESX.exTail = true
  iC : findIn K (.ref C) "__init__" = some (some (.ref fI))
  tC : typeIn K (.ref fI) = some (.type "function")
  kC : keepIn K (.ref C) = true
  exC : subIn K (.ref C) (.type "BaseException") = some true
  exE : subIn K (.ref C) (.type "Exception") = some true
  suC : mroIn K C (.ref C) = some true
  tyC : typeIn K (.ref C) = some (.type "type")
  hdC : hasDictIn K C = true
  te : exmOne K (.ref C) (.ref C) = some true
  op : nsIn K cStatics "thirdparty.any" = some none
  su : mg "super" = none
  top : (P.main.scope.names.lookup ("super" : Str)).isSome = false
  fok : NameOk f
  fn : ∃ (qual msg : Str) (oc : Value) (od : Option Addr) (doc pm : Value) (an : Option Addr) (cda : Addr) (ct : Value) (cc : Addr) (osl : Array (Option Value))
      (p1 p2 q1 q2 q3 q4 q5 q6 q7 q8 q9 q10 : Pos),
    K.lookup fI = some ⟨oc, od, .func (ksFn "__init__" qual (eA f p1 p2) (eB f msg q1 q2 q3 q4 q5 q6 q7 q8 q9 q10) (eS f) .none .none doc pm an (.ref cda) ct cc), osl⟩ ∧
    codeIn K (.ref cda) qual = true ∧ (q3.endLine == q5.line) = true ∧
    (∀ (s : Shared) (a b : Value), BindsTo s (ksFn "__init__" qual (eA f p1 p2) (eB f msg q1 q2 q3 q4 q5 q6 q7 q8 q9 q10) (eS f) .none .none doc pm an (.ref cda) ct cc) ⟨[a, b], []⟩ [("self", a), (f, b)]) ∧
    (∃ (ccl : Value) (cdd : Option Addr) (vs : Array Value) (ccs : Array (Option Value)) (file : Str) (tf : Tok),
      K.lookup cda = some ⟨ccl, cdd, .fields vs, ccs⟩ ∧ vs[2]? = some (.str file tf) ∧ ((P.main.file : Str) == file) = true) ∧
    (∃ (cl : Value) (cld : Option Addr) (csl : Array (Option Value)), K.lookup cc = some ⟨cl, cld, .cell (some (.ref C)), csl⟩)
structure InitEnd (h h' : Heap) (x C dx t1 : Addr) (f : Str) (v : Value) : Prop where
  keep : ∀ b o, b ≠ x → h.get? b = some o → h'.get? b = some o
  obj : h'.get? x = some { cls := .ref C, dict := some dx, data := .fields #[.ref t1, .none, .none, .none, .bool false, .none] }
  dbig : h.objs.size ≤ dx
  dne : dx ≠ x
  ns : h'.Ns1 dx (fun y => if y = f then some v else none)
structure OwnMade (h h' : Heap) (e C d : Addr) (f : Str) (v : Value) : Prop where
  keep : ∀ b o, h.get? b = some o → h'.get? b = some o
  new : h.objs.size ≤ e
  obj : ∃ oe vs, h'.get? e = some oe ∧ oe.cls = .ref C ∧ oe.dict = some d ∧ oe.data = .fields vs ∧ vs[1]? = some .none
  dbig : h.objs.size ≤ d
  dne : d ≠ e
  ns : h'.Ns1 d (fun y => if y = f then some v else none)
theorem one_size (v : Value) : [v].length ≤ sizeLine := by
  rw [sizeLine_eq]
  exact (by decide : 1 ≤ 16777216)
theorem above_contains (B0 : Addr) (X : String) : (above B0).contains (.type X) = PySem.ESX.exTail.contains (.type X) := by
  show ((Value.type X == Value.ref B0) || PySem.ESX.exTail.contains (.type X)) = _
  rw [show (Value.type X == Value.ref B0) = false from rfl, Bool.false_or]
section
open Builtin Builtin.ObjectAttr
variable {prog : Program} {w : World} {A : Around} {R : Result → Shared → Prop} {hp : Heap} {gs : Array GenState} {dr : Drawn} {tk : Nat} {os : OsState}
variable {K : Frag} {name : Str} {tn : Tok} {v : Value} {a C u : Addr}
theorem keeps_first (X : K.In hp) (ha : hp.get? a = some (excO C u)) (ov : excOver K C PySem.ESX.exTail = true) (hd : hasDictIn K C = true)
    (no : findIn K (.ref C) name = some none)
    (goal : ∀ (heap : Heap) (toks : Nat) (t : Addr), (∀ b o, b ≠ a → hp.get? b = some o → heap.get? b = some o) → hp.objs.size ≤ t → t ≠ a →
      heap.get? a = some { cls := .ref C, dict := some t, data := .fields #[.ref u, .none, .none, .none, .bool false, .none] } → heap.Ns1 t (fun y => if y = name then some v else none) →
      R (.ok (.ret .none)) ⟨heap, gs, dr, toks, os⟩) :
    codeAny (model prog w) A (.call (.builtin "object.__setattr__") ⟨[.ref a, .str name tn, v], []⟩) R ⟨hp, gs, dr, tk, os⟩ := by
  have tno : takerIn K C name = some none := by
    unfold takerIn
    rw [no]
    rfl
  have far : a ≠ hp.objs.size := Nat.ne_of_lt (Heap.lt_size ha)
  refine osa_openX (od := none) F.store_Exception X ⟨ha, rfl, rfl, trivial⟩ ov tno fun b => ?_
  obtain ⟨cd, hc, hd'⟩ := any_some hd
  refine wpAny_bind (wpAny_pure (wpAny_bind (instanceDict_exc (c2 := .none) (t := u) ha (looks_clsIn X hc) hd' ?_)))
  show wpAny _ _ (storeInDict hp.objs.size (.str name tn) name v) _ _ _
  have hin : ∀ b o, hp.get? b = some o → (hp.push (dictOf [] 0)).get? b = some o := fun b o e => Heap.get?_push_of_some _ e
  refine store_in_new ⟨_, #[], _, (Heap.get?_update_ne _ _ _ _ far.symm).trans (Heap.get?_push_at rfl rfl), rfl, fun e he => absurd he (by simp), fun _ => rfl⟩ fun h' tk' hn' same => ?_
  refine goal h' tk' hp.objs.size (fun b o hb ho => ?_) (Nat.le_refl _) far.symm ?_ hn'
  · rw [same.2 b (Nat.ne_of_lt (Heap.lt_size ho)), Heap.get?_update_ne _ _ _ _ hb]
    exact hin b o ho
  · rw [same.2 a far]
    exact Heap.get?_update_self _ (hin _ _ ha) rfl
end
section
variable {prog : Program} {w : World} {A : Around} {E : Value → Shared → Prop} {R : Result → Shared → Prop} {K : Frag} {mg : Str → Option Value} {B0 C fI : Addr} {x f : Str}
theorem cls_in (T : Txt prog K mg B0 C fI x f) : ∃ cd, clsIn K C = some cd ∧ cd.mro = .ref C :: above B0 ∧ cd.hasDict = true := by
  obtain ⟨nm, q, N, bs, sn, sub, ab, col, dd, k0, k1, k2, k3, k5, hC⟩ := T.cls
  refine ⟨{ name := nm, bases := bs, mro := .ref C :: above B0, ns := N, qualname := q, hasDict := true, slotNames := sn, subclasses := sub, abstract := ab, collection := col, hasDel := false }, ?_, rfl, rfl⟩
  unfold clsIn
  rw [hC] <;> rfl
theorem init (T : Txt prog K mg B0 C fI x f) {s : Shared} {a t0 : Addr} {v : Value} (X : K.In s.heap) (G : s.heap.Ns mainGlobals mg)
    (Bt : ∃ mb, s.heap.Ns builtinsNs mb ∧ ∀ x : Str, x ≠ "__name__" → mb x = bootBuiltins x) (hlim : s.heap.NoLimit)
    (hx : s.heap.get? a = some (excO C t0)) (hnk : K.lookup a = none) (hroom : A.depth < recursionLimit)
    (hq : ∀ h' tk dx t1, InitEnd s.heap h' a C dx t1 f v → R (.ok (.ret .none)) { s with heap := h', toks := tk }) :
    codeAny (model prog w) A (.call (.ref fI) ⟨[.ref a, v], []⟩) R s := by
  obtain ⟨qual, msg, oc, od, doc, pm, an, cda, ct, cc, osl, p1, p2, q1, q2, q3, q4, q5, q6, q7, q8, q9, q10, ho, hcd, hline, hbind, ⟨ccl, cdd, vs, ccs, file, tf, hcode, hvs, hfile⟩, ⟨cl, cld, csl, hcell⟩⟩ := T.fn
  obtain ⟨nm, q, N, bs, sn, sub, ab, col, dd, k0, k1, k2, k3, k5, hC⟩ := T.cls
  obtain ⟨cd, hcl, hmro, hhd⟩ := cls_in T
  have nself : (eS f).names.lookup ("self" : Str) = some .local := rfl
  have nf : (eS f).names.lookup f = some .local := by
    show List.lookup f [(PySem.Str.ofString "self", NameKind.local), (f, .local), (PySem.Str.ofString "__class__", .free), (PySem.Str.ofString "super", .globalImplicit)] = _
    rw [List.lookup_cons, T.fok.self, List.lookup_cons, beq_self_eq_true]
  have nc : (eS f).names.lookup ("__class__" : Str) = some .free := by
    show List.lookup ("__class__" : Str) [(PySem.Str.ofString "self", NameKind.local), (f, .local), (PySem.Str.ofString "__class__", .free), (PySem.Str.ofString "super", .globalImplicit)] = _
    rw [List.lookup_cons, show (("__class__" : Str) == PySem.Str.ofString "self") = false from by decide, List.lookup_cons, T.fok.cls]
    rfl
  have ns : (eS f).names.lookup ("super" : Str) = some .globalImplicit := by
    show List.lookup ("super" : Str) [(PySem.Str.ofString "self", NameKind.local), (f, .local), (PySem.Str.ofString "__class__", .free), (PySem.Str.ofString "super", .globalImplicit)] = _
    rw [List.lookup_cons, show (("super" : Str) == PySem.Str.ofString "self") = false from by decide, List.lookup_cons, T.fok.sup]
    rfl
  obtain ⟨hp, gs, dr, tk, os⟩ := s
  refine ks_codeAny_call_defAt (fd := ksFn "__init__" qual (eA f p1 p2) (eB f msg q1 q2 q3 q4 q5 q6 q7 q8 q9 q10) (eS f) .none .none doc pm an (.ref cda) ct cc)
    (body := eB f msg q1 q2 q3 q4 q5 q6 q7 q8 q9 q10) (binds := [("self", .ref a), (f, v)]) hroom (X _ _ ho) rfl hlim (codeRec_of X hcd) rfl (hbind _ _ _) ?_ ?_ (fun h₁ hns hk₁ => ?_) rfl rfl rfl
  · intro y hy
    have hy' : y ∈ [(PySem.Str.ofString "self", NameKind.local), (f, .local), (PySem.Str.ofString "__class__", .free), (PySem.Str.ofString "super", .globalImplicit)] := hy
    simp only [List.mem_cons, List.not_mem_nil, or_false] at hy'
    rcases hy' with rfl | rfl | rfl | rfl <;> simp
  · intro y hy
    simp only [List.mem_cons, List.not_mem_nil, or_false] at hy
    rcases hy with rfl | rfl
    · exact nself
    · exact nf
  · have hx₁ := hk₁ _ _ hx
    have X₁ : K.In h₁ := X.keeps hk₁
    obtain ⟨mb, hB, hbb⟩ := Bt
    have hD1 : h₁.get? C = _ := hk₁ _ _ (X _ _ hC)
    have hxC : a ≠ C := fun z => by
      rw [z, hC] at hnk
      cases hnk
    have hin : ∀ h' : Heap, (∀ b o, h₁.get? b = some o → h'.get? b = some o) → Looks (model prog w) h' (isInstance (.ref a) (.type "Exception")) true := fun h' k =>
      (show InstAt h' a (excO C t0) C none from ⟨k _ _ hx₁, rfl, rfl, trivial⟩).type.andThen (looks_subIn (X₁.keeps k) T.exE)
    refine ks_wpAt_execs_cons (ks_wpAt_Expr_any ?_ rfl rfl)
    generalize hE : callEnv (ksFn "__init__" qual (eA f p1 p2) (eB f msg q1 q2 q3 q4 q5 q6 q7 q8 q9 q10) (eS f) .none .none doc pm an (.ref cda) ct cc) (⟨hp, gs, dr, tk, os⟩ : Shared).heap.objs.size fI = env
    have ek : env.scope.kind = .function := by rw [← hE]; rfl
    have es : env.kindOf "super" = some .globalImplicit := by rw [← hE]; exact ns
    have ec : env.kindOf "__class__" = some .free := by rw [← hE]; exact nc
    have e0 : env.kindOf "self" = some .local := by rw [← hE]; exact nself
    have ef : env.kindOf f = some .local := by rw [← hE]; exact nf
    have efu : env.func = some fI := by rw [← hE]; rfl
    have eco : env.code = .ref cda := by rw [← hE]; rfl
    have eg : env.globals = mainGlobals := by rw [← hE]; rfl
    have eb : env.builtins = builtinsNs := by rw [← hE]; rfl
    have el : env.locals = hp.objs.size := by rw [← hE]; rfl
    have ecl : env.cells.lookup ("__class__" : Str) = some cc := by rw [← hE]; rfl
    refine ks_wpAt_MethodCall (pl := (do return (← importBound (.Call (.Name "super" q1) [] [] q2) env).getD true)) ?_ ?he
    case he =>
      rw [arm_eval_Call]
      have hform : methodCallForm ([Expr.Constant (Const.str msg) 0 q4].length + ([] : List Keyword).length) (backTo q5 (starEach [Expr.Constant (Const.str msg) 0 q4] env)) (backToKw q5 (keywordEach [] env)) = true := rfl
      have hpos : methodCallPos true (.Call (.Name "super" q1) [] [] q2) env q3 q5 = pure q5 := by unfold methodCallPos; simp [hline]
      unfold methodCall
      rw [hform]
      simp only [hpos, pure_bind, calleeOf, if_true]
      rfl
    refine ks_wpAt_super_base (f := fI) (cc := cda) es ec (by decide) efu (hk₁ _ _ (X _ _ ho)) rfl rfl eco (hk₁ _ _ (X _ _ hcode)) rfl hvs hfile T.top ?_
    refine ks_loadName_global ek es (loadGlobal_builtin (by rw [eg]; exact G.keeps hk₁) T.su (by rw [eb]; exact hB.keeps hk₁) ((hbb _ (by decide)).trans Boot.«super») ⟨rfl, ?_⟩)
    refine wpAny_loadName_free ek ec ecl ⟨_, hk₁ _ _ (X _ _ hcell), rfl⟩ ?_
    have b0 : List.lookup ("self" : Str) [(("self" : Str), Value.ref a), (f, v)].reverse = some (.ref a) := by
      show List.lookup ("self" : Str) [(f, v), (("self" : Str), Value.ref a)] = _
      rw [List.lookup_cons, show (("self" : Str) == f) = false from by rw [BEq.comm]; exact T.fok.self]
      rfl
    have b1 : List.lookup f [(("self" : Str), Value.ref a), (f, v)].reverse = some v := by
      show List.lookup f [(f, v), (("self" : Str), Value.ref a)] = _
      rw [List.lookup_cons, beq_self_eq_true]
    refine wpAny_loadName_local ek e0 (by rw [el]; exact hns) b0 ?_
    refine ks_wpAny_isType_cls hD1 rfl ⟨rfl, ?_⟩
    refine ks_wpAny_call_super hD1 rfl hx₁ rfl (fun c e => by cases e) (looks_mroIn X₁ T.suC) (fun h₂ e₂ k₂ => ?_)
    have X₂ : K.In h₂ := X₁.keeps k₂
    refine PySem.ESX.getMethod_super e₂ (looks_opaque X₂ T.op) (l₀ := cd.mro) ((looks_clsIn X₂ hcl).andThen .now) (by rw [hmro, PySem.ESX.drop_own]) X₂ T.al hxC (by decide) (hin _ k₂) ?_
    have k₃ : ∀ b o, h₁.get? b = some o → (h₂.push (PySem.ESX.bw a)).get? b = some o := fun b o e => Heap.get?_push_of_some _ (k₂ _ _ e)
    show wpAny _ _ (callWith q5 (.ref h₂.objs.size) [] (backTo q5 (starEach [Expr.Constant (Const.str msg) 0 q4] env)) []) _ _ _
    refine PySem.ESX.callWith_bound (x := a) (spliced_cons (Constant_str (k := 0) (pos := q4) (spliced_nil ⟨Heap.get?_push_at rfl rfl, ?_⟩)))
    refine PySem.ESX.call_bw (k₃ _ _ hD1) (k₃ _ _ hx₁) (Heap.get?_push_at rfl rfl) (one_size _) (fun h₄ t1 k₄ e₄ => ?_)
    have k₅ : ∀ b o, b ≠ a → h₁.get? b = some o → h₄.get? b = some o := fun b o hb e => k₄ b o hb (k₃ b o e)
    have X₄ : K.In h₄ := fun b o e => k₅ b o (fun z => by rw [z, hnk] at e; cases e) (X₁ b o e)
    have hxL : hp.objs.size ≠ a := Nat.ne_of_gt (Heap.lt_size hx)
    have hns₄ : h₄.Ns hp.objs.size (fun y => List.lookup y [(("self" : Str), Value.ref a), (f, v)].reverse) := by
      obtain ⟨oL, es', ep, z1, z2, z3⟩ := hns
      exact ⟨oL, es', ep, k₅ _ _ hxL z1, z2, z3⟩
    refine wpAt_of_wpAny ?_
    show wpAny _ _ (execs [.Assign [.Attribute (.Name "self" q7) f q8] (.Name f q9) q10] env) _ _ _
    refine wpAny_execs_cons (plainObj_wpAny_Assign_Attribute ?_)
    refine wpAny_Name (wpAny_loadName_local ek ef (by rw [el]; exact hns₄) b1 ?_) T.fok.dbg
    refine wpAny_Name (wpAny_loadName_local ek e0 (by rw [el]; exact hns₄) b0 ?_) (by decide)
    refine set_plain X₄ (ox := excO C t1) (od := none) ⟨e₄, rfl, rfl, trivial⟩ T.sa ?_
    refine keeps_first X₄ e₄ T.ov T.hdC T.noF (fun h₆ tk₆ dx k₆ dn dne hx₆ hn₆ => ?_)
    show wpAny _ _ (execs [] env) _ _ _
    have z : hp.objs.size ≤ h₄.objs.size := by
      obtain ⟨oL, es', ep, z1, z2, z3⟩ := hns₄
      exact Nat.le_of_lt (Heap.lt_size z1)
    exact wpAny_execs_nil (hq h₆ _ dx t1 ⟨fun b o hb e => k₆ b o hb (k₅ b o hb (hk₁ b o e)), hx₆, Nat.le_trans z dn, dne, hn₆⟩)
theorem made (T : Txt prog K mg B0 C fI x f) {s : Shared} {v : Value} (X : K.In s.heap) (G : s.heap.Ns mainGlobals mg)
    (Bt : ∃ mb, s.heap.Ns builtinsNs mb ∧ ∀ x : Str, x ≠ "__name__" → mb x = bootBuiltins x) (hlim : s.heap.NoLimit) (hroom : A.depth + 1 < recursionLimit)
    (hq : ∀ h' tk e d, OwnMade s.heap h' e C d f v → R (.ok (.ret (.ref e))) { s with heap := h', toks := tk }) :
    codeAny (model prog w) A (.call (.ref C) ⟨[v], []⟩) R s := by
  obtain ⟨nm, q, N, bs, sn, sub, ab, col, dd, k0, k1, k2, k3, k5, hC⟩ := T.cls
  obtain ⟨mb, hB, hbb⟩ := Bt
  obtain ⟨hp, g, dr, tk, os⟩ := s
  have k : ∀ b o, hp.get? b = some o → ((hp.push (kdv_tup [v])).push (excO C hp.objs.size)).get? b = some o := fun b o e => Heap.get?_push_of_some _ (Heap.get?_push_of_some _ e)
  have hget : ((hp.push (kdv_tup [v])).push (excO C hp.objs.size)).get? (hp.objs.size + 1) = some (excO C hp.objs.size) := by heap_get
  have hnx : K.lookup (hp.objs.size + 1) = none := by
    cases e : K.lookup (hp.objs.size + 1) with
    | none => rfl
    | some o =>
      have z : hp.get? (hp.objs.size + 1) = some o := X _ _ e
      exact absurd (Nat.lt_of_succ_lt (Heap.lt_size z)) (Nat.lt_irrefl _)
  refine call_own F.excBase_Exception (fun Y => above_contains B0 Y) (X _ _ hC) (looks_findIn X T.iC) (fun self => bind_fn X self T.tC) (one_size v) ?_
  refine init (s := ⟨(hp.push (kdv_tup [v])).push (excO C hp.objs.size), g, dr, tk, os⟩) T (X.keeps k) (G.keeps k) ⟨mb, hB.keeps k, hbb⟩ (hlim.keeps k) hget hnx ?_ fun h' tk' dx t1 ⟨k', hx, dn, dne, hns⟩ => ?_
  · show A.depth + 1 < recursionLimit
    exact hroom
  · have old : ∀ b o, hp.get? b = some o → h'.get? b = some o := fun b o e => k' b o (Nat.ne_of_lt (Nat.lt_succ_of_lt (Heap.lt_size e))) (k b o e)
    have z : hp.objs.size + 1 + 1 ≤ dx := by
      first
        | (simpa only [Heap.size_push] using dn)
        | exact dn
        | (have q := dn; rw [Heap.size_push, Heap.size_push] at q; exact q)
    exact ⟨rfl, hq h' tk' (hp.objs.size + 1) dx ⟨old, Nat.le_succ _, ⟨_, _, hx, rfl, rfl, rfl, rfl⟩, Nat.le_trans (Nat.le_trans (Nat.le_succ _) (Nat.le_succ _)) z, dne, hns⟩⟩
end
theorem meets_self {K : PySem.W.Frag} {S : Addr} (h1 : PySem.W.subIn K (.ref S) (.type "BaseException") = some true) (h2 : PySem.W.isClsIn K S = true)
    (h3 : PySem.W.typeIn K (.ref S) = some (.type "type")) (h4 : PySem.W.subIn K (.ref S) (.ref S) = some true) : PySem.W.exmOne K (.ref S) (.ref S) = some true := by
  have e1 : (PySem.W.subIn K (.ref S) (.type "BaseException") == some true) = true := by rw [h1] <;> rfl
  have e2 : ((PySem.W.clsIn K S).isSome && PySem.W.typeIn K (.ref S) == some (.type "type")) = true := by
    have h2' : (PySem.W.clsIn K S).isSome = true := h2
    rw [h2', h3] <;> rfl
  show (if (PySem.W.subIn K (.ref S) (.type "BaseException") == some true) = true then (if ((PySem.W.clsIn K S).isSome && PySem.W.typeIn K (.ref S) == some (.type "type")) = true then PySem.W.subIn K (.ref S) (.ref S) else none) else none) = some true
  rw [if_pos e1, if_pos e2]
  exact h4
theorem of {P : Program} {K : Frag} {h : Heap} {mg : Str → Option Value} {B0 C fI : Addr} {x f : Str} (X : K.In h) (G : h.Ns mainGlobals mg)
    {nm q : Str} {N : Addr} {bs : List Value} {sn : List Str} {sub : List Value} {ab : Bool} {col : Option Bool} {dd : Option Addr} {m0 m1 m2 m3 m5 : Option Value}
    {nm' q' : Str} {N' : Addr} {bs' : List Value} {sn' : List Str} {sub' : List Value} {ab' : Bool} {col' : Option Bool} {dd' : Option Addr} {n0 n1 n2 n3 n5 : Option Value}
    {qual msg : Str} {oc : Value} {od : Option Addr} {doc pm : Value} {an : Option Addr} {cda : Addr} {ct : Value} {cc : Addr} {osl : Array (Option Value)}
    {p1 p2 q1 q2 q3 q4 q5 q6 q7 q8 q9 q10 : Pos} {ccl : Value} {cdd : Option Addr} {vs : Array Value} {ccs : Array (Option Value)} {file : Str} {tf : Tok} {cl : Value} {cld : Option Addr} {csl : Array (Option Value)}
    (aC : nsIn K mainGlobals x = some (some (.ref C)))
    (lB : K.lookup B0 = some (excClassObj nm' q' B0 N' bs' PySem.ESX.exTail true sn' sub' ab' col' dd' n0 n1 n2 n3 n5 "Exception.__new__"))
    (fB : findIn K (.ref B0) "__init__" = some (some (.builtin "Exception.__init__")))
    (lC : K.lookup C = some (excClassObj nm q C N bs (above B0) true sn sub ab col dd m0 m1 m2 m3 m5 "Exception.__new__"))
    (sa : findIn K (.ref C) "__setattr__" = some (some (.builtin "object.__setattr__")))
    (ga : findIn K (.ref C) "__getattribute__" = some (some (.builtin "BaseException.__getattribute__")))
    (gg : findIn K (.ref C) "__getattr__" = some none) (noF : findIn K (.ref C) f = some none)
    (iC : findIn K (.ref C) "__init__" = some (some (.ref fI))) (tC : typeIn K (.ref fI) = some (.type "function"))
    (kC : keepIn K (.ref C) = true) (exC : subIn K (.ref C) (.type "BaseException") = some true) (exE : subIn K (.ref C) (.type "Exception") = some true)
    (suC : mroIn K C (.ref C) = some true) (ssC : subIn K (.ref C) (.ref C) = some true) (isC : isClsIn K C = true)
    (tyC : typeIn K (.ref C) = some (.type "type")) (hdC : hasDictIn K C = true)
    (op : nsIn K cStatics "thirdparty.any" = some none) (su : nsIn K mainGlobals "super" = some none)
    (lI : K.lookup fI = some ⟨oc, od, .func (ksFn "__init__" qual (eA f p1 p2) (eB f msg q1 q2 q3 q4 q5 q6 q7 q8 q9 q10) (eS f) .none .none doc pm an (.ref cda) ct cc), osl⟩)
    (cI : codeIn K (.ref cda) qual = true) (lc : K.lookup cda = some ⟨ccl, cdd, .fields vs, ccs⟩) (lcc : K.lookup cc = some ⟨cl, cld, .cell (some (.ref C)), csl⟩)
    (top : (P.main.scope.names.lookup ("super" : Str)).isSome = false) (line : (q3.endLine == q5.line) = true) (fl : vs[2]? = some (.str file tf)) (fi : ((P.main.file : Str) == file) = true)
    (fok : NameOk f)
    (bi : ∀ (s : Shared) (a b : Value), BindsTo s (ksFn "__init__" qual (eA f p1 p2) (eB f msg q1 q2 q3 q4 q5 q6 q7 q8 q9 q10) (eS f) .none .none doc pm an (.ref cda) ct cc) ⟨[a, b], []⟩ [("self", a), (f, b)]) :
    Txt P K mg B0 C fI x f where
  gC := mg_of X G aC
  cls := ⟨_, _, _, _, _, _, _, _, _, _, _, _, _, _, lC⟩
  sa := sa
  al := by
    have e := fB
    unfold findIn at e
    dsimp only at e
    rw [lB] at e
    exact e
  ga := ga
  gg := gg
  noF := noF
  ov := by
    unfold excOver clsIn
    rw [lC]
    show ((C == C) && (PySem.ESX.exTail == PySem.ESX.exTail)) = true
    rw [beq_self_eq_true, beq_self_eq_true]
    rfl
  iC := iC
  tC := tC
  kC := kC
  exC := exC
  exE := exE
  suC := suC
  tyC := tyC
  hdC := hdC
  te := meets_self exC isC tyC ssC
  op := op
  su := mg_none_of X G su
  top := top
  fok := fok
  fn := ⟨_, _, _, _, _, _, _, _, _, _, _, _, _, _, _, _, _, _, _, _, _, _, _, lI, cI, line, bi, ⟨_, _, _, _, _, _, lc, fl, fi⟩, ⟨_, _, _, lcc⟩⟩
end Er
open PySem PySem.Spec PyProof.Rows L2
theorem relO_one {f : Str} {v : V} {v' : Value} (r : RelV v v') (y : Str) : RelO (List.lookup y [(f, v)]) (if y = f then some v' else none) := by
  by_cases hw : y = f
  · subst hw
    rw [if_pos rfl]
    have q : List.lookup y [(y, v)] = some v := by simp [List.lookup]
    rw [q]
    exact r
  · rw [if_neg hw]
    have qw : (y == f) = false := by simpa using hw
    have q2 : List.lookup y [(f, v)] = none := by simp [List.lookup, qw]
    rw [q2]
    trivial
section
variable {X : Cx} {B0 C fI : Addr} {x f : Str}
def tMkErr (C : Addr) (f : Str) (ta : TA) : L2.St → Hp → XK → Prop := fun σ H Q => ta σ H fun vs H1 => ∃ v, vs = [v] ∧ ∀ d, H1 d = none → Q (.ref C) (some d) (upd H1 d (.xd [(f, v)]))
theorem pmk_err {a : Expr} {ta : TA} {p pos : Pos} {k : Nat} (T : Er.Txt X.prog X.K X.mg B0 C fI x f) (hr : Room k X.A) (ha : PA X [a] ta) (hg : Gl X x) (hdb : (x == ("__debug__" : Str)) = false := by decide)
    (he : starEach (a :: []) X.env = (false, eval a X.env) :: starEach [] X.env := by rfl) (hpl : (backTo pos (starEach [] X.env)).any (·.1) = false := by rfl) :
    PMk X (.Call (.Name x p) [a] [] pos) (tMkErr C f ta) := by
  intro pins s σ H Q I h
  refine wpAny_Call_Name_kw (ld_glob I hg T.gC ?_ hdb)
  refine PySem.W.callWith_K (h₀ := X.base) I.ok.mod.kin T.kC (thn (ha.run pos pins s σ H _ I h) fun us s1 hh => ?_) he hpl
  obtain ⟨vs, H1, I1, r1, v, ev, q1⟩ := hh
  subst ev
  refine ⟨I1.kIn, ?_⟩
  cases r1 with
  | cons rv rn =>
    rename_i v' us'
    cases rn
    show wpAny _ _ (call (.ref C) [v']) _ _ _
    have hlim := I1.nolimit
    have hG := I1.mod.glob.keeps I1.bk
    have hBt : ∃ mb, s1.heap.Ns builtinsNs mb ∧ ∀ x : Str, x ≠ "__name__" → mb x = bootBuiltins x := by
      obtain ⟨mb, z1, z2⟩ := I1.mod.blt
      exact ⟨mb, z1.keeps I1.bk, z2⟩
    obtain ⟨hp, g, dr, tk, os⟩ := s1
    refine wpAny_call (Er.made T I1.kIn hG hBt hlim (by have := hr.dp; omega) fun h' tk' e d M => ?_)
    show MkP X pins σ Q (.ref e) ⟨h', g, dr, tk', os⟩
    obtain ⟨oe, fv, hoe, hc, hd, hdat, h1⟩ := M.obj
    have hns := M.ns
    obtain ⟨G', g1, g2⟩ := restrict h' fun b => decide (b ≠ e)
    have gk : ∀ b, b ≠ e → G'.get? b = h'.get? b := fun b hb => g1 b (decide_eq_true hb)
    have ge : G'.get? e = none := g2 e (by simp)
    have old : ∀ b o, hp.get? b = some o → G'.get? b = some o := fun b o q => (gk b (Nat.ne_of_lt (Nat.lt_of_lt_of_le (Heap.lt_size q) M.new))).trans (M.keep b o q)
    have ob : ObjOk X.prog X.w (upd H1 d (.xd [(f, v)])) G' d (.xd [(f, v)]) :=
      ⟨_, hns.at (fun o q => (gk d M.dne).trans q), fun y => relO_one rv y⟩
    have J : Inv X pins σ (upd H1 d (.xd [(f, v)])) ⟨G', g, dr, tk', os⟩ := I1.laid (t' := tk') old M.dbig ob
    refine ⟨e, oe, fv, ⟨G', g, dr, tk', os⟩, _, .ref C, some d, rfl, J, fun b o q => ?_, ge, hoe, ⟨hc, hd⟩, hdat, h1, ?_, rfl, I1.bare, raises_own T.exC T.tyC, q1 d (I1.hok.fresh M.dbig)⟩
    · by_cases hb : b = e
      · have q' : G'.get? b = some o := q
        rw [hb, ge] at q'; cases q'
      · exact (gk b hb).symm.trans q
    · rw [upd_ne (Ne.symm M.dne)]
      exact I1.hok.fresh M.new
def tRaiseErr (C : Addr) (f : Str) (W : WX) (ta : TA) : TS := fun _ σ H => tMkErr C f ta σ H fun cls d H' => W cls d σ H'
theorem ps_raiseErr {a : Expr} {ta : TA} {W : WX} {p pos pos2 : Pos} {k : Nat} (hc : X.calm = true) (T : Er.Txt X.prog X.K X.mg B0 C fI x f) (hr : Room k X.A) (tk : Takes X W) (ha : PA X [a] ta) (hg : Gl X x) (hdb : (x == ("__debug__" : Str)) = false := by decide)
    (he : starEach (a :: []) X.env = (false, eval a X.env) :: starEach [] X.env := by rfl) (hpl : (backTo pos (starEach [] X.env)).any (·.1) = false := by rfl) :
    PS X (.Raise (some (.Call (.Name x p) [a] [] pos)) none pos2) (tRaiseErr C f W ta) := ps_raise hc tk (pmk_err T hr ha hg hdb he hpl)
section
variable {CX : CXT} {k : Nat} {g : Addr} {fd : FuncData} {ps ks : List Str} {sp : Sp} {E : L2.St → XK} {nm : Str} {p pos : Pos} {kws : List Keyword} {tk : TA}
variable {gu : List Value → List Value → List Value} {gV : List V → List V → List V}
def tCallK0S (sp : Sp) (gV : List V → List V → List V) (E : L2.St → XK) (tk : TA) : TE := fun σ H Q => tk σ H fun zs H1 => sp (gV [] zs) H1 Q (E σ)
theorem pe_callK0S (F : FnOk X.prog X.w X.K X.mg X.base CX k g fd ps sp) (hr : Room k X.A) (hg : Gl X nm) (hm : X.mg nm = some (.ref g))
    (hk : PySem.W.keepIn X.K (.ref g) = true) (hb : KBinds X.K fd ps ks gu gV) (hx : ∀ σ, PassesAt CX X σ (E σ)) (hkw : PK X kws tk)
    (hall : (backToKw pos (keywordEach kws X.env)).all (·.1.isSome) = true := by rfl)
    (hks : (backToKw pos (keywordEach kws X.env)).filterMap (·.1) = ks := by rfl)
    (hdb : (nm == ("__debug__" : Str)) = false := by decide)
    (hpl : ((backTo pos (starEach [] X.env)).any (·.1) || (backToKw pos (keywordEach kws X.env)).any (·.1.isNone)) = false := by rfl) :
    PE X (.Call (.Name nm p) [] kws pos) (tCallK0S sp gV E tk) := by
  refine ⟨fun pins s σ H Q I h => ?_⟩
  refine wpAny_Call_Name_kw (ld_glob I hg hm ?_ hdb)
  refine PySem.W.callWith_KW0 (h₀ := X.base) I.ok.mod.kin hk hall (thn (hkw.run pos pins s σ H _ I h) fun ws s1 ⟨zs, H1, I1, rz, q1⟩ => ⟨I1.kIn, ?_⟩) hpl
  rw [hks]
  have r2 := hb.rel (vs := []) (us := []) .nil rz
  have hl : (gu [] ws).length = ps.length := by rw [← r2.length]; exact F.len _ _ _ _ q1
  refine wpAny_call (codeAny_mono (F.run X.A X.stack s1 H1 ⟨[], ks.zip ws⟩ (gu [] ws) (gV [] zs) Q (E σ) hr I1.env0 (hb.to s1 [] ws I1.kIn hl) r2 q1) fun r s' hq => ?_)
  cases r with
  | error e => exact hx σ pins H1 s1 e s' I1 hq
  | ok fl =>
    cases fl with
    | ret u => exact I1.after hq
    | next | brk | cont => exact False.elim hq
end
theorem Er.Txt.xf {P : Program} {K : PySem.W.Frag} {mg : Str → Option Value} (T : Er.Txt P K mg B0 C fI x f) : XfC K C := ⟨T.ga, T.gg, T.exC, T.hdC⟩
end
end MB
end
section
set_option maxRecDepth 100000
namespace MB
open PySem PySem.Spec PyProof.Rows L2
structure Clause where
  cls : Value
  slot : Option Nat
  ts : Addr → Value → Option Addr → TS
def offAt (i : Nat) (D : Ends) : Ends :=
  { nx := fun σ H => D.nx (σ.set i none) H, rt := D.rt, bk := fun σ H => D.bk (σ.set i none) H, ct := fun σ H => D.ct (σ.set i none) H }
def Clause.goes (c : Clause) (D : Ends) (a : Addr) (cls : Value) (d : Option Addr) (σ : L2.St) (H : Hp) : Prop :=
  match c.slot with
  | none => c.ts a cls d D σ H
  | some i => c.ts a cls d (offAt i D) (σ.set i (some (.ref a))) H
def wMix (K : PySem.W.Frag) (Wout : WX) (D : Ends) : List Clause → WX
  | [] => Wout
  | c :: r => fun cls d σ H => ∃ hit, PySem.W.exmOne K cls c.cls = some hit ∧
      (hit = true → ∀ a, H a = none → c.goes D a cls d σ H) ∧ (hit = false → wMix K Wout D r cls d σ H)
inductive Clauses (X : Cx) : List ExceptHandler → List Clause → Prop
  | nil : Clauses X [] []
  | bare {x : Str} {c : Value} {ts : Addr → Value → Option Addr → TS} {b₀ : Stmt} {suite : List Stmt} {np hp : Pos} {hds : List ExceptHandler} {l : List Clause}
      (nm : Names X x c) (su : ∀ (a : Addr) (oe : Obj) (cls : Value) (d : Option Addr) (pn : List (Addr × Obj)), Zc cls d oe → (∃ vs, oe.data = .fields vs) →
        PSs (X.suite a ((a, oe) :: pn)) (b₀ :: suite) (ts a cls d)) (more : Clauses X hds l) :
      Clauses X (.ExceptHandler (some (.Name x np)) none (b₀ :: suite) hp :: hds) (⟨c, none, ts⟩ :: l)
  | named {x n : Str} {c : Value} {i : Nat} {ts : Addr → Value → Option Addr → TS} {b₀ : Stmt} {suite : List Stmt} {np hp : Pos} {hds : List ExceptHandler} {l : List Clause}
      (nm : Names X x c) (at_ : X.N[i]? = some n) (loc : X.env.kindOf n = some .local)
      (su : ∀ (a : Addr) (oe : Obj) (cls : Value) (d : Option Addr) (pn : List (Addr × Obj)), Zc cls d oe → (∃ vs, oe.data = .fields vs) →
        PSs (X.suite a ((a, oe) :: pn)) (b₀ :: suite) (ts a cls d)) (more : Clauses X hds l) :
      Clauses X (.ExceptHandler (some (.Name x np)) (some n) (b₀ :: suite) hp :: hds) (⟨c, some i, ts⟩ :: l)
structure Met (X : Cx) (pins : List (Addr × Obj)) (σ : L2.St) (H : Hp) (B : Heap) (a : Addr) (cls : Value) (d : Option Addr) (sI : Shared) (s : Shared) : Prop where
  inv : Inv X pins σ H sI
  gr : ∀ b o, sI.heap.get? b = some o → b ∉ frs X.stack → B.get? b = some o
  fly : HandSPX.FlyingZ B (X.env :: X.outer) a (Zc cls d) s.heap
  up : sI.heap.UpToSlots s.heap
  un : H a = none
  os : s.os = sI.os
  ba : AllBare s.gens
section
variable {X : Cx} {pins : List (Addr × Obj)} {σ : L2.St} {H : Hp} {B : Heap} {a : Addr} {cls : Value} {d : Option Addr} {sI s : Shared}
theorem Met.here (m : Met X pins σ H B a cls d sI s) : Inv X pins σ H s := m.inv.landed m.gr m.fly.1 m.up m.os m.ba
theorem Met.inSuite (m : Met X pins σ H B a cls d sI s) (hf : X.env.frame = some X.env.locals) :
    ∃ oe vs, s.heap.get? a = some oe ∧ Zc cls d oe ∧ oe.data = .fields vs ∧ Inv (X.suite a ((a, oe) :: (X.pn ++ pins))) [] σ H s := by
  obtain ⟨oe, vs, e, z, dt⟩ := m.fly.there
  have out : a ∉ frs (X.env :: X.outer) := fun hm => by
    obtain ⟨_, o', e', no⟩ := m.fly.2.2.1.mem hm
    rw [e] at e'
    cases e'
    exact no _ dt
  refine ⟨oe, vs, e, z, dt, m.here.suite e dt m.un (fun q => out ?_) fun hm => out ?_⟩
  · exact List.mem_filterMap.mpr ⟨X.env, List.mem_cons_self, by rw [hf, q]⟩
  · obtain ⟨v, hv, q⟩ := List.mem_filterMap.mp hm
    exact List.mem_filterMap.mpr ⟨v, List.mem_cons_of_mem _ hv, q⟩
theorem Met.on {Wout : WX} {D : Ends} (m : Met X pins σ H B a cls d sI s) (hs : X.stack = X.env :: X.outer) (hf : X.env.frame = some X.env.locals) (tk : Takes X Wout) (w : Wout cls d σ H) :
    wpAny (model X.prog X.w) X.A (handleBy (.ref a) X.env []) (SP X pins D) X.xe s := by
  have fl := m.fly
  obtain ⟨_, _, _, oe, vs, T, _, _, e, _, dt, one, _⟩ := id fl
  refine wpAny_handleBy_nil ?_
  unfold PySem.passOn
  refine wpAny_bind (wpAny_field e dt one ?_)
  rw [if_neg (show ¬ ((Value.ref T == Value.none) = true) from by simp)]
  have away : wpAny (model X.prog X.w) X.A (setFlight (.ref a) X.env.frame) (fun _ s4 => wpAny (model X.prog X.w) X.A (throw (.ref a) : Sem Flow) (SP X pins D) X.xe s4) X.xe s := by
    rw [hf]
    refine HandSPX.setFlight_upZ fl fun h4 held up4 => wpAny_throw (tk _ _ ?_)
    exact ⟨a, B, sI, pins, σ, H, cls, d, rfl, m.inv, m.gr, m.up.trans up4, .inr (.inr (by rw [hs]; exact held)), m.un, m.os, m.ba, w⟩
  first
    | exact wpAny_bind (wpAny_pure (wpAny_bind away))
    | exact wpAny_bind away
theorem Met.clauses {Wout : WX} {D : Ends} (hs : X.stack = X.env :: X.outer) (hf : X.env.frame = some X.env.locals) (nd : X.N.Nodup) (tk : Takes X Wout)
    {hds : List ExceptHandler} {l : List Clause} (hc : Clauses X hds l) (m : Met X pins σ H B a cls d sI s) (w : wMix X.K Wout D l cls d σ H) :
    wpAny (model X.prog X.w) X.A (handleBy (.ref a) X.env hds) (SP X pins D) X.xe s := by
  have ok := m.inv.ok
  obtain ⟨oe, vs, e, z, dt, S⟩ := m.inSuite hf
  have typ : PySem.W.Looks (model X.prog X.w) s.heap (typeOf (.ref a)) cls := fun A Q E s' k q => wpAny_typeOf_ref (k _ _ e) (by rw [z.1]; exact q)
  have reads : ∀ {x : Str} {c : Value} {np : Pos} {Q : Value → Shared → Prop} {E : Value → Shared → Prop}, Names X x c → Q c s →
      wpAny (model X.prog X.w) (X.A.mark (some (.ref a))) (eval (.Name x np) X.env) Q E s := fun {x c np Q E} nm q => by
    obtain ⟨g, db, h | ⟨h, bv, nn⟩⟩ := nm
    · exact ld_glob (X := X.suite a ((a, oe) :: (X.pn ++ pins))) S g h q db
    · exact ld_blt (X := X.suite a ((a, oe) :: (X.pn ++ pins))) S g h bv q nn db
  induction hc with
  | nil => exact m.on hs hf tk w
  | @bare x c ts b₀ suite np hp hds2 l2 nm su more ih =>
    obtain ⟨hit, he, yes, no⟩ := w
    refine wpAny_handleBy_cons (codeAny_handlers_test ?_) (by intro q; cases q)
    refine reads nm ((PySem.W.exm_one (M := model X.prog X.w) m.here.kIn typ he).here ?_)
    cases hit with
    | false => exact ih (no rfl)
    | true =>
      refine codeAny_handlers_suite ?_
      refine HandSPX.lands_againZ m.fly fun h4 fl4 up4 => ?_
      have m4 : Met X pins σ H B a cls d sI { s with heap := h4 } := ⟨m.inv, m.gr, fl4, m.up.trans up4, m.un, m.os, m.ba⟩
      obtain ⟨oe4, vs4, e4, z4, dt4, S4⟩ := m4.inSuite hf
      refine wpAny_mono ((su a oe4 cls d (X.pn ++ pins) z4 ⟨_, dt4⟩).run [] _ _ H _ S4 (yes rfl a m.un)) (fun f s6 r => ?_) (fun _ _ z => False.elim z)
      cases f with
      | ret u =>
        obtain ⟨v6, σ6, H6, S6, r6, q6⟩ := r
        exact ⟨v6, σ6, H6, S6.unsuite ok, r6, q6⟩
      | next | brk | cont =>
        obtain ⟨σ6, H6, S6, q6⟩ := r
        exact ⟨σ6, H6, S6.unsuite ok, q6⟩
  | @named x n c i ts b₀ suite np hp hds2 l2 nm at_ loc su more ih =>
    obtain ⟨hit, he, yes, no⟩ := w
    refine wpAny_handleBy_cons (codeAny_handlers_test ?_) (by intro q; cases q)
    refine reads nm ((PySem.W.exm_one (M := model X.prog X.w) m.here.kIn typ he).here ?_)
    cases hit with
    | false => exact ih (no rfl)
    | true =>
      refine codeAny_handlers_suite_as ?_
      refine HandSPX.lands_againZ m.fly fun h4 fl4 up4 => ?_
      have m4 : Met X pins σ H B a cls d sI { s with heap := h4 } := ⟨m.inv, m.gr, fl4, m.up.trans up4, m.un, m.os, m.ba⟩
      obtain ⟨oe4, vs4, e4, z4, dt4, S4⟩ := m4.inSuite hf
      refine store_ok (X := X.suite a ((a, oe4) :: (X.pn ++ pins))) (v := .ref a) S4 nd at_ (.inl loc) rfl (fun s5 S5 => ?_) (.inr loc)
      refine wpAny_mono ((su a oe4 cls d (X.pn ++ pins) z4 ⟨_, dt4⟩).run [] s5 _ H _ S5 (yes rfl a m.un)) (fun f s6 r => ?_) (fun _ _ z => False.elim z)
      cases f with
      | ret u =>
        obtain ⟨v6, σ6, H6, S6, r6, q6⟩ := r
        exact gone_ok (S6.unsuite ok) nd at_ loc fun s7 J7 => ⟨v6, _, H6, J7, r6, q6⟩
      | next | brk | cont =>
        obtain ⟨σ6, H6, S6, q6⟩ := r
        exact gone_ok (S6.unsuite ok) nd at_ loc fun s7 J7 => ⟨_, H6, J7, q6⟩
end
section
variable {X : Cx} {body : List Stmt} {h₀ : ExceptHandler} {hds : List ExceptHandler} {l : List Clause} {pos : Pos} {tb : WX → TS} {Wout : WX}
theorem ps_tryMix (hs : X.stack = X.env :: X.outer) (hf : X.env.frame = some X.env.locals) (nd : X.N.Nodup) (tk : Takes X Wout)
    (hb : ∀ (W : WX) (pn : List (Addr × Obj)) (xe : Value → Shared → Prop), Takes (X.tr pn xe) W → PassesOwn (model X.prog X.w) X.A X.env xe → PSs (X.tr pn xe) body (tb W))
    (hc : Clauses X (h₀ :: hds) l) : PS X (.Try body (h₀ :: hds) [] [] pos) (fun D σ H => tb (wMix X.K Wout D l) D σ H) := by
  refine ⟨fun pins s σ H D I q => ?_⟩
  have ok := I.ok
  have hfr : X.A.frames = some (X.env :: X.outer) := by rw [ok.frames, hs]
  let out : Value → Shared → Prop := fun e s₁ => wpAny (model X.prog X.w) X.A (noteFrame e X.env) (fun _ s₂ => wpAny (model X.prog X.w) X.A (setFlight e none)
    (fun _ s₃ => wpAny (model X.prog X.w) X.A (handleBy e X.env (h₀ :: hds)) (SP X pins D) X.xe s₃) X.xe s₂) X.xe s₁
  have run := (hb (wMix X.K Wout D l) (X.pn ++ pins) out (fun u s' xx => by
    obtain ⟨a, B, sI, pins', σ', H', cls, d, rfl, J', gr, up, sky, un, os, ba, w⟩ := xx
    refine Sky.land Zc.steady hfr hf (by rw [← hs]; exact sky) fun h3 fl3 up3 => ?_
    exact Met.clauses hs hf nd tk hc (B := B) (sI := sI) ⟨J'.ofTry ok, gr, fl3, up.trans up3, un, os, ba⟩ w) PassesOwn.looking).run [] s σ H D (I.toTry _) q
  refine wpAny_Try_except (wpAny_mono run (fun f s1 r => ?_) (fun e s1 he => he))
  cases f with
  | next =>
    obtain ⟨σ', H', J', q'⟩ := r
    exact wpAny_execs_nil ⟨σ', H', J'.ofTry ok, q'⟩
  | brk | cont =>
    obtain ⟨σ', H', J', q'⟩ := r
    exact ⟨σ', H', J'.ofTry ok, q'⟩
  | ret u =>
    obtain ⟨v, σ', H', J', rv, q'⟩ := r
    exact ⟨v, σ', H', J'.ofTry ok, rv, q'⟩
end
end MB
end
section
set_option maxRecDepth 100000
namespace MB
open PySem PySem.Spec PyProof.Rows L2
section
variable {K : PySem.W.Frag} {H H' : Hp}
theorem TyX.same {v : V} {t : Value} (h : TyX K H v t) (e : Same H H') : TyX K H' v t := by
  cases h with
  | base b =>
    cases b with
    | non => exact .base .non
    | bl x => exact .base (.bl x)
    | int i => exact .base (.int i)
    | str x => exact .base (.str x)
    | flt x => exact .base (.flt x)
    | lst q => exact .base (.lst (e _ _ q))
    | frz q => exact .base (.frz (e _ _ q))
    | tup q => exact .base (.tup (e _ _ q))
    | dK q => exact .base (.dK (e _ _ q))
    | dT q => exact .base (.dT (e _ _ q))
    | ins q c1 c2 c3 c4 c5 => exact .base (.ins (e _ _ q) c1 c2 c3 c4 c5)
  | byt b => exact .byt b
  | set q => exact .set (e _ _ q)
  | kList q c => exact .kList q c
  | kTuple q c => exact .kTuple q c
  | kDict q c => exact .kDict q c
  | fTuple q => exact .fTuple (e _ _ q)
  | fDict q => exact .fDict (e _ _ q)
def TupQ (K : PySem.W.Frag) (H : Hp) (v : V) : Option (List V) → Prop
  | some xs => ∃ a, v = .ref a ∧ SqT K H a xs
  | none => ∃ t, TyX K H v t ∧ PySem.W.kitOne K t (.type "tuple") = some false
def IntQ (K : PySem.W.Frag) (H : Hp) (v : V) : Option Int → Prop
  | some i => v = .int i
  | none => (∃ b, v = .bl b) ∨ ∃ t, TyX K H v t ∧ PySem.W.kitOne K t (.type "int") = some false
theorem sqT_same {a : Addr} {xs : List V} (e : Same H H') (h : SqT K H a xs) : SqT K H' a xs := by
  rcases h with (q | ⟨o, q⟩) | q
  · exact .inl (.inl (e _ _ q))
  · exact .inl (.inr ⟨o, e _ _ q⟩)
  · exact .inr q
theorem TupQ.same {v : V} {o : Option (List V)} (h : TupQ K H v o) (e : Same H H') : TupQ K H' v o := by
  cases o with
  | some xs =>
    obtain ⟨a, h1, h2⟩ := h
    exact ⟨a, h1, sqT_same e h2⟩
  | none =>
    obtain ⟨t, h1, h2⟩ := h
    exact ⟨t, TyX.same h1 e, h2⟩
theorem IntQ.same {v : V} {o : Option Int} (h : IntQ K H v o) (e : Same H H') : IntQ K H' v o := by
  cases o with
  | some i => exact h
  | none =>
    rcases h with h | ⟨t, h1, h2⟩
    · exact .inl h
    · exact .inr ⟨t, TyX.same h1 e, h2⟩
theorem IntQ.seen {v : V} {o : Option Int} (h : IntQ K H v o) : (∃ i, o = some i ∧ v = .int i) ∨ o = none := by
  cases o with
  | some i => exact .inl ⟨i, rfl, h⟩
  | none => exact .inr rfl
end
end MB
end
section
set_option maxRecDepth 100000
namespace MB
open PySem PySem.Spec PyProof.Rows L2
def keyD : Key → PyData
  | .inl i => .int i
  | .inr x => .str x
mutual
inductive Dq (K : PySem.W.Frag) (H : Hp) : V → PyData → Prop
  | non : Dq K H .non .none
  | bl (b : Bool) : Dq K H (.bl b) (.bool b)
  | int (i : Int) : Dq K H (.int i) (.int i)
  | str (x : Str) : Dq K H (.str x) (.str x)
  | lst {a : Addr} {xs : List V} {ds : List PyData} : SqL K H a xs → DqAll K H xs ds → Dq K H (.ref a) (.list ds)
  | tup {a : Addr} {xs : List V} {ds : List PyData} : SqT K H a xs → DqAll K H xs ds → Dq K H (.ref a) (.tuple ds)
  | dic {a : Addr} {kvs : List (Key × V)} {ds : List (PyData × PyData)} : H a = some (.dK kvs) → DqKv K H kvs ds → Dq K H (.ref a) (.dict ds)
inductive DqAll (K : PySem.W.Frag) (H : Hp) : List V → List PyData → Prop
  | nil : DqAll K H [] []
  | cons {v : V} {vs : List V} {d : PyData} {ds : List PyData} : Dq K H v d → DqAll K H vs ds → DqAll K H (v :: vs) (d :: ds)
inductive DqKv (K : PySem.W.Frag) (H : Hp) : List (Key × V) → List (PyData × PyData) → Prop
  | nil : DqKv K H [] []
  | cons {k : Key} {v : V} {d : PyData} {kvs : List (Key × V)} {ds : List (PyData × PyData)} : Dq K H v d → DqKv K H kvs ds → DqKv K H ((k, v) :: kvs) ((keyD k, d) :: ds)
end
def SM (base : Heap) : Prop := ∃ mm, base.Ns sysModules mm
section
variable {K : PySem.W.Frag} {H H' : Hp}
theorem sqL_same {a : Addr} {xs : List V} (e : Same H H') (h : SqL K H a xs) : SqL K H' a xs := e.seq h
mutual
theorem Dq.same (e : Same H H') : ∀ (d : PyData) (v : V), Dq K H v d → Dq K H' v d
  | .none, _, h => by cases h; exact .non
  | .bool b, _, h => by cases h; exact .bl b
  | .int i, _, h => by cases h; exact .int i
  | .str x, _, h => by cases h; exact .str x
  | .list ds, _, h => by
    cases h with
    | lst h1 h2 => exact .lst (sqL_same e h1) (DqAll.same e ds _ h2)
  | .tuple ds, _, h => by
    cases h with
    | tup h1 h2 => exact .tup (sqT_same e h1) (DqAll.same e ds _ h2)
  | .dict ds, _, h => by
    cases h with
    | dic h1 h2 => exact .dic (e _ _ h1) (DqKv.same e ds _ h2)
theorem DqAll.same (e : Same H H') : ∀ (ds : List PyData) (vs : List V), DqAll K H vs ds → DqAll K H' vs ds
  | [], _, h => by cases h; exact .nil
  | d :: ds, _, h => by
    cases h with
    | cons h1 h2 => exact .cons (Dq.same e d _ h1) (DqAll.same e ds _ h2)
theorem DqKv.same (e : Same H H') : ∀ (ds : List (PyData × PyData)) (kvs : List (Key × V)), DqKv K H kvs ds → DqKv K H' kvs ds
  | [], _, h => by cases h; exact .nil
  | (_, d) :: ds, _, h => by
    cases h with
    | cons h1 h2 => exact .cons (Dq.same e d _ h1) (DqKv.same e ds _ h2)
end
end
section
variable {X : Cx} {pins : List (Addr × Obj)} {σ : L2.St} {H : Hp} {s : Shared}
theorem not_mods (I : L2.Inv X pins σ H s) (sm : SM X.base) {a : Addr} {o : Obj} {vs : Array Value} {n : Nat} (e : s.heap.get? a = some o) (c : o.data = .seq vs n) : sysModules ≠ a := fun z => by
  obtain ⟨mm, o', es, ep, h1, h2, _⟩ := sm
  have h3 := I.bk _ _ h1
  rw [z, e] at h3
  have h4 := Option.some.inj h3
  subst h4
  rw [c] at h2
  cases h2
mutual
theorem Dq.reads (I : L2.Inv X pins σ H s) (sm : SM X.base) : ∀ (d : PyData) (v : V) (u : Value), Dq X.K H v d → RelV v u → ∃ as, Reads s.heap u d as ∧ sysModules ∉ as
  | .none, _, _, h, r => by
    cases h
    cases r
    exact ⟨_, .none, by simp⟩
  | .bool b, _, _, h, r => by
    cases h
    cases r
    exact ⟨_, .bool b, by simp⟩
  | .int i, _, _, h, r => by
    cases h
    obtain ⟨t, rfl⟩ := r
    exact ⟨_, .int i t, by simp⟩
  | .str x, _, _, h, r => by
    cases h
    obtain ⟨t, rfl⟩ := r
    exact ⟨_, .str x t, by simp⟩
  | .list ds, _, _, h, r => by
    cases h with
    | lst hs ha =>
      cases r
      obtain ⟨its, rv, ⟨o, n, ho, hc, _, hd⟩, _⟩ := I.list hs
      obtain ⟨as, hr, no⟩ := DqAll.reads I sm ds _ its ha rv
      refine ⟨_, .list ho hc hd hr, fun z => ?_⟩
      rcases List.mem_cons.mp z with z | z
      · exact not_mods I sm ho hd z
      · exact no z
  | .tuple ds, _, _, h, r => by
    cases h with
    | tup hs ha =>
      cases r
      obtain ⟨its, rv, ⟨o, ho, hc, n, hd⟩, _⟩ := I.tuple hs
      obtain ⟨as, hr, no⟩ := DqAll.reads I sm ds _ its ha rv
      exact ⟨_, .tuple ho hc hd hr, no⟩
  | .dict ds, _, _, h, r => by
    cases h with
    | @dic a kvs _ he hk =>
      cases r
      obtain ⟨_, na, vs, rel, o, es, ep, ho, ex, hd, _, pr, _⟩ := dk_of I.hok he
      obtain ⟨as, bs, h1, h2, no1, no2⟩ := DqKv.reads I sm ds kvs vs es.toList hk rel pr
      refine ⟨_, .dict ho ex.1 hd h1 h2, fun z => ?_⟩
      rcases List.mem_append.mp z with z | z
      · rcases List.mem_cons.mp z with z | z
        · rw [z, beq_self_eq_true] at na
          cases na
        · exact no1 z
      · exact no2 z
theorem DqAll.reads (I : L2.Inv X pins σ H s) (sm : SM X.base) : ∀ (ds : List PyData) (vs : List V) (us : List Value), DqAll X.K H vs ds → Vals vs us → ∃ as, ReadsAll s.heap us ds as ∧ sysModules ∉ as
  | [], _, _, h, r => by
    cases h
    cases r
    exact ⟨_, .nil, by simp⟩
  | d :: ds, _, _, h, r => by
    cases h with
    | cons h1 h2 =>
      cases r with
      | cons r1 r2 =>
        obtain ⟨as, q1, n1⟩ := Dq.reads I sm d _ _ h1 r1
        obtain ⟨bs, q2, n2⟩ := DqAll.reads I sm ds _ _ h2 r2
        refine ⟨_, .cons q1 q2, fun z => ?_⟩
        rcases List.mem_append.mp z with z | z
        · exact n1 z
        · exact n2 z
theorem DqKv.reads (I : L2.Inv X pins σ H s) (sm : SM X.base) : ∀ (ds : List (PyData × PyData)) (kvs : List (Key × V)) (vs : List (Key × Value)) (es : List DictEntry), DqKv X.K H kvs ds → KV kvs vs →
    Pairs (mixKind X.prog X.w) es vs → ∃ as bs, ReadsAll s.heap (es.map (·.key)) (ds.map (·.1)) as ∧ ReadsAll s.heap (es.map (·.val)) (ds.map (·.2)) bs ∧ sysModules ∉ as ∧ sysModules ∉ bs
  | [], _, _, _, h, r, p => by
    cases h
    cases r
    cases p
    exact ⟨_, _, .nil, .nil, by simp, by simp⟩
  | (_, d) :: ds, _, _, _, h, r, p => by
    cases h with
    | @cons k v _ kvs _ h1 h2 =>
      cases r with
      | @cons _ kv _ vs r1 r2 =>
        cases p with
        | @cons e _ es _ p1 p2 p3 =>
          obtain ⟨as, bs, q1, q2, n1, n2⟩ := DqKv.reads I sm ds _ _ _ h2 r2 p3
          obtain ⟨cs, q3, n3⟩ := Dq.reads I sm d _ _ h1 r1.2
          have key : Reads s.heap e.key (keyD k) [] := by
            have p1' : keyIs kv.1 e.key = true := p1
            rw [← r1.1] at p1'
            obtain ⟨i, t, e1, e2⟩ | ⟨x, t, e1, e2⟩ := keyIs_shape p1'
            · rw [show k = .inl i from e1, e2]
              exact .int i t
            · rw [show k = .inr x from e1, e2]
              exact .str x t
          have val : Reads s.heap e.val d cs := by
            rw [p2]
            exact q3
          refine ⟨_, _, .cons key q1, .cons val q2, ?_, ?_⟩
          · simpa using n1
          · intro z
            rcases List.mem_append.mp z with z | z
            · exact n3 z
            · exact n2 z
end
end
structure Told (d : PyData) : Prop where
  sh : d.showable = true
  lv : d.leavesShort 60 = true
  bu : d.bulk ≤ 200000
  de : d.depth ≤ 40
theorem Told.fits {d : PyData} (t : Told d) : d.shown.length ≤ sizeLine := by
  have h := PyData.shown_le_bulk 60 (by decide) d t.lv
  have hb := t.bu
  rw [sizeLine_eq]
  omega
def rTell (K : PySem.W.Frag) : List V → Hp → VK → Prop := fun xs H Q => ∃ x d, xs = [x] ∧ Dq K H x d ∧ Told d ∧ Q (.str d.shown) H
theorem call_tell {X : Cx} (sm : SM X.base) (hgu : X.A.guards = some []) (hu : X.A.units + 64 < cLine) : CallR X (.builtin "repr") (rTell X.K) := by
  intro pins s σ H xs us Q I r h
  obtain ⟨x, d, rfl, hd, t, q⟩ := h
  obtain ⟨u, rfl, ru⟩ := vals1 r
  have hu1 : X.A.units + 1 < cLine := by omega
  have fin : ∀ {a : Addr} {d : PyData}, Dq X.K H (.ref a) d → Told d → (∀ s' : Shared, L2.Inv X pins σ H s' → Q (.str d.shown) H) →
      wpAny (model X.prog X.w) X.A (call (.builtin "repr") [.ref a]) (EP X pins σ Q) X.xe s := fun {a d} hd t q => by
    obtain ⟨as, rd, no⟩ := Dq.reads I sm d _ _ hd (show RelV (.ref a) (.ref a) from rfl)
    have hz := t.de
    refine repr_of_reads' rd t.sh (fun _ => no) hgu (by omega) (fun _ _ e => e) (fun h' u tk k => ?_) t.fits
    have J := I.kept (t' := tk) k
    exact ⟨.str _, H, J, ⟨_, rfl⟩, q _ J⟩
  cases hd with
  | non =>
    cases ru
    simp only [PyData.shown] at q
    exact PySem.P.repr_of_none ⟨.str _, H, I.tok _, ⟨_, rfl⟩, q⟩
  | bl b =>
    cases ru
    simp only [PyData.shown] at q
    exact PySem.P.repr_of_bool ⟨.str _, H, I.tok _, ⟨_, rfl⟩, q⟩
  | int i =>
    obtain ⟨tk, rfl⟩ := ru
    have hs := t.sh
    simp only [PyData.shown] at q
    simp only [PyData.showable, decide_eq_true_eq] at hs
    exact PySem.P.repr_of_int hs ⟨.str _, H, I.tok _, ⟨_, rfl⟩, q⟩
  | str z =>
    obtain ⟨tk, rfl⟩ := ru
    have hl := t.fits
    simp only [PyData.shown] at q hl
    exact PySem.P.repr_of_str ⟨.str _, H, I.tok _, ⟨_, rfl⟩, q⟩ hl
  | lst h1 h2 =>
    cases ru
    exact fin (.lst h1 h2) t fun _ _ => q
  | tup h1 h2 =>
    cases ru
    exact fin (.tup h1 h2) t fun _ _ => q
  | dic h1 h2 =>
    cases ru
    exact fin (.dic h1 h2) t fun _ _ => q
section
variable {K : PySem.W.Frag} {H : Hp}
def asInt : PyData → Option Int
  | .int i => some i
  | _ => none
def asInts : PyData → Option (List (Option Int))
  | .tuple ds => some (ds.map asInt)
  | _ => none
theorem tyx_lst {a : Addr} {xs : List V} (h : SqL K H a xs) : TyX K H (.ref a) (.type "list") := by
  rcases h with (q | ⟨o, q⟩) | ⟨o, its, n, h1, h2, _⟩
  · exact .base (.lst q)
  · exact .base (.frz q)
  · exact .kList h1 h2
theorem tyx_tpl {a : Addr} {xs : List V} (h : SqT K H a xs) : TyX K H (.ref a) (.type "tuple") := by
  rcases h with (q | ⟨o, q⟩) | ⟨o, its, n, h1, h2, _⟩
  · exact .base (.tup q)
  · exact .fTuple q
  · exact .kTuple h1 h2
theorem Dq.int? {v : V} {d : PyData} (h : Dq K H v d) : IntQ K H v (asInt d) := by
  cases h with
  | non => exact .inr ⟨_, .base .non, kit_ty (r := false) (by decide +kernel)⟩
  | bl b => exact .inl ⟨b, rfl⟩
  | int i => rfl
  | str x => exact .inr ⟨_, .base (.str x), kit_ty (r := false) (by decide +kernel)⟩
  | lst h1 h2 => exact .inr ⟨_, tyx_lst h1, kit_ty (r := false) (by decide +kernel)⟩
  | tup h1 h2 => exact .inr ⟨_, tyx_tpl h1, kit_ty (r := false) (by decide +kernel)⟩
  | dic h1 h2 => exact .inr ⟨_, .base (.dK h1), kit_ty (r := false) (by decide +kernel)⟩
theorem DqAll.ints : ∀ {xs : List V} {ds : List PyData}, DqAll K H xs ds → Paired (IntQ K H) xs (ds.map asInt)
  | _, _, .nil => .nil
  | _, _, .cons h1 h2 => .cons h1.int? h2.ints
def asTuple : PyData → Option (List PyData)
  | .tuple ds => some ds
  | _ => none
theorem Dq.noTuple {v : V} {d : PyData} (h : Dq K H v d) (e : asTuple d = none) : TupQ K H v none := by
  cases h with
  | non => exact ⟨_, .base .non, kit_ty (r := false) (by decide +kernel)⟩
  | bl b => exact ⟨_, .base (.bl b), kit_ty (r := false) (by decide +kernel)⟩
  | int i => exact ⟨_, .base (.int i), kit_ty (r := false) (by decide +kernel)⟩
  | str x => exact ⟨_, .base (.str x), kit_ty (r := false) (by decide +kernel)⟩
  | lst h1 h2 => exact ⟨_, tyx_lst h1, kit_ty (r := false) (by decide +kernel)⟩
  | tup h1 h2 => cases e
  | dic h1 h2 => exact ⟨_, .base (.dK h1), kit_ty (r := false) (by decide +kernel)⟩
theorem DqAll.length : ∀ {xs : List V} {ds : List PyData}, DqAll K H xs ds → xs.length = ds.length
  | _, _, .nil => rfl
  | _, _, .cons _ h2 => by rw [List.length_cons, List.length_cons, h2.length]
end
end MB
end
section
set_option maxRecDepth 100000
set_option maxHeartbeats 4000000
namespace MB
open PySem PySem.Spec PyProof.Rows L2
theorem lawM_at {P : Program} {w : World} {K : PySem.W.Frag} {mg mb : Str → Option Value} {k : Nat} {fa a : Addr}
    {fd : FuncData} {x : Str} {sp : Sp} {s₁ : Shared} {us : List Value} {ns : List Int} {H : Hp}
    (KX : K.In s₁.heap) (hns : s₁.heap.Ns mainGlobals mg) (hb : s₁.heap.Ns builtinsNs mb)
    (hbb : ∀ x : Str, x ≠ "__name__" → mb x = bootBuiltins x) (hlim : s₁.heap.NoLimit) (hg : s₁.gens = #[])
    (ha : s₁.heap.get? a = some { cls := .type "list", data := .seq us.toArray }) (hr : Room k callerA)
    (F : ∀ base : Heap, K.In base → base.Ns mainGlobals mg → SM base → FnG P w K mg base k fa fd [x] sp) (hsm : SM s₁.heap)
    (hbind : ∀ (s : Shared) (u : Value), BindsTo s fd ⟨[u], []⟩ [(x, u)])
    (hsp : sp [.ref a] H (fun v _ => v = .bl true) E0) (hO : Only H) (hok : HOk P w H s₁.heap)
    (hA : ∀ b, H b ≠ none → b = a) (hK : H a ≠ none → K.lookup a = none) :
    codeAny (model P w) callerA (.call (.ref fa) ⟨[.ref a], []⟩)
      (fun r s' => r = .ok (.ret (.bool true)) ∧ OldK s₁.heap s'.heap ∧ s'.os = s₁.os ∧ AllBare s'.gens) s₁ := by
  have noA : ∀ {b : Addr} {o : Obj} {es : Array DictEntry} {ep : Nat},
      s₁.heap.get? b = some o → o.data = .dict es ep → H b = none := by
    intro b o es ep e d
    cases q : H b with
    | none => rfl
    | some u =>
      obtain rfl : b = a := hA b (by simp [q])
      rw [ha] at e
      cases e
      exact absurd d (by intro z; cases z)
  have nsK : ∀ {b : Addr} {m : Str → Option Value}, s₁.heap.Ns b m → (hidT s₁.heap H).Ns b m :=
    fun {b m} ⟨o, es, ep, e, d, r⟩ => ⟨o, es, ep, hidT_get e (noA e d), d, r⟩
  have hKb : K.In (hidT s₁.heap H) := by
    intro b o e
    refine hidT_get (KX b o e) ?_
    cases q : H b with
    | none => rfl
    | some u =>
      obtain rfl : b = a := hA b (by simp [q])
      rw [hK (by simp [q])] at e
      cases e
  have hM : Mod K mg (hidT s₁.heap H) :=
    ⟨hKb, nsK hns, ⟨mb, nsK hb, hbb⟩, let ⟨mc, h1, h2⟩ := hlim; ⟨mc, nsK h1, h2⟩⟩
  have e0 : Env0 P w K mg (hidT s₁.heap H) callerA [] s₁ H :=
    ⟨rfl, hM, fun b o e => of_hidT e, Nat.le_of_eq (hidT_size _ _), trivial,
      fun b hb => absurd (show b ∈ ([] : List Addr) from hb) (by simp), hok, .of_eq hg⟩
  refine codeAny_mono ((F _ hKb (nsK hns) (let ⟨mm, z⟩ := hsm; ⟨mm, nsK z⟩)).goes callerA [] s₁ H ⟨[.ref a], []⟩ [.ref a] [.ref a] _ _ hr rfl e0
    (hbind s₁ (.ref a)) (.cons rfl .nil) hsp) fun r s' h => ?_
  cases r with
  | error e => exact h.elim
  | ok fl =>
    cases fl with
    | next => exact False.elim h
    | brk => exact False.elim h
    | cont => exact False.elim h
    | ret u =>
      obtain ⟨v, H', os, bare, un, hok', r', q⟩ := h
      have q' : v = .bl true := q
      subst q'
      obtain rfl : u = Value.bool true := r'
      refine ⟨rfl, OldK.of_keep fun b o e => ?_, os, bare⟩
      cases q : H b with
      | none => exact un.keep b o e q (fun z => absurd (show b ∈ ([] : List Addr) from z) (by simp)) (by simp)
      | some u =>
        rcases hO b with z | ⟨ob, xs, z⟩
        · rw [q] at z
          cases z
        · obtain ⟨e1, _⟩ := hok b _ z
          obtain ⟨e2, _⟩ := hok' b _ (un.frzs b ob _ z)
          rw [e] at e1
          cases e1
          exact e2
theorem lawM_call {P : Program} {w : World} {K : PySem.W.Frag} {mg mb : Str → Option Value} {k : Nat} {fa a : Addr}
    {fd : FuncData} {x : Str} {sp : Sp} {s₁ : Shared} {us : List Value} {ns : List Int}
    (KX : K.In s₁.heap) (hns : s₁.heap.Ns mainGlobals mg) (hb : s₁.heap.Ns builtinsNs mb)
    (hbb : ∀ x : Str, x ≠ "__name__" → mb x = bootBuiltins x) (hlim : s₁.heap.NoLimit) (hg : s₁.gens = #[])
    (ha : s₁.heap.get? a = some { cls := .type "list", data := .seq us.toArray }) (hi : IntsAre us ns)
    (hl : ns.length ≤ sizeLine) (hr : Room k callerA)
    (F : ∀ base : Heap, K.In base → base.Ns mainGlobals mg → SM base → FnG P w K mg base k fa fd [x] sp) (hsm : SM s₁.heap)
    (hbind : ∀ (s : Shared) (u : Value), BindsTo s fd ⟨[u], []⟩ [(x, u)])
    (hsp : ∀ H : Hp, Only H → SqL K H a (ns.map V.int) → sp [.ref a] H (fun v _ => v = .bl true) E0) :
    codeAny (model P w) callerA (.call (.ref fa) ⟨[.ref a], []⟩)
      (fun r s' => r = .ok (.ret (.bool true)) ∧ OldK s₁.heap s'.heap ∧ s'.os = s₁.os ∧ AllBare s'.gens) s₁ := by
  have rv := vals_ints hi
  have len1 := hi.length
  cases hk : K.lookup a with
  | some o =>
    have e := KX a o hk
    rw [ha] at e
    cases e
    have hS : SqL K (fun _ => none) a (ns.map V.int) :=
      Or.inr ⟨_, us.toArray, _, hk, rfl, rfl, rfl, by rw [List.size_toArray, len1]; exact hl, by simpa using rv⟩
    exact lawM_at (H := fun _ => none) (ns := ns) KX hns hb hbb hlim hg ha hr F hsm hbind
      (hsp _ (fun _ => Or.inl rfl) hS) (fun _ => Or.inl rfl)
      (fun b u z => by cases (show (none : Option HO) = some u from z)) (fun b z => absurd rfl z) fun z => absurd rfl z
  | none =>
    let ob : Obj := { cls := .type "list", data := .seq us.toArray }
    let H0 : Hp := fun b => if b = a then some (.frz ob (.lst (ns.map V.int))) else none
    have at0 : H0 a = some (.frz ob (.lst (ns.map V.int))) := if_pos rfl
    have off : ∀ b, b ≠ a → H0 b = none := fun b hb => if_neg hb
    have hO : Only H0 := fun b => by
      by_cases hb : b = a
      · subst hb
        exact Or.inr ⟨_, _, at0⟩
      · exact Or.inl (off b hb)
    have hok : HOk P w H0 s₁.heap := fun b u z => by
      by_cases hb : b = a
      · subst hb
        rw [at0] at z
        cases z
        exact ⟨ha, by rw [List.length_map]; exact hl, us, _, rv, ha⟩
      · rw [off b hb] at z
        cases z
    refine lawM_at (H := H0) (ns := ns) KX hns hb hbb hlim hg ha hr F hsm hbind
      (hsp H0 hO (Or.inl (Or.inr ⟨_, at0⟩))) hO hok (fun b z => ?_) fun _ => hk
    by_cases hb : b = a
    · exact hb
    · exact absurd (off b hb) z
theorem walkM {l : PySem.W.OpenLaw} {n k : Nat} {q : Program} {loose : List Str}
    {XP : (Str → Option Value) → Heap → Prop} {YP : World → Heap → Prop} {d : DefRec}
    {K : Params → PySem.W.Frag} {sp : PySem.W.Frag → Sp} {x : Str} (hn : l.most = some n) (hn2 : n ≤ sizeLine)
    (hdf : d.params.defaults = []) (hq : importsNone q = true) (hr : Room k callerA) (hY : ∀ (w : World) (h : Heap), YP w h → (K w.params).In h)
    (F : ∀ (w : World) (mg : Str → Option Value) (fa : Addr) (h : Heap), (K w.params).In h → h.Ns mainGlobals mg →
      mg d.name = some (.ref fa) → ∃ fd : FuncData, (∀ (s : Shared) (u : Value), BindsTo s fd ⟨[u], []⟩ [(x, u)]) ∧
        ∀ base : Heap, (K w.params).In base → base.Ns mainGlobals mg → SM base →
          FnG l.prog w (K w.params) mg base k fa fd [x] (sp (K w.params)))
    (hsp : ∀ (K : PySem.W.Frag) (H : Hp) (a : Addr) (ns : List Int), ns.length ≤ n → Only H →
      SqL K H a (ns.map V.int) → sp K [.ref a] H (fun v _ => v = .bl true) E0) :
    PySem.W.WalkO q loose XP YP l.row.toRowW d [] (fun f vs => PySem.call f vs) := by
  refine Att.attach_call hn hdf fun w s₀ s₁ mg mb fa o pm cd doc a vs ns G Y ho hd hcd hmg hobj hints hlen hg => ?_
  have KX := hY w _ Y
  have hsm : SM s₁.heap := let ⟨mm, z, _⟩ := (G.T.seer hq).mods; ⟨mm, z⟩
  obtain ⟨fd, hb, hF⟩ := F w mg fa _ KX G.T.g hmg
  exact lawM_call KX G.T.g G.T.b G.T.builtins G.T.nolimit hg hobj hints (Nat.le_trans hlen hn2) hr hF hsm hb
    fun H hO hS => hsp _ H a ns hlen hO hS
end MB
end
section
set_option maxRecDepth 100000
set_option maxHeartbeats 4000000
namespace MB
open PySem PySem.Spec PyProof.Rows L2 LamX PySem.W
abbrev Tb := Addr × Addr × Str
def tbs (tabs : List Tb) : List (Addr × Str) := tabs.map fun t => (t.2.1, t.2.2)
structure TabAt (h : Heap) (t : Tb) : Prop where
  c : CodeHd h t.1 t.2.1
  p : h.get? t.2.1 = some (tabObj #[])
def Shape (tabs : List Tb) (H : Hp) : Prop := ∀ b, H b = none ∨ (∃ ob xs, H b = some (.frz ob (.lst xs))) ∨ (H b = some (.tbl #[]) ∧ ∃ t ∈ tabs, t.2.1 = b)
theorem lawT_at {P : Program} {w : World} {K : PySem.W.Frag} {mg mb : Str → Option Value} {k : Nat} {fa a : Addr}
    {fd : FuncData} {x : Str} {sp : Sp} {s₁ : Shared} {us : List Value} {ns : List Int} {H : Hp} {tabs : List Tb}
    (KX : K.In s₁.heap) (hns : s₁.heap.Ns mainGlobals mg) (hb : s₁.heap.Ns builtinsNs mb)
    (hbb : ∀ x : Str, x ≠ "__name__" → mb x = bootBuiltins x) (hlim : s₁.heap.NoLimit) (hg : s₁.gens = #[])
    (hbm : ∃ bm ob, mg "__builtins__" = some (.ref bm) ∧ bm ≠ builtinsNs ∧ s₁.heap.get? bm = some ob ∧ ob.cls = .type "module" ∧ ob.dict = some builtinsNs ∧ ob.data = .plain)
    (ha : s₁.heap.get? a = some { cls := .type "list", data := .seq us.toArray }) (hr : Room k callerA)
    (hT : ∀ t ∈ tabs, TabAt s₁.heap t) (nK : noTabs K = true)
    (F : ∀ base : Heap, K.In base → base.Ns mainGlobals mg → SM base → (∀ t ∈ tabs, TabB base mg t.1 t.2.1) → FnG P w K mg base k fa fd [x] sp) (hsm : SM s₁.heap)
    (hbind : ∀ (s : Shared) (u : Value), BindsTo s fd ⟨[u], []⟩ [(x, u)])
    (hsp : sp [.ref a] H (fun v _ => v = .bl true) E0) (hO : Shape tabs H) (hok : HOk P w H s₁.heap)
    (hA : ∀ b ob xs, H b = some (.frz ob (.lst xs)) → b = a) (hK : ∀ ob xs, H a = some (.frz ob (.lst xs)) → K.lookup a = none) :
    codeAny (model P w) callerA (.call (.ref fa) ⟨[.ref a], []⟩)
      (fun r s' => r = .ok (.ret (.bool true)) ∧ OldK s₁.heap s'.heap ∧ s'.os = s₁.os ∧ AllBare s'.gens) s₁ := by
  have tbl : ∀ {b : Addr}, H b = some (.tbl #[]) → s₁.heap.get? b = some (tabObj #[]) := fun {b} q => hok b _ q
  have other : ∀ {b : Addr} {o : Obj}, s₁.heap.get? b = some o → o.cls ≠ .type "list" → o ≠ tabObj #[] → H b = none := by
    intro b o e c1 c2
    rcases hO b with q | ⟨ob, xs, q⟩ | ⟨q, _⟩
    · exact q
    · obtain rfl := hA b _ _ q
      rw [ha] at e
      cases e
      exact absurd rfl c1
    · rw [tbl q] at e
      cases e
      exact absurd rfl c2
  have noA : ∀ {b : Addr} {o : Obj} {es : Array DictEntry} {ep : Nat},
      s₁.heap.get? b = some o → o.data = .dict es ep → H b = none := by
    intro b o es ep e d
    rcases hO b with q | ⟨ob, xs, q⟩ | ⟨q, _⟩
    · exact q
    · obtain rfl := hA b _ _ q
      rw [ha] at e
      cases e
      cases d
    · rw [tbl q] at e
      cases e
      cases d
  have nsK : ∀ {b : Addr} {m : Str → Option Value}, s₁.heap.Ns b m → (hidT s₁.heap H).Ns b m :=
    fun {b m} ⟨o, es, ep, e, d, r⟩ => ⟨o, es, ep, hidT_get e (noA e d), d, r⟩
  have hKb : K.In (hidT s₁.heap H) := by
    intro b o e
    refine hidT_get (KX b o e) ?_
    rcases hO b with q | ⟨ob, xs, q⟩ | ⟨q, _⟩
    · exact q
    · obtain rfl := hA b _ _ q
      rw [hK _ _ q] at e
      cases e
    · have z := KX b o e
      rw [tbl q] at z
      cases z
      have h2 := List.all_eq_true.mp nK (b, tabObj #[]) (mem_of_lookupK e)
      exact absurd (show false = true from h2) Bool.false_ne_true
  have hM : Mod K mg (hidT s₁.heap H) :=
    ⟨hKb, nsK hns, ⟨mb, nsK hb, hbb⟩, let ⟨mc, h1, h2⟩ := hlim; ⟨mc, nsK h1, h2⟩⟩
  have e0 : Env0 P w K mg (hidT s₁.heap H) callerA [] s₁ H :=
    ⟨rfl, hM, fun b o e => of_hidT e, Nat.le_of_eq (hidT_size _ _), trivial,
      fun b hb => absurd (show b ∈ ([] : List Addr) from hb) (by simp), hok, .of_eq hg⟩
  have hTB : ∀ t ∈ tabs, TabB (hidT s₁.heap H) mg t.1 t.2.1 := fun t ht => by
    obtain ⟨hc, hp⟩ := hT t ht
    obtain ⟨o, vs, file, tf, flags, tg, inF, text, tt, e1, r1, r⟩ := hc
    obtain ⟨bm, ob, b1, b2, b3, b4, b5, b6⟩ := hbm
    have hgP : mainGlobals ≠ t.2.1 := fun q => by
      obtain ⟨o, es, ep, e, hd, _⟩ := hns
      rw [q, hp] at e
      cases e
      cases hd
    refine ⟨⟨o, vs, file, tf, flags, tg, inF, text, tt, hidT_get e1 (other e1 (by rw [r1]; intro z; injection z with z; exact absurd z (by decide)) (by rintro rfl; cases r1)), r1, r⟩, ⟨bm, ob, b1, b2, ?_, ?_, hidT_get b3 (other b3 (by rw [b4]; intro z; injection z with z; exact absurd z (by decide)) (by rintro rfl; cases b4)), b4, b5, b6⟩, hgP⟩
    · intro q
      obtain ⟨o, es, ep, e, hd, _⟩ := hns
      rw [q, e] at b3
      cases b3
      rw [hd] at b6
      cases b6
    · intro q
      rw [q, hp] at b3
      cases b3
      cases b4
  refine codeAny_mono ((F _ hKb (nsK hns) (let ⟨mm, z⟩ := hsm; ⟨mm, nsK z⟩) hTB).goes callerA [] s₁ H ⟨[.ref a], []⟩ [.ref a] [.ref a] _ _ hr rfl e0
    (hbind s₁ (.ref a)) (.cons rfl .nil) hsp) fun r s' h => ?_
  cases r with
  | error e => exact h.elim
  | ok fl =>
    cases fl with
    | next => exact False.elim h
    | brk => exact False.elim h
    | cont => exact False.elim h
    | ret u =>
      obtain ⟨v, H', os, bare, un, hok', r', q⟩ := h
      have q' : v = .bl true := q
      subst q'
      obtain rfl : u = Value.bool true := r'
      have kept : ∀ b o, s₁.heap.get? b = some o → (H b = none ∨ ∃ ob xs, H b = some (.frz ob (.lst xs))) → s'.heap.get? b = some o := fun b o e c => by
        rcases c with q | ⟨ob, xs, z⟩
        · exact un.keep b o e q (fun z => absurd (show b ∈ ([] : List Addr) from z) (by simp)) (by simp)
        · obtain ⟨e1, _⟩ := hok b _ z
          obtain ⟨e2, _⟩ := hok' b _ (un.frzs b ob _ z)
          rw [e] at e1
          cases e1
          exact e2
      have grown : ∀ b o, s₁.heap.get? b = some o → H b = some (.tbl #[]) → ∃ more, s'.heap.get? b = some (tabObj (#[] ++ more)) := fun b o e q => by
        obtain ⟨more, z⟩ := un.tbls b _ q
        exact ⟨more, hok' b _ z⟩
      refine ⟨rfl, ⟨fun b o e => ?_, fun b o e => ?_⟩, os, bare⟩
      · rcases hO b with q | q | ⟨q, t, ht, hb⟩
        · exact .inl (kept b o e (.inl q))
        · exact .inl (kept b o e (.inr q))
        · obtain ⟨more, z⟩ := grown b o e q
          have e' := tbl q
          rw [e] at e'
          cases e'
          refine .inr (.inl ⟨?_, rfl, #[], more, rfl, z⟩)
          rw [← hb]
          exact ((hT t ht).c.tab (hT t ht).p).isCodeTable
      · rcases hO b with q | q | ⟨q, t, ht, hb⟩
        · exact ⟨_, kept b o e (.inl q)⟩
        · exact ⟨_, kept b o e (.inr q)⟩
        · obtain ⟨more, z⟩ := grown b o e q
          exact ⟨_, z⟩
theorem lawT_call {P : Program} {w : World} {K : PySem.W.Frag} {mg mb : Str → Option Value} {k : Nat} {fa a : Addr}
    {fd : FuncData} {x : Str} {sp : Sp} {s₁ : Shared} {us : List Value} {ns : List Int} {tabs : List Tb}
    (KX : K.In s₁.heap) (hns : s₁.heap.Ns mainGlobals mg) (hb : s₁.heap.Ns builtinsNs mb)
    (hbb : ∀ x : Str, x ≠ "__name__" → mb x = bootBuiltins x) (hlim : s₁.heap.NoLimit) (hg : s₁.gens = #[])
    (hbm : ∃ bm ob, mg "__builtins__" = some (.ref bm) ∧ bm ≠ builtinsNs ∧ s₁.heap.get? bm = some ob ∧ ob.cls = .type "module" ∧ ob.dict = some builtinsNs ∧ ob.data = .plain)
    (ha : s₁.heap.get? a = some { cls := .type "list", data := .seq us.toArray }) (hi : IntsAre us ns)
    (hl : ns.length ≤ sizeLine) (hr : Room k callerA)
    (hT : ∀ t ∈ tabs, TabAt s₁.heap t) (nK : noTabs K = true)
    (F : ∀ base : Heap, K.In base → base.Ns mainGlobals mg → SM base → (∀ t ∈ tabs, TabB base mg t.1 t.2.1) → FnG P w K mg base k fa fd [x] sp) (hsm : SM s₁.heap)
    (hbind : ∀ (s : Shared) (u : Value), BindsTo s fd ⟨[u], []⟩ [(x, u)])
    (hsp : ∀ H : Hp, (∀ t ∈ tabs, H t.2.1 = some (.tbl #[])) → SqL K H a (ns.map V.int) → sp [.ref a] H (fun v _ => v = .bl true) E0) :
    codeAny (model P w) callerA (.call (.ref fa) ⟨[.ref a], []⟩)
      (fun r s' => r = .ok (.ret (.bool true)) ∧ OldK s₁.heap s'.heap ∧ s'.os = s₁.os ∧ AllBare s'.gens) s₁ := by
  have rv := vals_ints hi
  have len1 := hi.length
  let isT : Addr → Bool := fun b => tabs.any fun t => t.2.1 == b
  have isT_of : ∀ {b}, isT b = true → ∃ t ∈ tabs, t.2.1 = b := fun {b} z => by
    obtain ⟨t, ht, e⟩ := List.any_eq_true.mp z
    exact ⟨t, ht, beq_iff_eq.mp e⟩
  have isT_at : ∀ t ∈ tabs, isT t.2.1 = true := fun t ht => List.any_eq_true.mpr ⟨t, ht, beq_self_eq_true _⟩
  have at_tab : ∀ {b}, isT b = true → s₁.heap.get? b = some (tabObj #[]) := fun {b} z => by
    obtain ⟨t, ht, e⟩ := isT_of z
    rw [← e]
    exact (hT t ht).p
  have nA : isT a = false := by
    cases z : isT a with
    | false => rfl
    | true =>
      have e := at_tab z
      rw [ha] at e
      cases e
  cases hk : K.lookup a with
  | some o =>
    have e := KX a o hk
    rw [ha] at e
    cases e
    let H0 : Hp := fun b => if isT b = true then some (.tbl #[]) else none
    have cases0 : ∀ b, (isT b = true ∧ H0 b = some (.tbl #[])) ∨ (isT b = false ∧ H0 b = none) := fun b => by
      cases z : isT b with
      | true => exact .inl ⟨rfl, if_pos z⟩
      | false => exact .inr ⟨rfl, if_neg (by rw [z]; decide)⟩
    have hS : SqL K H0 a (ns.map V.int) :=
      Or.inr ⟨_, us.toArray, _, hk, rfl, rfl, rfl, by rw [List.size_toArray, len1]; exact hl, by simpa using rv⟩
    refine lawT_at (H := H0) (ns := ns) KX hns hb hbb hlim hg hbm ha hr hT nK F hsm hbind
      (hsp _ (fun t ht => if_pos (isT_at t ht)) hS) (fun b => ?_) (fun b u z => ?_) (fun b ob xs z => ?_) fun ob xs z => ?_
    · rcases cases0 b with ⟨h1, h2⟩ | ⟨_, h2⟩
      · exact .inr (.inr ⟨h2, isT_of h1⟩)
      · exact .inl h2
    · rcases cases0 b with ⟨h1, h2⟩ | ⟨_, h2⟩
      · rw [h2] at z
        cases z
        exact at_tab h1
      · rw [h2] at z
        cases z
    · rcases cases0 b with ⟨h1, h2⟩ | ⟨_, h2⟩
      · rw [h2] at z
        cases z
      · rw [h2] at z
        cases z
    · rcases cases0 a with ⟨h1, h2⟩ | ⟨_, h2⟩
      · rw [h2] at z
        cases z
      · rw [h2] at z
        cases z
  | none =>
    let ob : Obj := { cls := .type "list", data := .seq us.toArray }
    let H0 : Hp := fun b => if b = a then some (.frz ob (.lst (ns.map V.int))) else if isT b = true then some (.tbl #[]) else none
    have at0 : H0 a = some (.frz ob (.lst (ns.map V.int))) := if_pos rfl
    have cases0 : ∀ b, (b = a) ∨ (isT b = true ∧ H0 b = some (.tbl #[])) ∨ (isT b = false ∧ H0 b = none) := fun b => by
      by_cases hb : b = a
      · exact .inl hb
      · refine .inr ?_
        have e : H0 b = if isT b = true then some (.tbl #[]) else none := if_neg hb
        rw [e]
        cases z : isT b with
        | true => exact .inl ⟨rfl, if_pos rfl⟩
        | false => exact .inr ⟨rfl, if_neg (by decide)⟩
    refine lawT_at (H := H0) (ns := ns) KX hns hb hbb hlim hg hbm ha hr hT nK F hsm hbind
      (hsp H0 (fun t ht => ?_) (Or.inl (Or.inr ⟨_, at0⟩))) (fun b => ?_) (fun b u z => ?_) (fun b ob' xs z => ?_) fun _ _ _ => hk
    · rcases cases0 t.2.1 with e | ⟨_, e⟩ | ⟨e, _⟩
      · have := isT_at t ht
        rw [e, nA] at this
        cases this
      · exact e
      · rw [isT_at t ht] at e
        cases e
    · rcases cases0 b with rfl | ⟨h1, h2⟩ | ⟨_, h2⟩
      · exact .inr (.inl ⟨_, _, at0⟩)
      · exact .inr (.inr ⟨h2, isT_of h1⟩)
      · exact .inl h2
    · rcases cases0 b with rfl | ⟨h1, h2⟩ | ⟨_, h2⟩
      · rw [at0] at z
        cases z
        exact ⟨ha, by rw [List.length_map]; exact hl, us, _, rv, ha⟩
      · rw [h2] at z
        cases z
        exact at_tab h1
      · rw [h2] at z
        cases z
    · rcases cases0 b with e | ⟨h1, h2⟩ | ⟨_, h2⟩
      · exact e
      · rw [h2] at z
        cases z
      · rw [h2] at z
        cases z
theorem walkT {l : PySem.W.OpenLaw} {n k : Nat} {q : Program} {loose : List Str}
    {XP : (Str → Option Value) → Heap → Prop} {YP : World → Heap → Prop} {d : DefRec}
    {K : Params → PySem.W.Frag} {sp : PySem.W.Frag → List (Addr × Str) → Sp} {x : Str} (hn : l.most = some n) (hn2 : n ≤ sizeLine)
    (hdf : d.params.defaults = []) (hq : importsNone q = true) (hr : Room k callerA) (hY : ∀ (w : World) (h : Heap), YP w h → (K w.params).In h)
    (F : ∀ (w : World) (mg : Str → Option Value) (fa : Addr) (h : Heap), (K w.params).In h → h.Ns mainGlobals mg →
      (∀ (x : Str) (r : DefRec) (c P : Addr), (recsOf q).find? (fun e => e.name == x) = some r → tabIn (K w.params) x = some (c, P) → CodeHd h c P ∧ h.get? P = some (tabObj #[])) →
      mg d.name = some (.ref fa) → ∃ (fd : FuncData) (tabs : List Tb), (∀ t ∈ tabs, TabAt h t) ∧ noTabs (K w.params) = true ∧ (∀ (s : Shared) (u : Value), BindsTo s fd ⟨[u], []⟩ [(x, u)]) ∧
        ∀ base : Heap, (K w.params).In base → base.Ns mainGlobals mg → SM base → (∀ t ∈ tabs, TabB base mg t.1 t.2.1) →
          FnG l.prog w (K w.params) mg base k fa fd [x] (sp (K w.params) (tbs tabs)))
    (hsp : ∀ (K : PySem.W.Frag) (H : Hp) (a : Addr) (ns : List Int) (T : List (Addr × Str)), ns.length ≤ n → Tabs T H →
      SqL K H a (ns.map V.int) → sp K T [.ref a] H (fun v _ => v = .bl true) E0) :
    PySem.W.WalkO q loose XP YP l.row.toRowW d [] (fun f vs => PySem.call f vs) := by
  refine Att.attach_call hn hdf fun w s₀ s₁ mg mb fa o pm cd doc a vs ns G Y ho hd hcd hmg hobj hints hlen hg => ?_
  have KX := hY w _ Y
  have hsm : SM s₁.heap := let ⟨mm, z, _⟩ := (G.T.seer hq).mods; ⟨mm, z⟩
  obtain ⟨fd, tabs, hT, nK, hb, hF⟩ := F w mg fa _ KX G.T.g (fun x r c P hr ht => tab_of G.T KX hr ht) hmg
  exact lawT_call KX G.T.g G.T.b G.T.builtins G.T.nolimit hg G.T.bmain hobj hints (Nat.le_trans hlen hn2) hr hT nK hF hsm hb
    fun H hH hS => hsp _ H a ns _ hlen (fun p hp => by
      obtain ⟨t, ht, rfl⟩ := List.mem_map.mp hp
      exact TabS.nil (hH t ht)) hS
end MB
end
section
set_option maxRecDepth 100000
set_option maxHeartbeats 4000000
namespace MB
open PySem PySem.Spec PyProof.Rows L2
def dk (kL : Str) (l : Addr) (m n : Int) : List (Key × V) := [(.inr kL, .ref l), (.inr "mixed", .int m), (.inr "draws", .int n)]
structure Deck (kL : Str) (H : Hp) (d l : Addr) : Prop where
  ex : ∃ (m n : Int) (cs : List Int), H d = some (.dK (dk kL l m n)) ∧ H l = some (.lst (cs.map V.int)) ∧ cs.length ≤ 63 ∧ 0 ≤ m ∧ m < 2147483648
def But (d l : Addr) (H H' : Hp) : Prop := ∀ b o, H b = some o → b ≠ d → b ≠ l → H' b = some o
structure KOk (kL : Str) : Prop where
  m : ¬ kL = ("mixed" : Str)
  d : ¬ kL = ("draws" : Str)
theorem md : ¬ ("mixed" : Str) = ("draws" : Str) := by decide +kernel
theorem key_ne {a b : Str} (h : ¬ a = b) : ¬ ((Sum.inr a : Key) = Sum.inr b) := fun e => h (Sum.inr.inj e)
section
variable {kL : Str} {l d : Addr} {m n : Int} {H H' H1 : Hp}
theorem dk_left : valV (dk kL l m n) (.inr kL : Key) = some (.ref l) := valV_pos rfl
theorem dk_mixed (k : KOk kL) : valV (dk kL l m n) (.inr "mixed" : Key) = some (.int m) := by
  unfold dk
  rw [valV_neg (key_ne k.m)]
  exact valV_pos rfl
theorem dk_draws (k : KOk kL) : valV (dk kL l m n) (.inr "draws" : Key) = some (.int n) := by
  unfold dk
  rw [valV_neg (key_ne k.d), valV_neg (key_ne md)]
  exact valV_pos rfl
theorem dk_put (k : KOk kL) (n' : Int) : putK (dk kL l m n) (.inr "draws" : Key) (.int n') = dk kL l m n' := by
  have e1 : ¬ ((Sum.inr kL : Key) = (Sum.inr ("draws" : Str) : Key)) := key_ne k.d
  have e2 : ¬ ((Sum.inr ("mixed" : Str) : Key) = (Sum.inr ("draws" : Str) : Key)) := key_ne md
  have e3 : ((dk kL l m n).any fun kv => decide (kv.1 = (Sum.inr ("draws" : Str) : Key))) = true := by
    unfold dk
    simp [List.any_cons]
  unfold putK
  rw [if_pos e3]
  unfold dk
  simp only [List.map_cons, List.map_nil]
  rw [if_neg e1, if_neg e2, if_pos True.intro]
theorem dk_merge (k : KOk kL) : mergeK [] (dk kL l m n) = dk kL l m n := by
  have e1 : ¬ ((Sum.inr kL : Key) = (Sum.inr ("draws" : Str) : Key)) := key_ne k.d
  have e2 : ¬ ((Sum.inr ("mixed" : Str) : Key) = (Sum.inr ("draws" : Str) : Key)) := key_ne md
  have e3 : ¬ ((Sum.inr kL : Key) = (Sum.inr ("mixed" : Str) : Key)) := key_ne k.m
  unfold mergeK dk
  simp only [List.foldl_cons, List.foldl_nil]
  unfold putK
  simp [e1, e2, e3]
theorem Deck.ne (D : Deck kL H d l) : d ≠ l := by
  obtain ⟨m, n, cs, h1, h2, _⟩ := D.ex
  exact ne_of h1 h2 (by intro z; cases z)
theorem Deck.same (D : Deck kL H d l) (e : Same H H') : Deck kL H' d l := by
  obtain ⟨m, n, cs, h1, h2, h3⟩ := D.ex
  exact ⟨m, n, cs, e _ _ h1, e _ _ h2, h3⟩
theorem But.refl : But d l H H := fun _ _ h _ _ => h
theorem But.of (e : Same H H') : But d l H H' := fun b o h _ _ => e b o h
theorem But.trans (a : But d l H H') (b : But d l H' H1) : But d l H H1 := fun c o h h1 h2 => b c o (a c o h h1 h2) h1 h2
theorem But.same (a : But d l H H') (b : Same H' H1) : But d l H H1 := fun c o h h1 h2 => b c o (a c o h h1 h2)
theorem But.free (D : Deck kL H' d l) (e : But d l H H') {p : Addr} (h : H' p = none) : H p = none := by
  obtain ⟨m, n, cs, h1, h2, _⟩ := D.ex
  cases q : H p with
  | none => rfl
  | some o =>
    by_cases hd : p = d
    · subst hd
      rw [h1] at h
      cases h
    · by_cases hl : p = l
      · subst hl
        rw [h2] at h
        cases h
      · rw [e p o q hd hl] at h
        cases h
theorem Deck.off {p : Addr} (D : Deck kL H d l) (h : H p = none) : p ≠ d ∧ p ≠ l := by
  obtain ⟨m, n, cs, h1, h2, _⟩ := D.ex
  exact ⟨(ne_of_none h1 h).symm, (ne_of_none h2 h).symm⟩
theorem Deck.off_tup {p : Addr} {xs : List V} (D : Deck kL H d l) (h : H p = some (.tup xs)) : p ≠ d ∧ p ≠ l := by
  obtain ⟨m, n, cs, h1, h2, _⟩ := D.ex
  exact ⟨ne_of h h1 (by intro z; cases z), ne_of h h2 (by intro z; cases z)⟩
theorem Deck.off_frz {p : Addr} {o : Obj} {u : HO} (D : Deck kL H d l) (h : H p = some (.frz o u)) : p ≠ d ∧ p ≠ l := by
  obtain ⟨m, n, cs, h1, h2, _⟩ := D.ex
  exact ⟨ne_of h h1 (by intro z; cases z), ne_of h h2 (by intro z; cases z)⟩
theorem But.tup {K : PySem.W.Frag} {a : Addr} {xs : List V} (D : Deck kL H d l) (e : But d l H H') (h : SqT K H a xs) : SqT K H' a xs := by
  rcases h with (h | ⟨o, h⟩) | h
  · obtain ⟨h1, h2⟩ := D.off_tup h
    exact .inl (.inl (e _ _ h h1 h2))
  · obtain ⟨h1, h2⟩ := D.off_frz h
    exact .inl (.inr ⟨o, e _ _ h h1 h2⟩)
  · exact .inr h
theorem But.upd {p : Addr} {o : HO} (h : H p = none) (e : But d l H H') : But d l H (upd H' p o) := fun b u q h1 h2 => by
  rw [upd_ne (ne_of_none q h)]
  exact e b u q h1 h2
theorem Deck.upd {p : Addr} {o : HO} (D : Deck kL H d l) (h1 : p ≠ d) (h2 : p ≠ l) : Deck kL (upd H p o) d l := by
  obtain ⟨m, n, cs, e1, e2, e3⟩ := D.ex
  exact ⟨m, n, cs, by rw [upd_ne h1.symm]; exact e1, by rw [upd_ne h2.symm]; exact e2, e3⟩
end
theorem ints_lay : ∀ ns : List Int, PyData.canLayAll0 (ns.map PyData.int) = true
  | [] => by simp only [List.map_nil, PyData.canLayAll0]
  | n :: r => by
    simp only [List.map_cons, PyData.canLayAll0, PyData.canLay0, ints_lay r, Bool.and_self]
theorem ints_depth : ∀ ns : List Int, PyData.depthAll (ns.map PyData.int) = 0
  | [] => by simp only [List.map_nil, PyData.depthAll]
  | n :: r => by
    simp only [List.map_cons, PyData.depthAll, PyData.depth, ints_depth r, Nat.max_self]
theorem lst_shaped (ns : List Int) : SeqAt.shaped (.list (ns.map PyData.int)) = true := by
  unfold SeqAt.shaped
  simp only [PyData.canLay0, PyData.depth, ints_lay, ints_depth]
  decide
theorem tup_shaped (ns : List Int) : SeqAt.shaped (.tuple (ns.map PyData.int)) = true := by
  unfold SeqAt.shaped
  simp only [PyData.canLay0, PyData.depth, ints_lay, ints_depth]
  decide
theorem dp_ints {K : PySem.W.Frag} {H : Hp} : ∀ ns : List Int, DpAll K H (ns.map V.int) (ns.map PyData.int)
  | [] => .nil
  | n :: r => .cons (.int n) (dp_ints r)
theorem eqv_lnil (ns : List Int) : PyData.eqv (.list (ns.map PyData.int)) (.list []) = ns.isEmpty := by
  cases ns with
  | nil => simp only [List.map_nil, PyData.eqv, PyData.eqvAll, List.isEmpty_nil]
  | cons a r => simp only [List.map_cons, PyData.eqv, PyData.eqvAll, List.isEmpty_cons]
theorem eqv_tnil (ns : List Int) : PyData.eqv (.tuple (ns.map PyData.int)) (.tuple []) = ns.isEmpty := by
  cases ns with
  | nil => simp only [List.map_nil, PyData.eqv, PyData.eqvAll, List.isEmpty_nil]
  | cons a r => simp only [List.map_cons, PyData.eqv, PyData.eqvAll, List.isEmpty_cons]
theorem ne_nil_rd {K : PySem.W.Frag} {H : Hp} {l p : Addr} {ns : List Int} {Q : VK} (h : SqL K H l (ns.map V.int)) (hp : SqL K H p []) (q : Q (.bl (!ns.isEmpty)) H) : rNeD K (.ref l) (.ref p) H Q := by
  refine ⟨.list (ns.map PyData.int), .list [], .lst h (dp_ints ns), .lst hp .nil, lst_shaped ns, lst_shaped [], ?_⟩
  rw [eqv_lnil]
  exact q
theorem tne_nil_rd {K : PySem.W.Frag} {H : Hp} {l p : Addr} {ns : List Int} {Q : VK} (h : SqT K H l (ns.map V.int)) (hp : SqT K H p []) (q : Q (.bl (!ns.isEmpty)) H) : rNeD K (.ref l) (.ref p) H Q := by
  refine ⟨.tuple (ns.map PyData.int), .tuple [], .tup h (dp_ints ns), .tup hp .nil, tup_shaped ns, tup_shaped [], ?_⟩
  rw [eqv_tnil]
  exact q
end MB
end
section
set_option maxRecDepth 100000
namespace MB
open PySem PySem.Spec PyProof.Rows L2
def hide (d l : Addr) (H : Hp) : Hp := fun b => if b = d ∨ b = l then none else H b
section
variable {d l p : Addr} {H H' : Hp} {o : HO} {kL : Str} {K : PySem.W.Frag}
theorem hide_off (h1 : p ≠ d) (h2 : p ≠ l) : hide d l H p = H p := if_neg fun z => z.elim h1 h2
theorem hide_sub : Same (hide d l H) H := fun b u e => by
  unfold hide at e
  split at e
  · cases e
  · exact e
theorem hide_none (h : H p = none) : hide d l H p = none := by
  unfold hide
  split
  · rfl
  · exact h
theorem But.hide (e : But d l H H') : Same (MB.hide d l H) (MB.hide d l H') := fun b u q => by
  unfold MB.hide at q ⊢
  split at q
  · cases q
  · rename_i n
    rw [if_neg n]
    exact e b u q (fun z => n (.inl z)) fun z => n (.inr z)
theorem hide_upd (h1 : p ≠ d) (h2 : p ≠ l) : hide d l (upd H p o) = upd (hide d l H) p o := by
  funext b
  by_cases hb : b = p
  · subst hb
    rw [hide_off h1 h2, upd_same, upd_same]
  · rw [upd_ne hb]
    unfold hide
    rw [upd_ne hb]
theorem Deck.new (D : Deck kL H d l) (h : H p = none) : hide d l (L2.upd H p o) = L2.upd (hide d l H) p o := hide_upd (D.off h).1 (D.off h).2
theorem Deck.same_new (D : Deck kL H d l) (h : H p = none) : Same (hide d l H) (hide d l (L2.upd H p o)) := by
  rw [D.new h]
  exact fun b u q => by
    rw [upd_ne (ne_of_none q (hide_none h))]
    exact q
theorem Deck.at_new (D : Deck kL H d l) (h : H p = none) : hide d l (L2.upd H p o) p = some o := by
  rw [D.new h, upd_same]
theorem sqT_hide (D : Deck kL H d l) {a : Addr} {xs : List V} (h : SqT K H a xs) : SqT K (hide d l H) a xs := by
  rcases h with (h | ⟨o, h⟩) | h
  · obtain ⟨h1, h2⟩ := D.off_tup h
    exact .inl (.inl ((hide_off h1 h2).trans h))
  · obtain ⟨h1, h2⟩ := D.off_frz h
    exact .inl (.inr ⟨o, (hide_off h1 h2).trans h⟩)
  · exact .inr h
theorem same_hide (e : Same H H') : Same (hide d l H) (hide d l H') := (But.of e).hide
def SqAny (K : PySem.W.Frag) (H : Hp) (a : Addr) (xs : List V) : Prop := SqT K H a xs ∨ SqL K H a xs
theorem SqAny.same {a : Addr} {xs : List V} (h : SqAny K H a xs) (e : Same H H') : SqAny K H' a xs := by
  rcases h with h | h
  · exact .inl (sqT_same e h)
  · exact .inr (sqL_same e h)
end
end MB
end
section
set_option maxRecDepth 100000
set_option maxHeartbeats 4000000
namespace MB
open PySem PySem.Spec PyProof.Rows L2 LamX
def noT (H : Hp) : Hp := fun b => match H b with
  | some (.tbl _) => none
  | o => o
section
variable {H H' : Hp}
theorem noT_sub : Same (noT H) H := fun b u e => by
  unfold noT at e
  split at e
  · cases e
  · exact e
theorem noT_some {b : Addr} {o : HO} (h : H b = some o) (n : ∀ ps, o ≠ .tbl ps) : noT H b = some o := by
  unfold noT
  split
  · rename_i ps e
    rw [h] at e
    exact absurd (Option.some.inj e) (n ps)
  · exact h
theorem noT_at {b : Addr} {o : HO} (h : noT H b = some o) : ∀ ps, o ≠ .tbl ps := fun ps z => by
  subst z
  have e := noT_sub _ _ h
  unfold noT at h
  rw [e] at h
  cases h
theorem extN_noT (e : ExtN H H') : Same (noT H) (noT H') := fun b o h => noT_some (e b o (noT_sub _ _ h) (noT_at h)) (noT_at h)
theorem same_extN (e : Same H H') : ExtN H H' := .of e
theorem same_noT (e : Same H H') : Same (noT H) (noT H') := extN_noT (.of e)
theorem noT_none {p : Addr} (h : H p = none) : noT H p = none := by
  unfold noT
  rw [h]
theorem sqT_noT {K : PySem.W.Frag} {a : Addr} {xs : List V} (h : SqT K H a xs) : SqT K (noT H) a xs := by
  rcases h with (h | ⟨o, h⟩) | h
  · exact .inl (.inl (noT_some h (by intro ps z; cases z)))
  · exact .inl (.inr ⟨o, noT_some h (by intro ps z; cases z)⟩)
  · exact .inr h
theorem sqL_noT {K : PySem.W.Frag} {a : Addr} {xs : List V} (h : SqL K H a xs) : SqL K (noT H) a xs := by
  rcases h with (h | ⟨o, h⟩) | h
  · exact .inl (.inl (noT_some h (by intro ps z; cases z)))
  · exact .inl (.inr ⟨o, noT_some h (by intro ps z; cases z)⟩)
  · exact .inr h
mutual
theorem Dq.noT {K : PySem.W.Frag} : ∀ (d : PyData) (v : V), Dq K H v d → Dq K (noT H) v d
  | .none, _, h => by cases h; exact .non
  | .bool b, _, h => by cases h; exact .bl b
  | .int i, _, h => by cases h; exact .int i
  | .str x, _, h => by cases h; exact .str x
  | .list ds, _, h => by
    cases h with
    | lst h1 h2 => exact .lst (sqL_noT h1) (DqAll.noT ds _ h2)
  | .tuple ds, _, h => by
    cases h with
    | tup h1 h2 => exact .tup (sqT_noT h1) (DqAll.noT ds _ h2)
  | .dict ds, _, h => by
    cases h with
    | dic h1 h2 => exact .dic (noT_some h1 (by intro ps z; cases z)) (DqKv.noT ds _ h2)
theorem DqAll.noT {K : PySem.W.Frag} : ∀ (ds : List PyData) (vs : List V), DqAll K H vs ds → DqAll K (noT H) vs ds
  | [], _, h => by cases h; exact .nil
  | d :: ds, _, h => by
    cases h with
    | cons h1 h2 => exact .cons (Dq.noT d _ h1) (DqAll.noT ds _ h2)
theorem DqKv.noT {K : PySem.W.Frag} : ∀ (ds : List (PyData × PyData)) (kvs : List (Key × V)), DqKv K H kvs ds → DqKv K (noT H) kvs ds
  | [], _, h => by cases h; exact .nil
  | (_, d) :: ds, _, h => by
    cases h with
    | cons h1 h2 => exact .cons (Dq.noT d _ h1) (DqKv.noT ds _ h2)
end
theorem Dq.extN {K : PySem.W.Frag} {d : PyData} {v : V} (e : ExtN H H') (h : Dq K H v d) : Dq K H' v d := Dq.same noT_sub _ _ (Dq.same (extN_noT e) _ _ (Dq.noT _ _ h))
theorem SqT.extN {K : PySem.W.Frag} {a : Addr} {xs : List V} (e : ExtN H H') (h : SqT K H a xs) : SqT K H' a xs := sqT_same noT_sub (sqT_same (extN_noT e) (sqT_noT h))
theorem SqL.extN {K : PySem.W.Frag} {a : Addr} {xs : List V} (e : ExtN H H') (h : SqL K H a xs) : SqL K H' a xs := sqL_same noT_sub (sqL_same (extN_noT e) (sqL_noT h))
end
structure FunL (K : PySem.W.Frag) (x qual : Str) (st : Stmt) (f : Addr) (fd : FuncData) (c : Addr) : Prop where
  ex : ∃ (oc : Value) (od : Option Addr) (kV doc pm : Value) (an : Option Addr) (ct : Value) (osl : Array (Option Value)),
    fd = PySem.W.fnOf x qual (defArgs st) (defBody st) (defScope st) .none kV doc pm an (.ref c) ct ∧ K.lookup f = some ⟨oc, od, .func fd, osl⟩ ∧ PySem.W.codeIn K (.ref c) qual = true
  kp : PySem.W.keepIn K (.ref f) = true
theorem FunL.bindsL {K : PySem.W.Frag} {x qual : Str} {st : Stmt} {f c : Addr} {fd : FuncData} {ps : List Str} (F : FunL K x qual st f fd c)
    (h : ∀ (kV doc pm : Value) (an : Option Addr) (cdv ct : Value) (us : List Value), us.length = ps.length → bindArgs (PySem.W.fnOf x qual (defArgs st) (defBody st) (defScope st) .none kV doc pm an cdv ct) ⟨us, []⟩ = pure (ps.zip us)) : L2.Binds K fd ps [] := by
  obtain ⟨oc, od, kV, doc, pm, an, ct, osl, rfl, lk, hcd⟩ := F.ex
  exact .all (h kV doc pm an (.ref c) ct)
theorem funL_mk {K : PySem.W.Frag} {x qual : Str} {st : Stmt} {f c : Addr} {oc : Value} {od an : Option Addr} {osl : Array (Option Value)} {kV doc pm ct : Value} (l : K.lookup f = some ⟨oc, od, .func (PySem.W.fnOf x qual (defArgs st) (defBody st) (defScope st) .none kV doc pm an (.ref c) ct), osl⟩)
    (cd : PySem.W.codeIn K (.ref c) qual = true) (k : PySem.W.keepIn K (.ref f) = true) : FunL K x qual st f (PySem.W.fnOf x qual (defArgs st) (defBody st) (defScope st) .none kV doc pm an (.ref c) ct) c := ⟨⟨oc, od, kV, doc, pm, an, ct, osl, rfl, l, cd⟩, k⟩
section
variable {P : Program} {w : World} {K : PySem.W.Frag} {mg : Str → Option Value} {base : Heap}
variable {k : Nat} {f : Addr} {fd : FuncData} {ps : List Str} {sp : Sp}
theorem fnGL {x qual : Str} {st : Stmt} {N : List Str} {c : Addr} (F : FunL K x qual st f fd c)
    (S : FnScope N ps (defScope st)) (many : ∀ xs H Q E, sp xs H Q E → xs.length = ps.length)
    (body : ∀ (A : Around) (outer : List Env) (s : Shared) (H : Hp) (xs : List V)
      (Q : VK) (E : XK),
      Room k (A.deeper (envOfC qual (defScope st) s.heap.objs.size f (.ref c))) → A.guards = some [] →
      sp xs H Q E → ∃ t, PSs (cxOf L2.CX0 P w K mg base N qual (defScope st) f (.ref c) A outer s H E).nox (defBody st) t ∧
        t { nx := fun _ H' => Q .non H', rt := Q } (L2.start N xs) H) :
    FnG P w K mg base (k + 1) f fd ps sp := by
  obtain ⟨oc, od, kV, doc, pm, an, ct, osl, efd, lk, hcd⟩ := F.ex
  refine ⟨many, fun A outer s H args us xs Q E hr hgu e0 hb r hsp => ?_⟩
  subst efd
  have hlen := many _ _ _ _ hsp
  have KX : K.In s.heap := e0.mod.kin.keeps fun b o e => (e0.bs b o e).1
  have lim : s.heap.NoLimit := e0.mod.nolimit.keeps fun b o e => (e0.bs b o e).1
  have kinds : ∀ y ∈ ps.zip us, (defScope st).names.lookup y.1 = some .local ∨
      ((defScope st).names.lookup y.1 = some .cell ∧
        ((cellsFrom (s.heap.objs.size + 1) (defScope st).names []).lookup y.1).isSome = true) := by
    rintro ⟨n, v⟩ hy
    rcases S.par n (List.of_mem_zip hy).1 with q | q
    · exact Or.inl q
    · exact Or.inr ⟨q, PySem.W.cellsFrom_some _ _ _ (Or.inl q)⟩
  refine codeAny_call_function hr.depth (KX _ _ lk) rfl S.co S.gen rfl
    (PySem.W.codeRec_of KX hcd) (hb _ _ _ _ ?_)
  refine wpAny_newFunctionEnv_cells S.kind kinds fun env he s1 x => ?_
  subst he
  refine ⟨lim.keeps x.toInCall.keep, codeAny_func ?_⟩
  obtain ⟨t, ht, hq⟩ := body A outer s H xs Q E (hr.deeper _) hgu hsp
  have I : Inv (cxOf L2.CX0 P w K mg base N qual (defScope st) f (.ref c) A outer s H E) [] (L2.start N xs) H s1 :=
    inv_start S hr.hd e0 hlen r x
  refine wpAny_mono (ht.nox.run [] s1 (L2.start N xs) H _ I hq) (fun fl s' hs => ?_) fun e s' hs => hs
  cases fl with
  | ret u =>
    obtain ⟨v, σ', H', J, rv, q⟩ := hs
    exact ⟨v, H', J.os, J.bare, J.base, J.hok, rv, q⟩
  | next =>
    obtain ⟨σ', H', J, q⟩ := hs
    exact ⟨V.non, H', J.os, J.bare, J.base, J.hok, rfl, q⟩
  | brk =>
    obtain ⟨_, _, _, q⟩ := hs
    exact False.elim q
  | cont =>
    obtain ⟨_, _, _, q⟩ := hs
    exact False.elim q
end
def tDeed (n : Nat) (f c' : Addr) (q : Str) (tl : XK → Hp → VK → Prop) (W : WX) : TE := fun σ H Q =>
  ∃ E : XK, (∀ cls d σ' H', E cls d H' → σ'.length = n → W cls d σ' H') ∧ σ[0]? = some (some (.ref f)) ∧ H c' = some (CodeO c' q) ∧ tl E H Q
theorem Takes.len {X : Cx} {W : WX} (tk : L2.Takes X W) : L2.Takes X (fun cls d σ H => σ.length = X.N.length → W cls d σ H) :=
  fun u s' ⟨a, B, sI, pins, σ, H, cls, d, e, I, nb, up, sky, na, os, ag, w⟩ => tk u s' ⟨a, B, sI, pins, σ, H, cls, d, e, I, nb, up, sky, na, os, ag, w I.len⟩
theorem pe_deed {Z : Cx} (n : Nat) {a q : Str} {f c' : Addr} {tl : XK → Hp → VK → Prop} {p1 p2 : Pos} {W : WX}
    (act : ∀ (W : WX) (E : XK) (p1 p2 : Pos), L2.Takes Z W → (∀ cls d σ' H', E cls d H' → W cls d σ' H') →
      PE Z (.Call (.Name a p1) [] [] p2) (fun σZ HZ Q => σZ[0]? = some (some (.ref f)) ∧ HZ c' = some (CodeO c' q) ∧ tl E HZ Q)) (tk : L2.Takes Z W) (hn : Z.N.length = n := by rfl) :
    PE Z (.Call (.Name a p1) [] [] p2) (tDeed n f c' q tl W) := by
  subst hn
  refine ⟨fun pins s σ H Q I h => ?_⟩
  obtain ⟨E, hW, h1, h2, h3⟩ := h
  refine (act (fun cls d σ H => σ.length = Z.N.length → W cls d σ H) E p1 p2 (Takes.len tk) (fun cls d σ' H' e l => hW cls d σ' H' e l)).run pins s σ H Q I ⟨h1, h2, h3⟩
section
variable {X : Cx}
theorem pe_tell {T : List (Addr × Str)} {TT : (XK → Hp → VK → Prop) → Hp → VK → Prop} {x a : Str} {g c P : Addr} {k : Nat} {st : Stmt} {fd : FuncData} {Ng : List Str}
    {params : Arguments} {body : Expr} {scope : Scope} {t : XK → TE} {p lpos pos : Pos} (F : Fun X.K x x st g fd) (hb : L2.Binds X.K fd [a] []) (hg : Gl X x) (hm : X.mg x = some (.ref g))
    (Sg : FnScope Ng [a] (defScope st)) (hNg : Ng[0]? = some a) (hva : Vis (defScope st) a)
    (hG : ∀ cdv, GivesTo X Ng x (defScope st) g cdv (defBody st) a (X.env.qual ++ "<lambda>") TT)
    (TB : TabB X.base X.mg c P) (hcode : X.env.code = .ref c) (hmT : (P, X.env.qual ++ "<lambda>") ∈ T) (hu : ∀ p ∈ T, p.1 = P → p.2 = X.env.qual ++ "<lambda>") (hr : Room (k + 2) X.A) (L : LamS X.env.scope scope) (hdef : defaultsOf params X.env = ([], []))
    (hbind : ∀ (q : Str) (cl : List (Str × Addr)) (pm cv ctv : Value), bindArgs (PySem.W.kla_fn "<lambda>" q params body scope cl pm cv ctv) ⟨[], []⟩ = pure [])
    (hbody : ∀ (A : Around) (outer : List Env) (s : Shared) (H : Hp) (E : XK) (f c' : Addr), Room k (A.deeper (lamEnv X scope s.heap.objs.size f c')) → PE (lamCx X A outer s H E scope f c') body (t E))
    (hdb : (x == ("__debug__" : Str)) = false := by decide) (hd : (a == ("__debug__" : Str)) = false := by decide) (hcd : (a == ("__classdict__" : Str)) = false := by decide) :
    PE X (.Call (.Name x p) [.Lambda params body scope lpos] [] pos) (tLam T TT t) := by
  obtain ⟨oc, od, kV, doc, pm, an, cdv, ct, osl, rfl, lk, hcg⟩ := F.ex
  exact pe_lamcall hg hm F.kp lk hcg hb Sg hNg hva (hG cdv) TB hcode hmT hu hr L hdef hbind hbody hdb hd hcd
end
end MB
end
section
set_option maxRecDepth 100000
set_option maxHeartbeats 4000000
namespace K05
open PySem PySem.Spec PyProof.Rows L2 MB
open LamX hiding takes0
section
variable {α : Type}
def bca3 : List α → List α → List α
  | [], [a, b, c] => [b, c, a]
  | _, _ => []
def bac3 : List α → List α → List α
  | [], [a, b, c] => [b, a, c]
  | _, _ => []
def cba3 : List α → List α → List α
  | [], [a, b, c] => [c, b, a]
  | _, _ => []
def cab3 : List α → List α → List α
  | [], [a, b, c] => [c, a, b]
  | _, _ => []
end
theorem kbca3 {K : PySem.W.Frag} {fd : FuncData} {p q r : Str} (h : ∀ a b c : Value, bindArgs fd ⟨[], [(r, a), (p, b), (q, c)]⟩ = pure [(p, b), (q, c), (r, a)]) :
    KBinds K fd [p, q, r] [r, p, q] bca3 bca3 where
  to := fun s us ws _ hl => by
    match us, ws, hl with
    | [], [a, b, c], _ => exact .of_eq (h a b c)
  rel := fun {vs us zs ws} r rz => by
    cases r with
    | cons _ _ => exact .nil
    | nil =>
      match rz with
      | .nil => exact .nil
      | .cons _ .nil => exact .nil
      | .cons _ (.cons _ .nil) => exact .nil
      | .cons r1 (.cons r2 (.cons r3 .nil)) => exact .cons r2 (.cons r3 (.cons r1 .nil))
      | .cons _ (.cons _ (.cons _ (.cons _ _))) => exact .nil
theorem kbac3 {K : PySem.W.Frag} {fd : FuncData} {p q r : Str} (h : ∀ a b c : Value, bindArgs fd ⟨[], [(q, a), (p, b), (r, c)]⟩ = pure [(p, b), (q, a), (r, c)]) :
    KBinds K fd [p, q, r] [q, p, r] bac3 bac3 where
  to := fun s us ws _ hl => by
    match us, ws, hl with
    | [], [a, b, c], _ => exact .of_eq (h a b c)
  rel := fun {vs us zs ws} r rz => by
    cases r with
    | cons _ _ => exact .nil
    | nil =>
      match rz with
      | .nil => exact .nil
      | .cons _ .nil => exact .nil
      | .cons _ (.cons _ .nil) => exact .nil
      | .cons r1 (.cons r2 (.cons r3 .nil)) => exact .cons r2 (.cons r1 (.cons r3 .nil))
      | .cons _ (.cons _ (.cons _ (.cons _ _))) => exact .nil
theorem kcba3 {K : PySem.W.Frag} {fd : FuncData} {p q r : Str} (h : ∀ a b c : Value, bindArgs fd ⟨[], [(r, a), (q, b), (p, c)]⟩ = pure [(p, c), (q, b), (r, a)]) :
    KBinds K fd [p, q, r] [r, q, p] cba3 cba3 where
  to := fun s us ws _ hl => by
    match us, ws, hl with
    | [], [a, b, c], _ => exact .of_eq (h a b c)
  rel := fun {vs us zs ws} r rz => by
    cases r with
    | cons _ _ => exact .nil
    | nil =>
      match rz with
      | .nil => exact .nil
      | .cons _ .nil => exact .nil
      | .cons _ (.cons _ .nil) => exact .nil
      | .cons r1 (.cons r2 (.cons r3 .nil)) => exact .cons r3 (.cons r2 (.cons r1 .nil))
      | .cons _ (.cons _ (.cons _ (.cons _ _))) => exact .nil
theorem kcab3 {K : PySem.W.Frag} {fd : FuncData} {p q r : Str} (h : ∀ a b c : Value, bindArgs fd ⟨[], [(q, a), (r, b), (p, c)]⟩ = pure [(p, c), (q, a), (r, b)]) :
    KBinds K fd [p, q, r] [q, r, p] cab3 cab3 where
  to := fun s us ws _ hl => by
    match us, ws, hl with
    | [], [a, b, c], _ => exact .of_eq (h a b c)
  rel := fun {vs us zs ws} r rz => by
    cases r with
    | cons _ _ => exact .nil
    | nil =>
      match rz with
      | .nil => exact .nil
      | .cons _ .nil => exact .nil
      | .cons _ (.cons _ .nil) => exact .nil
      | .cons r1 (.cons r2 (.cons r3 .nil)) => exact .cons r3 (.cons r1 (.cons r2 .nil))
      | .cons _ (.cons _ (.cons _ (.cons _ _))) => exact .nil
def top (i : Nat) : Stmt := PySem.Challenge.pw_mirrorbook_k05_words_and_their_products.main.body.getD i (.Pass ⟨0, 0, 0, 0⟩)
abbrev P : Program := PySem.Challenge.pw_mirrorbook_k05_words_and_their_products
abbrev s_letter_sum : Stmt := top 7
abbrev N_letter_sum : List Str := ["q", "one", "other"]
abbrev P_letter_sum : List Str := ["q", "one", "other"]
theorem sc_letter_sum : FnScope N_letter_sum P_letter_sum (defScope s_letter_sum) := ⟨rfl, rfl, rfl, by decide +kernel, rfl, by decide +kernel, by decide +kernel⟩
abbrev s_letter_times : Stmt := top 8
abbrev N_letter_times : List Str := ["q", "one", "other"]
abbrev P_letter_times : List Str := ["q", "one", "other"]
theorem sc_letter_times : FnScope N_letter_times P_letter_times (defScope s_letter_times) := ⟨rfl, rfl, rfl, by decide +kernel, rfl, by decide +kernel, by decide +kernel⟩
abbrev s_row_sum : Stmt := top 9
abbrev N_row_sum : List Str := ["q", "one", "other", "left", "right"]
abbrev P_row_sum : List Str := ["q", "one", "other"]
theorem sc_row_sum : FnScope N_row_sum P_row_sum (defScope s_row_sum) := ⟨rfl, rfl, rfl, by decide +kernel, rfl, by decide +kernel, by decide +kernel⟩
abbrev s_row_times : Stmt := top 10
abbrev N_row_times : List Str := ["q", "letter", "row", "item"]
abbrev P_row_times : List Str := ["q", "letter", "row"]
theorem sc_row_times : FnScope N_row_times P_row_times (defScope s_row_times) := ⟨rfl, rfl, rfl, by decide +kernel, rfl, by decide +kernel, by decide +kernel⟩
abbrev s_row_product : Stmt := top 11
abbrev N_row_product : List Str := ["q", "one", "other", "total", "left", "right"]
abbrev P_row_product : List Str := ["q", "one", "other"]
theorem sc_row_product : FnScope N_row_product P_row_product (defScope s_row_product) := ⟨rfl, rfl, rfl, by decide +kernel, rfl, by decide +kernel, by decide +kernel⟩
abbrev s_row_support : Stmt := top 12
abbrev N_row_support : List Str := ["row", "place"]
abbrev P_row_support : List Str := ["row"]
theorem sc_row_support : FnScope N_row_support P_row_support (defScope s_row_support) := ⟨rfl, rfl, rfl, by decide +kernel, rfl, by decide +kernel, by decide +kernel⟩
abbrev s_is_integer : Stmt := top 14
abbrev N_is_integer : List Str := ["thing"]
abbrev P_is_integer : List Str := ["thing"]
theorem sc_is_integer : FnScope N_is_integer P_is_integer (defScope s_is_integer) := ⟨rfl, rfl, rfl, by decide +kernel, rfl, by decide +kernel, by decide +kernel⟩
abbrev s_is_integer_from : Stmt := top 15
abbrev N_is_integer_from : List Str := ["thing", "low", "high"]
abbrev P_is_integer_from : List Str := ["thing", "low", "high"]
theorem sc_is_integer_from : FnScope N_is_integer_from P_is_integer_from (defScope s_is_integer_from) := ⟨rfl, rfl, rfl, by decide +kernel, rfl, by decide +kernel, by decide +kernel⟩
abbrev s_are_integers_from : Stmt := top 16
abbrev N_are_integers_from : List Str := ["thing", "low", "high", "item"]
abbrev P_are_integers_from : List Str := ["thing", "low", "high"]
theorem sc_are_integers_from : FnScope N_are_integers_from P_are_integers_from (defScope s_are_integers_from) := ⟨rfl, rfl, rfl, by decide +kernel, rfl, by decide +kernel, by decide +kernel⟩
abbrev s_are_letters : Stmt := top 17
abbrev N_are_letters : List Str := ["q", "thing"]
abbrev P_are_letters : List Str := ["q", "thing"]
theorem sc_are_letters : FnScope N_are_letters P_are_letters (defScope s_are_letters) := ⟨rfl, rfl, rfl, by decide +kernel, rfl, by decide +kernel, by decide +kernel⟩
abbrev s_check_field : Stmt := top 19
abbrev N_check_field : List Str := ["q"]
abbrev P_check_field : List Str := ["q"]
theorem sc_check_field : FnScope N_check_field P_check_field (defScope s_check_field) := ⟨rfl, rfl, rfl, by decide +kernel, rfl, by decide +kernel, by decide +kernel⟩
abbrev s_check_letter : Stmt := top 20
abbrev N_check_letter : List Str := ["q", "thing"]
abbrev P_check_letter : List Str := ["q", "thing"]
theorem sc_check_letter : FnScope N_check_letter P_check_letter (defScope s_check_letter) := ⟨rfl, rfl, rfl, by decide +kernel, rfl, by decide +kernel, by decide +kernel⟩
abbrev s_check_word : Stmt := top 21
abbrev N_check_word : List Str := ["q", "thing"]
abbrev P_check_word : List Str := ["q", "thing"]
theorem sc_check_word : FnScope N_check_word P_check_word (defScope s_check_word) := ⟨rfl, rfl, rfl, by decide +kernel, rfl, by decide +kernel, by decide +kernel⟩
abbrev s_check_two_words : Stmt := top 22
abbrev N_check_two_words : List Str := ["q", "one", "other"]
abbrev P_check_two_words : List Str := ["q", "one", "other"]
theorem sc_check_two_words : FnScope N_check_two_words P_check_two_words (defScope s_check_two_words) := ⟨rfl, rfl, rfl, by decide +kernel, rfl, by decide +kernel, by decide +kernel⟩
abbrev s_word_sum : Stmt := top 23
abbrev N_word_sum : List Str := ["q", "one", "other"]
abbrev P_word_sum : List Str := ["q", "one", "other"]
theorem sc_word_sum : FnScope N_word_sum P_word_sum (defScope s_word_sum) := ⟨rfl, rfl, rfl, by decide +kernel, rfl, by decide +kernel, by decide +kernel⟩
abbrev s_word_times : Stmt := top 24
abbrev N_word_times : List Str := ["q", "letter", "word"]
abbrev P_word_times : List Str := ["q", "letter", "word"]
theorem sc_word_times : FnScope N_word_times P_word_times (defScope s_word_times) := ⟨rfl, rfl, rfl, by decide +kernel, rfl, by decide +kernel, by decide +kernel⟩
abbrev s_product : Stmt := top 25
abbrev N_product : List Str := ["q", "one", "other"]
abbrev P_product : List Str := ["q", "one", "other"]
theorem sc_product : FnScope N_product P_product (defScope s_product) := ⟨rfl, rfl, rfl, by decide +kernel, rfl, by decide +kernel, by decide +kernel⟩
abbrev s_support : Stmt := top 26
abbrev N_support : List Str := ["q", "word"]
abbrev P_support : List Str := ["q", "word"]
theorem sc_support : FnScope N_support P_support (defScope s_support) := ⟨rfl, rfl, rfl, by decide +kernel, rfl, by decide +kernel, by decide +kernel⟩
abbrev s_weight : Stmt := top 27
abbrev N_weight : List Str := ["q", "word"]
abbrev P_weight : List Str := ["q", "word"]
theorem sc_weight : FnScope N_weight P_weight (defScope s_weight) := ⟨rfl, rfl, rfl, by decide +kernel, rfl, by decide +kernel, by decide +kernel⟩
abbrev s__law_deck : Stmt := top 29
abbrev N__law_deck : List Str := ["_law_script", "_law_mixed", "_law_cell"]
abbrev P__law_deck : List Str := ["_law_script"]
theorem sc__law_deck : FnScope N__law_deck P__law_deck (defScope s__law_deck) := ⟨rfl, rfl, rfl, by decide +kernel, rfl, by decide +kernel, by decide +kernel⟩
abbrev s__law_draw : Stmt := top 30
abbrev N__law_draw : List Str := ["_law_deck_here", "_law_many", "_law_number", "_law_cell"]
abbrev P__law_draw : List Str := ["_law_deck_here", "_law_many"]
theorem sc__law_draw : FnScope N__law_draw P__law_draw (defScope s__law_draw) := ⟨rfl, rfl, rfl, by decide +kernel, rfl, by decide +kernel, by decide +kernel⟩
abbrev s__law_pick : Stmt := top 31
abbrev N__law_pick : List Str := ["_law_deck_here", "_law_some"]
abbrev P__law_pick : List Str := ["_law_deck_here", "_law_some"]
theorem sc__law_pick : FnScope N__law_pick P__law_pick (defScope s__law_pick) := ⟨rfl, rfl, rfl, by decide +kernel, rfl, by decide +kernel, by decide +kernel⟩
abbrev s__law_any : Stmt := top 32
abbrev N__law_any : List Str := ["_law_deck_here", "_law_deep", "_law_way", "_law_some", "_law_turn"]
abbrev P__law_any : List Str := ["_law_deck_here", "_law_deep"]
theorem sc__law_any : FnScope N__law_any P__law_any (defScope s__law_any) := ⟨rfl, rfl, rfl, by decide +kernel, rfl, by decide +kernel, by decide +kernel⟩
abbrev s__law_is_letter : Stmt := top 33
abbrev N__law_is_letter : List Str := ["_law_q", "_law_thing"]
abbrev P__law_is_letter : List Str := ["_law_q", "_law_thing"]
theorem sc__law_is_letter : FnScope N__law_is_letter P__law_is_letter (defScope s__law_is_letter) := ⟨rfl, rfl, rfl, by decide +kernel, rfl, by decide +kernel, by decide +kernel⟩
abbrev s__law_is_word : Stmt := top 34
abbrev N__law_is_word : List Str := ["_law_q", "_law_thing", "_law_x"]
abbrev P__law_is_word : List Str := ["_law_q", "_law_thing"]
theorem sc__law_is_word : FnScope N__law_is_word P__law_is_word (defScope s__law_is_word) := ⟨rfl, rfl, rfl, by decide +kernel, rfl, by decide +kernel, by decide +kernel⟩
abbrev s__law_by : Stmt := top 35
abbrev N__law_by : List Str := ["_law_q", "_law_one", "_law_other"]
abbrev P__law_by : List Str := ["_law_q", "_law_one", "_law_other"]
theorem sc__law_by : FnScope N__law_by P__law_by (defScope s__law_by) := ⟨rfl, rfl, rfl, by decide +kernel, rfl, by decide +kernel, by decide +kernel⟩
abbrev s__law_plus : Stmt := top 36
abbrev N__law_plus : List Str := ["_law_q", "_law_one", "_law_other", "_law_x", "_law_y"]
abbrev P__law_plus : List Str := ["_law_q", "_law_one", "_law_other"]
theorem sc__law_plus : FnScope N__law_plus P__law_plus (defScope s__law_plus) := ⟨rfl, rfl, rfl, by decide +kernel, rfl, by decide +kernel, by decide +kernel⟩
abbrev s__law_told : Stmt := top 37
abbrev N__law_told : List Str := ["_law_deed", "e"]
abbrev P__law_told : List Str := ["_law_deed"]
theorem sc__law_told : FnScope N__law_told P__law_told (defScope s__law_told) := ⟨rfl, rfl, rfl, by decide +kernel, rfl, by decide +kernel, by decide +kernel⟩
abbrev s__law_wrong : Stmt := top 38
abbrev N__law_wrong : List Str := ["_law_q", "_law_letter", "_law_words", "_law_word_here"]
abbrev P__law_wrong : List Str := ["_law_q", "_law_letter", "_law_words"]
theorem sc__law_wrong : FnScope N__law_wrong P__law_wrong (defScope s__law_wrong) := ⟨rfl, rfl, rfl, by decide +kernel, rfl, by decide +kernel, by decide +kernel⟩
abbrev s__law_product : Stmt := top 39
abbrev N__law_product : List Str := ["_law_q", "_law_one", "_law_other", "_law_found", "_law_x", "_law_y"]
abbrev P__law_product : List Str := ["_law_q", "_law_one", "_law_other"]
theorem sc__law_product : FnScope N__law_product P__law_product (defScope s__law_product) := ⟨rfl, rfl, rfl, by decide +kernel, rfl, by decide +kernel, by decide +kernel⟩
abbrev s__law_word : Stmt := top 40
abbrev N__law_word : List Str := ["_law_deck_here", "_law_q", "_law_many", "_law_way", "_law_some", "_law_at", "_law_x"]
abbrev P__law_word : List Str := ["_law_deck_here", "_law_q", "_law_many"]
theorem sc__law_word : FnScope N__law_word P__law_word (defScope s__law_word) := ⟨rfl, rfl, rfl, by decide +kernel, rfl, by decide +kernel, by decide +kernel⟩
abbrev s__law_bent : Stmt := top 41
abbrev N__law_bent : List Str := ["_law_deck_here", "_law_word_here", "_law_way", "_law_at", "_law_strange"]
abbrev P__law_bent : List Str := ["_law_deck_here", "_law_word_here"]
theorem sc__law_bent : FnScope N__law_bent P__law_bent (defScope s__law_bent) := ⟨rfl, rfl, rfl, by decide +kernel, rfl, by decide +kernel, by decide +kernel⟩
abbrev s__law_is_right : Stmt := top 42
abbrev N__law_is_right : List Str := ["_law_q", "_law_letter", "_law_one", "_law_other", "_law_wrong_here", "_law_told_here", "_law_due", "_law_places", "_law_at", "_law_x"]
abbrev P__law_is_right : List Str := ["_law_q", "_law_letter", "_law_one", "_law_other"]
theorem sc__law_is_right : FnScope N__law_is_right P__law_is_right (defScope s__law_is_right) := ⟨rfl, rfl, rfl, by decide +kernel, rfl, by decide +kernel, by decide +kernel⟩
abbrev s_law : Stmt := top 43
abbrev N_law : List Str := ["_law_script", "_law_deck_here", "_law_turn", "_law_q", "_law_many", "_law_one", "_law_other", "_law_letter", "_law_way"]
abbrev P_law : List Str := ["_law_script"]
theorem sc_law : FnScope N_law P_law (defScope s_law) := ⟨rfl, rfl, rfl, by decide +kernel, rfl, by decide +kernel, by decide +kernel⟩
def four : List (List Int) := [[0, 0, 0, 0], [0, 1, 2, 3], [0, 2, 3, 1], [0, 3, 1, 2]]
def FourTab (K : PySem.W.Frag) (t : Addr) : Prop := ∃ rs : List Addr, rs.length = 4 ∧ (∀ H : Hp, SqT K H t (rs.map V.ref)) ∧ ∀ (i : Nat) (r : Addr) (H : Hp), rs[i]? = some r → SqT K H r ((four.getD i []).map V.int)
structure ClsIs (K : PySem.W.Frag) (C : Addr) : Prop where
  ha : PySem.W.findIn K (.ref C) "__class__" = some (some (.builtin "object.__class__"))
  hn : PySem.W.specialIn K (.builtin "object.__class__") "__get__" = some (some (.builtin "getset_descriptor.__get__"))
  ht : PySem.W.takesIn K (.builtin "object.__class__") = some true
  hm : PySem.W.mroIn K C (.type "object") = some true
  nt : PySem.W.kitOne K (.ref C) (.type "tuple") = some false
  ni : PySem.W.kitOne K (.ref C) (.type "int") = some false
structure Txt (K : PySem.W.Frag) (mg : Str → Option Value) where
  a_letter_sum : Addr
  d_letter_sum : FuncData
  F_letter_sum : Fun K "letter_sum" "letter_sum" s_letter_sum a_letter_sum d_letter_sum
  m_letter_sum : mg "letter_sum" = some (.ref a_letter_sum)
  b_letter_sum : Binds K d_letter_sum P_letter_sum []
  a_letter_times : Addr
  d_letter_times : FuncData
  F_letter_times : Fun K "letter_times" "letter_times" s_letter_times a_letter_times d_letter_times
  m_letter_times : mg "letter_times" = some (.ref a_letter_times)
  b_letter_times : Binds K d_letter_times P_letter_times []
  a_row_sum : Addr
  d_row_sum : FuncData
  F_row_sum : Fun K "row_sum" "row_sum" s_row_sum a_row_sum d_row_sum
  m_row_sum : mg "row_sum" = some (.ref a_row_sum)
  b_row_sum : Binds K d_row_sum P_row_sum []
  a_row_times : Addr
  d_row_times : FuncData
  F_row_times : Fun K "row_times" "row_times" s_row_times a_row_times d_row_times
  m_row_times : mg "row_times" = some (.ref a_row_times)
  b_row_times : Binds K d_row_times P_row_times []
  a_row_product : Addr
  d_row_product : FuncData
  F_row_product : Fun K "row_product" "row_product" s_row_product a_row_product d_row_product
  m_row_product : mg "row_product" = some (.ref a_row_product)
  b_row_product : Binds K d_row_product P_row_product []
  a_row_support : Addr
  d_row_support : FuncData
  F_row_support : Fun K "row_support" "row_support" s_row_support a_row_support d_row_support
  m_row_support : mg "row_support" = some (.ref a_row_support)
  b_row_support : Binds K d_row_support P_row_support []
  a_is_integer : Addr
  d_is_integer : FuncData
  F_is_integer : Fun K "is_integer" "is_integer" s_is_integer a_is_integer d_is_integer
  m_is_integer : mg "is_integer" = some (.ref a_is_integer)
  b_is_integer : Binds K d_is_integer P_is_integer []
  a_is_integer_from : Addr
  d_is_integer_from : FuncData
  F_is_integer_from : Fun K "is_integer_from" "is_integer_from" s_is_integer_from a_is_integer_from d_is_integer_from
  m_is_integer_from : mg "is_integer_from" = some (.ref a_is_integer_from)
  b_is_integer_from : Binds K d_is_integer_from P_is_integer_from []
  a_are_integers_from : Addr
  d_are_integers_from : FuncData
  F_are_integers_from : Fun K "are_integers_from" "are_integers_from" s_are_integers_from a_are_integers_from d_are_integers_from
  m_are_integers_from : mg "are_integers_from" = some (.ref a_are_integers_from)
  b_are_integers_from : Binds K d_are_integers_from P_are_integers_from []
  a_are_letters : Addr
  d_are_letters : FuncData
  F_are_letters : Fun K "are_letters" "are_letters" s_are_letters a_are_letters d_are_letters
  m_are_letters : mg "are_letters" = some (.ref a_are_letters)
  b_are_letters : Binds K d_are_letters P_are_letters []
  a_check_field : Addr
  d_check_field : FuncData
  F_check_field : Fun K "check_field" "check_field" s_check_field a_check_field d_check_field
  m_check_field : mg "check_field" = some (.ref a_check_field)
  b_check_field : Binds K d_check_field P_check_field []
  a_check_letter : Addr
  d_check_letter : FuncData
  F_check_letter : Fun K "check_letter" "check_letter" s_check_letter a_check_letter d_check_letter
  m_check_letter : mg "check_letter" = some (.ref a_check_letter)
  b_check_letter : Binds K d_check_letter P_check_letter []
  a_check_word : Addr
  d_check_word : FuncData
  F_check_word : Fun K "check_word" "check_word" s_check_word a_check_word d_check_word
  m_check_word : mg "check_word" = some (.ref a_check_word)
  b_check_word : Binds K d_check_word P_check_word []
  a_check_two_words : Addr
  d_check_two_words : FuncData
  F_check_two_words : Fun K "check_two_words" "check_two_words" s_check_two_words a_check_two_words d_check_two_words
  m_check_two_words : mg "check_two_words" = some (.ref a_check_two_words)
  b_check_two_words : Binds K d_check_two_words P_check_two_words []
  a_word_sum : Addr
  d_word_sum : FuncData
  F_word_sum : Fun K "word_sum" "word_sum" s_word_sum a_word_sum d_word_sum
  m_word_sum : mg "word_sum" = some (.ref a_word_sum)
  b_word_sum : Binds K d_word_sum P_word_sum []
  q_word_sum_other_q_one : KBinds K d_word_sum P_word_sum ["other", "q", "one"] bca3 bca3
  a_word_times : Addr
  d_word_times : FuncData
  F_word_times : Fun K "word_times" "word_times" s_word_times a_word_times d_word_times
  m_word_times : mg "word_times" = some (.ref a_word_times)
  b_word_times : Binds K d_word_times P_word_times []
  q_word_times_word_letter_q : KBinds K d_word_times P_word_times ["word", "letter", "q"] cba3 cba3
  a_product : Addr
  d_product : FuncData
  F_product : Fun K "product" "product" s_product a_product d_product
  m_product : mg "product" = some (.ref a_product)
  b_product : Binds K d_product P_product []
  q_product_one_q_other : KBinds K d_product P_product ["one", "q", "other"] bac3 bac3
  a_support : Addr
  d_support : FuncData
  F_support : Fun K "support" "support" s_support a_support d_support
  m_support : mg "support" = some (.ref a_support)
  b_support : Binds K d_support P_support []
  q_support_word_q : KBinds K d_support P_support ["word", "q"] two2s two2s
  a_weight : Addr
  d_weight : FuncData
  F_weight : Fun K "weight" "weight" s_weight a_weight d_weight
  m_weight : mg "weight" = some (.ref a_weight)
  b_weight : Binds K d_weight P_weight []
  q_weight_word_q : KBinds K d_weight P_weight ["word", "q"] two2s two2s
  a__law_deck : Addr
  d__law_deck : FuncData
  F__law_deck : Fun K "_law_deck" "_law_deck" s__law_deck a__law_deck d__law_deck
  m__law_deck : mg "_law_deck" = some (.ref a__law_deck)
  b__law_deck : Binds K d__law_deck P__law_deck []
  a__law_draw : Addr
  d__law_draw : FuncData
  F__law_draw : Fun K "_law_draw" "_law_draw" s__law_draw a__law_draw d__law_draw
  m__law_draw : mg "_law_draw" = some (.ref a__law_draw)
  b__law_draw : Binds K d__law_draw P__law_draw []
  a__law_pick : Addr
  d__law_pick : FuncData
  F__law_pick : Fun K "_law_pick" "_law_pick" s__law_pick a__law_pick d__law_pick
  m__law_pick : mg "_law_pick" = some (.ref a__law_pick)
  b__law_pick : Binds K d__law_pick P__law_pick []
  a__law_any : Addr
  d__law_any : FuncData
  F__law_any : Fun K "_law_any" "_law_any" s__law_any a__law_any d__law_any
  m__law_any : mg "_law_any" = some (.ref a__law_any)
  b__law_any : Binds K d__law_any P__law_any []
  a__law_is_letter : Addr
  d__law_is_letter : FuncData
  F__law_is_letter : Fun K "_law_is_letter" "_law_is_letter" s__law_is_letter a__law_is_letter d__law_is_letter
  m__law_is_letter : mg "_law_is_letter" = some (.ref a__law_is_letter)
  b__law_is_letter : Binds K d__law_is_letter P__law_is_letter []
  a__law_is_word : Addr
  d__law_is_word : FuncData
  F__law_is_word : Fun K "_law_is_word" "_law_is_word" s__law_is_word a__law_is_word d__law_is_word
  m__law_is_word : mg "_law_is_word" = some (.ref a__law_is_word)
  b__law_is_word : Binds K d__law_is_word P__law_is_word []
  a__law_by : Addr
  d__law_by : FuncData
  F__law_by : Fun K "_law_by" "_law_by" s__law_by a__law_by d__law_by
  m__law_by : mg "_law_by" = some (.ref a__law_by)
  b__law_by : Binds K d__law_by P__law_by []
  a__law_plus : Addr
  d__law_plus : FuncData
  F__law_plus : Fun K "_law_plus" "_law_plus" s__law_plus a__law_plus d__law_plus
  m__law_plus : mg "_law_plus" = some (.ref a__law_plus)
  b__law_plus : Binds K d__law_plus P__law_plus []
  a__law_told : Addr
  d__law_told : FuncData
  F__law_told : Fun K "_law_told" "_law_told" s__law_told a__law_told d__law_told
  m__law_told : mg "_law_told" = some (.ref a__law_told)
  b__law_told : Binds K d__law_told P__law_told []
  a__law_wrong : Addr
  d__law_wrong : FuncData
  F__law_wrong : Fun K "_law_wrong" "_law_wrong" s__law_wrong a__law_wrong d__law_wrong
  m__law_wrong : mg "_law_wrong" = some (.ref a__law_wrong)
  b__law_wrong : Binds K d__law_wrong P__law_wrong []
  a__law_product : Addr
  d__law_product : FuncData
  F__law_product : Fun K "_law_product" "_law_product" s__law_product a__law_product d__law_product
  m__law_product : mg "_law_product" = some (.ref a__law_product)
  b__law_product : Binds K d__law_product P__law_product []
  a__law_word : Addr
  d__law_word : FuncData
  F__law_word : Fun K "_law_word" "_law_word" s__law_word a__law_word d__law_word
  m__law_word : mg "_law_word" = some (.ref a__law_word)
  b__law_word : Binds K d__law_word P__law_word []
  a__law_bent : Addr
  d__law_bent : FuncData
  F__law_bent : Fun K "_law_bent" "_law_bent" s__law_bent a__law_bent d__law_bent
  m__law_bent : mg "_law_bent" = some (.ref a__law_bent)
  b__law_bent : Binds K d__law_bent P__law_bent []
  a__law_is_right : Addr
  d__law_is_right : FuncData
  c__law_is_right : Addr
  tP__law_is_right : Addr
  F__law_is_right : FunL K "_law_is_right" "_law_is_right" s__law_is_right a__law_is_right d__law_is_right c__law_is_right
  m__law_is_right : mg "_law_is_right" = some (.ref a__law_is_right)
  b__law_is_right : Binds K d__law_is_right P__law_is_right []
  a_law : Addr
  d_law : FuncData
  F_law : Fun K "law" "law" s_law a_law d_law
  m_law : mg "law" = some (.ref a_law)
  b_law : Binds K d_law P_law []
  B0 : Addr
  gB : mg "BookError" = some (.ref B0)
  C_BadField : Addr
  I_BadField : Addr
  e_BadField : Er.Txt P K mg B0 C_BadField I_BadField "BadField" "thing"
  C_BadLetter : Addr
  I_BadLetter : Addr
  e_BadLetter : Er.Txt P K mg B0 C_BadLetter I_BadLetter "BadLetter" "thing"
  C_BadWord : Addr
  I_BadWord : Addr
  e_BadWord : Er.Txt P K mg B0 C_BadWord I_BadWord "BadWord" "thing"
  t_four : Addr
  m_four : mg "FOUR_TIMES" = some (.ref t_four)
  four : FourTab K t_four
  x_lf : PySem.W.subIn K (.ref C_BadLetter) (.ref C_BadField) = some false
  x_wf : PySem.W.subIn K (.ref C_BadWord) (.ref C_BadField) = some false
  x_wl : PySem.W.subIn K (.ref C_BadWord) (.ref C_BadLetter) = some false
  m_all : mg "all" = none
  m_bool : mg "bool" = none
  m_enumerate : mg "enumerate" = none
  m_int : mg "int" = none
  m_isinstance : mg "isinstance" = none
  m_len : mg "len" = none
  m_list : mg "list" = none
  m_max : mg "max" = none
  m_range : mg "range" = none
  m_repr : mg "repr" = none
  m_tuple : mg "tuple" = none
  m_zip : mg "zip" = none
def spLaw (K : PySem.W.Frag) (TT : List (Addr × Str)) : Sp := fun vs H Q _ => ∃ (a : Addr) (ns : List Int), vs = [.ref a] ∧ SqL K H a (ns.map V.int) ∧ ns.length ≤ 63 ∧ Tabs TT H ∧ ∀ H', Q (.bl true) H'
def TI (K : PySem.W.Frag) (H : Hp) (v : V) (ns : List Int) : Prop := ∃ a, v = .ref a ∧ SqT K H a (ns.map V.int)
theorem _root_.L2.Same.tup {K : PySem.W.Frag} {H H' : Hp} {a : Addr} {xs : List V} (e : Same H H') (h : SqT K H a xs) : SqT K H' a xs := by
  rcases h with (h | ⟨o, h⟩) | h
  · exact .inl (.inl (e _ _ h))
  · exact .inl (.inr ⟨o, e _ _ h⟩)
  · exact .inr h
theorem TI.same {K : PySem.W.Frag} {H H' : Hp} {v : V} {ns : List Int} (h : TI K H v ns) (e : Same H H') : TI K H' v ns :=
  let ⟨a, h1, h2⟩ := h
  ⟨a, h1, e.tup h2⟩
theorem same_upd {H : Hp} {p : Addr} {o : HO} (h : H p = none) : Same H (upd H p o) := fun b u e => by
  rw [upd_ne (ne_of_none e h)]
  exact e
theorem same_set {H H' : Hp} {p : Addr} {o : HO} (h : H p = none) (e : Same H H') : Same H (upd H' p o) := fun b u q => by
  rw [upd_ne (ne_of_none q h)]
  exact e b u q
theorem tyx_tup {K : PySem.W.Frag} {H : Hp} {a : Addr} {xs : List V} (h : SqT K H a xs) : TyX K H (.ref a) (.type "tuple") := by
  rcases h with (h | ⟨o, h⟩) | ⟨o, its, n, h1, h2, _⟩
  · exact .base (.tup h)
  · exact .fTuple h
  · exact .kTuple h1 h2
theorem int_at {ns : List Int} {i : Nat} {x : V} (h : (ns.map V.int)[i]? = some x) : ∃ z, ns[i]? = some z ∧ x = .int z := by
  rw [List.getElem?_map] at h
  cases e : ns[i]? with
  | none =>
    rw [e] at h
    cases h
  | some z =>
    rw [e] at h
    exact ⟨z, rfl, (Option.some.inj h).symm⟩
theorem line_le {n : Nat} (h : n ≤ 100000) : n < sizeLine := Nat.lt_of_le_of_lt h (by decide)
end K05
end
section
set_option maxRecDepth 100000
set_option maxHeartbeats 4000000
namespace K05
open PySem PySem.Spec PyProof.Rows L2 MB
open LamX hiding takes0
section
variable {w : World} {K : PySem.W.Frag} {mg : Str → Option Value} {base : Heap}
def spInt (K : PySem.W.Frag) : Sp := fun vs H Q _ => ∃ (v : V) (o : Option Int), vs = [v] ∧ IntQ K H v o ∧ Q (.bl o.isSome) H
theorem ok_is_integer (T : Txt K mg) : FnOk P w K mg base CX0 1 T.a_is_integer T.d_is_integer P_is_integer (spInt K) := by
  refine T.F_is_integer.ok sc_is_integer (fun vs H Q E h => ?_) (fun cdv A outer s H vs Q E hr h => ?_)
  · obtain ⟨v, o, rfl, _⟩ := h
    rfl
  · obtain ⟨v, o, rfl, hv, q⟩ := h
    refine ⟨_, 
      (pss_one (ps_ret (pe_and (pe_callB (id := "isinstance") (r := rIsi K) call_isi (by rfl) T.m_isinstance (by decide +kernel) (pa_cons (pv 0) (pa_cons (pe_bltn (by rfl) T.m_int (v := .ty "int") (by decide +kernel) rfl) pa_nil))) (pe_one (pe_not (pe_callB (id := "isinstance") (r := rIsi K) call_isi (by rfl) T.m_isinstance (by decide +kernel) (pa_cons (pv 0) (pa_cons (pe_bltn (by rfl) T.m_bool (v := .ty "bool") (by decide +kernel) rfl) pa_nil)))))))), ?_⟩
    cases o with
    | some i =>
      obtain rfl : v = .int i := hv
      refine ⟨_, rfl, _, _, _, _, _, rfl, .ty "int", .base (.int i), kit_ty (r := true) (by decide +kernel), true, rfl, ?_⟩
      refine iteT ?_
      exact ⟨_, rfl, _, _, _, _, _, rfl, .ty "bool", .base (.int i), kit_ty (r := false) (by decide +kernel), false, rfl, q⟩
    | none =>
      rcases hv with ⟨b, rfl⟩ | ⟨t, ht, hk⟩
      · refine ⟨_, rfl, _, _, _, _, _, rfl, .ty "int", .base (.bl b), kit_ty (r := true) (by decide +kernel), true, rfl, ?_⟩
        refine iteT ?_
        exact ⟨_, rfl, _, _, _, _, _, rfl, .ty "bool", .base (.bl b), kit_ty (r := true) (by decide +kernel), true, rfl, q⟩
      · refine ⟨_, rfl, _, _, _, _, _, rfl, .ty "int", ht, hk, false, rfl, ?_⟩
        exact iteF q
def Lev (K : PySem.W.Frag) (H : Hp) (v : V) : Option (List (Option Int)) → Prop
  | none => TupQ K H v none
  | some os => ∃ xs, TupQ K H v (some xs) ∧ Paired (IntQ K H) xs os ∧ xs.length ≤ 1000
def allInt : Option (List (Option Int)) → Bool
  | none => false
  | some os => os.all (·.isSome)
theorem paired_at {α β : Type} {R : α → β → Prop} {xs : List α} {ys : List β} (h : Paired R xs ys) {i : Nat} {x : α} (e : xs[i]? = some x) : ∃ y, ys[i]? = some y ∧ R x y := by
  induction h generalizing i with
  | nil => simp at e
  | cons r rs ih =>
    cases i with
    | zero =>
      obtain rfl := Option.some.inj e
      exact ⟨_, rfl, r⟩
    | succ i => exact ih e
theorem take_map_add {α β : Type} (f : α → β) {l : List α} {i : Nat} {x : α} (e : l[i]? = some x) : (l.take (i + 1)).map f = (l.take i).map f ++ [f x] := by
  rw [List.take_add_one, e]
  simp
end
theorem dec_int (a b : Int) : decide (V.int a = V.int b) = decide (a = b) := by
  by_cases h : a = b
  · subst h
    simp
  · rw [decide_eq_false h, decide_eq_false (fun e => h (V.int.inj e))]
end K05
end
section
set_option maxRecDepth 100000
set_option maxHeartbeats 4000000
set_option exponentiation.threshold 9000
namespace K05
open PySem PySem.Spec PyProof.Rows L2 MB
open LamX hiding takes0
abbrev kL : Str := "cells"
theorem kOk : KOk kL := ⟨by decide +kernel, by decide +kernel⟩
theorem cut63 {ns : List Int} (h : ns.length ≤ 63) : cutV (ns.map V.int) none (some (63 : Int)) = ns.map V.int := by
  have e : HT.sIx ns.length ns.length (some (63 : Int)) = min 63 ns.length := HT.sIx_nat _ _ 63
  unfold cutV
  rw [HT.sIx_none, List.drop_zero, List.length_map, e, List.take_of_length_le (by rw [List.length_map]; omega)]
theorem get_left {H : Hp} {d l : Addr} {m n : Int} (h : H d = some (.dK (dk kL l m n))) : DGet H d (.str kL) (some (.ref l)) :=
  .inl ⟨_, .inr kL, .inl h, rfl, dk_left.symm⟩
theorem get_mixed {H : Hp} {d l : Addr} {m n : Int} (h : H d = some (.dK (dk kL l m n))) : DGet H d (.str "mixed") (some (.int m)) :=
  .inl ⟨_, .inr "mixed", .inl h, rfl, (dk_mixed kOk).symm⟩
theorem get_draws {H : Hp} {d l : Addr} {m n : Int} (h : H d = some (.dK (dk kL l m n))) : DGet H d (.str "draws") (some (.int n)) :=
  .inl ⟨_, .inr "draws", .inl h, rfl, (dk_draws kOk).symm⟩
section
variable {w : World} {K : PySem.W.Frag} {mg : Str → Option Value} {base : Heap}
def spDeck (K : PySem.W.Frag) : Sp := fun vs H Q _ => ∃ (a : Addr) (ns : List Int), vs = [.ref a] ∧ SqL K H a (ns.map V.int) ∧ ns.length ≤ 63 ∧
  ∀ d l H', Same H H' → Deck kL H' d l → Q (.ref d) H'
theorem ok__law_deck (T : Txt K mg) : FnOk P w K mg base CX0 1 T.a__law_deck T.d__law_deck P__law_deck (spDeck K) := by
  refine T.F__law_deck.ok sc__law_deck (fun vs H Q E h => ?_) (fun cdv A outer s H vs Q E hr h => ?_)
  · obtain ⟨a, ns, rfl, _⟩ := h
    rfl
  · obtain ⟨a, ns, rfl, ha, hl, q⟩ := h
    refine ⟨_, 
      (pss_cons (ps_set (i := 1) sc__law_deck.nd rfl (Or.inl rfl) pe_int)
      (pss_cons (ps_for PassesOwn.never rfl (pi_list (pe_slice sl_list (pv 0) po_none (po_some pe_int))) (pg_name (i := 2) sc__law_deck.nd rfl (Or.inl rfl)) (pss_one (ps_set (i := 1) sc__law_deck.nd rfl (Or.inl rfl) (pe_op op_mod (pe_callTy call_int1 (by rfl) T.m_int (by decide +kernel) (pa_cons (pe_op op_add (pe_op op_add (pe_op op_mul (pv 1) pe_int) (pe_op op_mod (pe_callTy call_int1 (by rfl) T.m_int (by decide +kernel) (pa_cons (pv 2) pa_nil)) pe_int)) pe_int) pa_nil)) pe_int))))
      (pss_one (ps_ret (pe_disp (pps_cons pe_str (pe_revL (pe_callTy call_list_of (by rfl) T.m_list (by decide +kernel) (pa_cons (pe_slice sl_list (pv 0) po_none (po_some pe_int)) pa_nil))) (pps_cons pe_str (pv 1) (pps_cons pe_str pe_int pps_nil))) (by rfl) (by rfl) (fun z => by cases z) (by decide)))))), ?_⟩
    refine ⟨_, rfl, _, rfl, a, _, rfl, ha, fun p hp => ?_⟩
    rw [cut63 hl]
    have s1 := same_upd (o := .lst (ns.map V.int)) hp
    refine ⟨p, rfl, ⟨_, SqL.of upd_same⟩, for_it (walk_list (K := K) (a := p) (xs := ns.map V.int))
      (fun i σ H' => ∃ (m : Int) (u : Option V), σ = [some (.ref a), some (.int m), u] ∧ 0 ≤ m ∧ m < 2147483648 ∧ H' = upd H p (.lst (ns.map V.int)))
      ⟨_, none, rfl, by decide, by decide, rfl⟩ (fun i σ H' _ ⟨_, _, _, _, _, e⟩ => by rw [e]; exact SqL.of upd_same) ?_ ?_⟩
    · rintro i v _ _ _ hi ⟨m, u, rfl, m0, m1, rfl⟩ ⟨rfl, hv⟩
      obtain ⟨c, hc, rfl⟩ := int_at hv
      refine ⟨_, rfl, _, _, rfl, rfl, .inr (by decide), _, rfl, .inl ⟨_, rfl, ?_⟩⟩
      refine ⟨_, _, rfl, rfl, (by decide : (0 : Int) < 2147483629), _, _, rfl, rfl, _, _, rfl, rfl, .inl ⟨_, rfl, ?_⟩⟩
      refine ⟨_, _, rfl, rfl, (by decide : (0 : Int) < 2147483587), _, _, rfl, ?_, ?_, rfl⟩
      · exact Int.emod_nonneg _ (by decide)
      · exact Int.lt_trans (Int.emod_lt_of_pos _ (by decide)) (by decide)
    · rintro _ _ ⟨m, u, rfl, m0, m1, rfl⟩
      refine fun d hd => ?_
      have s2 := s1.trans (same_upd (o := .dK []) hd)
      refine ⟨_, rfl, _, rfl, a, _, rfl, s2.seq ha, fun p2 hp2 => ?_⟩
      rw [cut63 hl]
      have s3 := s2.trans (same_upd (o := .lst (ns.map V.int)) hp2)
      refine ⟨p2, _, rfl, .inl (SqL.of upd_same), fun p3 hp3 => ?_⟩
      have s4 := s3.trans (same_upd (o := .lst (ns.map V.int)) hp3)
      refine ⟨p3, _, rfl, SqL.of upd_same, fun l hl4 => ?_⟩
      have s5 := s4.trans (same_upd (o := .lst (ns.map V.int).reverse) hl4)
      refine ⟨_, rfl, ?_⟩
      have at3 : ∀ {q : Addr} {o : HO} {G : Hp}, G d = some (.dK []) → G q = none → (upd G q o) d = some (.dK []) := fun h1 h2 => (upd_ne (ne_of_none h1 h2)).trans h1
      have hd4 := at3 (o := .lst (ns.map V.int)) (at3 (o := .lst (ns.map V.int)) upd_same hp2) hp3
      have hd5 := at3 (o := .lst (ns.map V.int).reverse) hd4 hl4
      refine ⟨hd5, dk kL l m 0, rfl, (by decide : 3 ≤ 15), ?_⟩
      rw [dk_merge kOk]
      have hdl : l ≠ d := (ne_of_none hd4 hl4).symm
      refine q d l _ (same_set (s1.free hd) s5) ⟨m, 0, ns.reverse, upd_same, ?_, ?_, m0, m1⟩
      · rw [upd_ne hdl, upd_same, List.map_reverse]
      · rw [List.length_reverse]
        exact hl
def spDraw : Sp := fun vs H Q _ => ∃ (d l : Addr) (k : Int), vs = [.ref d, .int k] ∧ 0 < k ∧ k.natAbs < 2 ^ 8000 ∧ Deck kL H d l ∧
  ∀ (r : Int) H', 0 ≤ r → r < k → But d l H H' → Deck kL H' d l → Q (.int r) H'
theorem ok__law_draw (T : Txt K mg) : FnOk P w K mg base CX0 1 T.a__law_draw T.d__law_draw P__law_draw spDraw := by
  refine T.F__law_draw.ok sc__law_draw (fun vs H Q E h => ?_) (fun cdv A outer s H vs Q E hr h => ?_)
  · obtain ⟨d, l, k, rfl, _⟩ := h
    rfl
  · obtain ⟨d, l, k, rfl, k0, kb, D, q⟩ := h
    have hne := D.ne
    obtain ⟨m, n, cs, hd, hl, lc, m0, m1⟩ := D.ex
    refine ⟨_, 
      (pss_cons (ps_dput (hu_of hr) (pv 0) pe_str (pe_op op_add (pe_dget (hu_of hr) (pv 0) pe_str (fun _ _ => rfl)) pe_int) rfl)
      (pss_cons (ps_set (i := 2) sc__law_draw.nd rfl (Or.inl rfl) (pe_op op_add (pe_dget (hu_of hr) (pv 0) pe_str (fun _ _ => rfl)) (pe_op op_mul pe_int (pe_dget (hu_of hr) (pv 0) pe_str (fun _ _ => rfl)))))
      (pss_cons (ps_if (pt_cmpR (op_neD hr.units) (pe_dget (hu_of hr) (pv 0) pe_str (fun _ _ => rfl)) (pe_lst pa_nil) (nomark _)) (pss_cons (ps_set (i := 3) sc__law_draw.nd rfl (Or.inl rfl) (pe_bm0 PySem.F.plainAttrs_list PySem.F.slot_list_pop PySem.F.type_list_pop mt_pop (pe_dget (hu_of hr) (pv 0) pe_str (fun _ _ => rfl))))
      (pss_cons (ps_if (pt_cmpR op_ge (pv 3) (pe_op op_pow pe_int pe_int) (nomark _)) (pss_cons (ps_expr (pe_bm PySem.F.plainAttrs_list PySem.F.slot_list_append PySem.F.type_list_append mt_append (pe_dget (hu_of hr) (pv 0) pe_str (fun _ _ => rfl)) (pa_cons (pe_op op_fdivW (pv 3) (pe_callB (call_max2 rfl) (by rfl) T.m_max (by decide +kernel) (pa_cons pe_int (pa_cons (pv 1) pa_nil)))) pa_nil)))
      (pss_one (ps_ret (pe_op op_modN (pe_callTy call_int1 (by rfl) T.m_int (by decide +kernel) (pa_cons (pv 3) pa_nil)) (pv 1))))) pss_nil)
      (pss_one (ps_set (i := 2) sc__law_draw.nd rfl (Or.inl rfl) (pe_op op_add (pv 2) (pe_op op_mod (pe_callTy call_int1 (by rfl) T.m_int (by decide +kernel) (pa_cons (pv 3) pa_nil)) pe_int)))))) pss_nil)
      (pss_cons (ps_set (i := 2) sc__law_draw.nd rfl (Or.inl rfl) (pe_op op_mod (pe_callTy call_int1 (by rfl) T.m_int (by decide +kernel) (pa_cons (pe_op op_add (pe_op op_mul (pv 2) pe_int) pe_int) pa_nil)) pe_int))
      (pss_cons (ps_set (i := 2) sc__law_draw.nd rfl (Or.inl rfl) (pe_op op_mod (pe_callTy call_int1 (by rfl) T.m_int (by decide +kernel) (pa_cons (pe_op op_add (pe_op op_add (pe_op op_mulW (pv 2) (pv 2)) (pe_op op_mul pe_int (pe_dget (hu_of hr) (pv 0) pe_str (fun _ _ => rfl)))) pe_int) pa_nil)) pe_int))
      (pss_cons (ps_set (i := 2) sc__law_draw.nd rfl (Or.inl rfl) (pe_op op_mod (pe_callTy call_int1 (by rfl) T.m_int (by decide +kernel) (pa_cons (pe_op op_mul (pv 2) pe_int) pa_nil)) pe_int))
      (pss_one (ps_ret (pe_op op_modN (pe_callTy call_int1 (by rfl) T.m_int (by decide +kernel) (pa_cons (pe_op op_fdiv (pv 2) pe_int) pa_nil)) (pv 1)))))))))), ?_⟩
    refine ⟨_, rfl, d, _, rfl, get_draws hd, _, _, rfl, rfl, _, rfl, d, _, rfl, DPut.k (k := Sum.inr ("draws" : Str)) hd (line_le (by decide : 3 ≤ 100000)), ?_⟩
    rw [dk_put kOk]
    have hd1 : (upd H d (.dK (dk kL l m (n + 1)))) d = some (.dK (dk kL l m (n + 1))) := upd_same
    have hl1 : (upd H d (.dK (dk kL l m (n + 1)))) l = some (.lst (cs.map V.int)) := (upd_ne hne.symm).trans hl
    have e1 : But d l H (upd H d (.dK (dk kL l m (n + 1)))) := fun b o h h1 _ => (upd_ne h1).trans h
    have D1 : Deck kL (upd H d (.dK (dk kL l m (n + 1)))) d l := ⟨m, n + 1, cs, hd1, hl1, lc, m0, m1⟩
    refine ⟨_, rfl, d, _, rfl, get_mixed hd1, _, rfl, d, _, rfl, get_draws hd1, _, _, rfl, rfl, .inl (by decide), _, _, rfl, rfl, ?_⟩
    refine ⟨_, rfl, d, _, rfl, get_left hd1, (by decide : 0 ≤ sizeLine), fun p hp => ?_⟩
    have s2 := same_upd (o := .lst []) hp
    refine ne_nil_rd (SqL.of (s2 _ _ hl1)) (SqL.of upd_same) ⟨_, rfl, ?_⟩
    generalize hH2 : upd (upd H d (.dK (dk kL l m (n + 1)))) p (.lst []) = H2
    rw [hH2] at s2
    have hd2 := s2 _ _ hd1
    have hl2 := s2 _ _ hl1
    have e2 : But d l H H2 := e1.same s2
    have D2 : Deck kL H2 d l := D1.same s2
    clear hH2 s2 hp e1 D1 hd1 hl1
    cases hcs : cs with
    | nil =>
      refine iteF ?_
      have bnd : ∀ x : Int, (x % 2147483647).natAbs < 2 ^ 32 := fun x => by
        have h1 := Int.emod_nonneg x (by decide : (2147483647 : Int) ≠ 0)
        have h2 := Int.emod_lt_of_pos x (by decide : (0 : Int) < 2147483647)
        omega
      refine ⟨_, rfl, _, _, rfl, rfl, .inr (by decide), _, _, rfl, rfl, .inl ⟨_, rfl, ?_⟩⟩
      refine ⟨_, _, rfl, rfl, (by decide : (0 : Int) < 2147483647), ?_⟩
      refine ⟨_, rfl, _, rfl, _, _, rfl, rfl, wide_mul (bnd _) (bnd _) (by decide) (by decide) (by decide), _, rfl, d, _, rfl, get_draws hd2, _, _, rfl, rfl, .inl (by decide), _, _, rfl, rfl, _, _, rfl, rfl, .inl ⟨_, rfl, ?_⟩⟩
      refine ⟨_, _, rfl, rfl, (by decide : (0 : Int) < 2147483587), ?_⟩
      refine ⟨_, rfl, _, _, rfl, rfl, .inr (by decide), .inl ⟨_, rfl, ?_⟩⟩
      refine ⟨_, _, rfl, rfl, (by decide : (0 : Int) < 2147483563), ?_⟩
      refine ⟨_, rfl, _, _, rfl, rfl, ⟨by decide, by decide⟩, .inl ⟨_, rfl, ?_⟩⟩
      refine ⟨_, rfl, _, _, rfl, rfl, (by omega : k ≠ 0), ?_⟩
      exact q _ _ (Int.fmod_nonneg_of_pos _ k0) (Int.fmod_lt_of_pos _ k0) e2 D2
    | cons c0 cr =>
      refine iteT ?_
      obtain ⟨ys, c, hys⟩ : ∃ ys c, cs = ys ++ [c] := ⟨cs.dropLast, cs.getLast (by rw [hcs]; simp), (List.dropLast_concat_getLast _).symm⟩
      clear hcs
      subst hys
      rw [List.length_append, List.length_singleton] at lc
      rw [List.map_append] at hl2
      refine ⟨_, rfl, d, _, rfl, get_left hd2, .inl ⟨rfl, _, SqL.of hl2⟩, l, _, .int c, rfl, rfl, hl2, ?_, ?_⟩
      · simp
      have edl : (ys.map V.int ++ [c].map V.int).dropLast = ys.map V.int := by
        show (ys.map V.int ++ [V.int c]).dropLast = _
        rw [List.dropLast_concat]
      rw [edl]
      have hd3 : (upd H2 l (.lst (ys.map V.int))) d = some (.dK (dk kL l m (n + 1))) := (upd_ne hne).trans hd2
      have hl3 : (upd H2 l (.lst (ys.map V.int))) l = some (.lst (ys.map V.int)) := upd_same
      have e3 : But d l H (upd H2 l (.lst (ys.map V.int))) := fun b o h h1 h2 => (upd_ne h2).trans (e2 b o h h1 h2)
      have D3 : Deck kL (upd H2 l (.lst (ys.map V.int))) d l := ⟨m, n + 1, ys, hd3, hl3, by omega, m0, m1⟩
      generalize upd H2 l (.lst (ys.map V.int)) = H3 at hd3 hl3 e3 D3
      clear e2 D2 hd2 hl2
      refine ⟨_, rfl, _, _, rfl, rfl, ⟨by decide, by decide, by decide⟩, _, _, rfl, rfl, _, rfl, ?_⟩
      refine ite2 (fun _ => ?_) (fun _ => ?_)
      ·
        have dv : CDivW c (if k > 2 then k else 2) := by
          split
          · exact wide_div k0 kb (by decide) (by decide)
          · exact wide_div (by decide) (b := 8) (by decide) (by decide) (by decide)
        refine ⟨_, rfl, d, _, rfl, get_left hd3, .inl ⟨rfl, _, SqL.of hl3⟩, _, rfl, _, rfl, _, _, rfl, _, _, rfl, rfl, dv, l, _, _, rfl, rfl, hl3, ?_, ?_⟩
        · rw [List.length_map]
          exact line_le (by omega)
        refine ⟨_, rfl, .inl ⟨_, rfl, ?_⟩⟩
        refine ⟨_, rfl, _, _, rfl, rfl, (by omega : k ≠ 0), ?_⟩
        refine q _ _ (Int.fmod_nonneg_of_pos _ k0) (Int.fmod_lt_of_pos _ k0) (fun b o h h1 h2 => (upd_ne h2).trans (e3 b o h h1 h2)) ?_
        refine ⟨m, n + 1, ys ++ [c / (if k > 2 then k else 2)], (upd_ne hne).trans hd3, ?_, by rw [List.length_append]; simp; omega, m0, m1⟩
        rw [upd_same, List.map_append]
        rfl
      ·
        refine ⟨_, rfl, _, rfl, .inl ⟨_, rfl, ?_⟩⟩
        refine ⟨_, _, rfl, rfl, (by decide : (0 : Int) < 2147483629), _, _, rfl, rfl, ?_⟩
        have bnd : ∀ x : Int, (x % 2147483647).natAbs < 2 ^ 32 := fun x => by
          have h1 := Int.emod_nonneg x (by decide : (2147483647 : Int) ≠ 0)
          have h2 := Int.emod_lt_of_pos x (by decide : (0 : Int) < 2147483647)
          omega
        refine ⟨_, rfl, _, _, rfl, rfl, .inr (by decide), _, _, rfl, rfl, .inl ⟨_, rfl, ?_⟩⟩
        refine ⟨_, _, rfl, rfl, (by decide : (0 : Int) < 2147483647), ?_⟩
        refine ⟨_, rfl, _, rfl, _, _, rfl, rfl, wide_mul (bnd _) (bnd _) (by decide) (by decide) (by decide), _, rfl, d, _, rfl, get_draws hd3, _, _, rfl, rfl, .inl (by decide), _, _, rfl, rfl, _, _, rfl, rfl, .inl ⟨_, rfl, ?_⟩⟩
        refine ⟨_, _, rfl, rfl, (by decide : (0 : Int) < 2147483587), ?_⟩
        refine ⟨_, rfl, _, _, rfl, rfl, .inr (by decide), .inl ⟨_, rfl, ?_⟩⟩
        refine ⟨_, _, rfl, rfl, (by decide : (0 : Int) < 2147483563), ?_⟩
        refine ⟨_, rfl, _, _, rfl, rfl, ⟨by decide, by decide⟩, .inl ⟨_, rfl, ?_⟩⟩
        refine ⟨_, rfl, _, _, rfl, rfl, (by omega : k ≠ 0), ?_⟩
        exact q _ _ (Int.fmod_nonneg_of_pos _ k0) (Int.fmod_lt_of_pos _ k0) e3 D3
end
end K05
end
section
set_option maxRecDepth 100000
namespace MB
open PySem PySem.Spec PyProof.Rows L2
def TD (K : PySem.W.Frag) (d l : Addr) (H0 : Hp) (σ : L2.St) (t : TE) (dd : PyData) : Prop :=
  ∀ H Q, Same H0 H → (∀ v H', Same H H' → Dq K (hide d l H') v dd → Q v H') → t σ H Q
def TDs (K : PySem.W.Frag) (d l : Addr) (H0 : Hp) (σ : L2.St) (t : TA) (ds : List PyData) : Prop :=
  ∀ H Q, Same H0 H → (∀ vs H', Same H H' → DqAll K (hide d l H') vs ds → Q vs H') → t σ H Q
def TL (K : PySem.W.Frag) (d l : Addr) (H0 : Hp) (σ : L2.St) (t : TE) (ds : List PyData) : Prop :=
  ∀ H Q, Same H0 H → (∀ a xs H', Same H H' → a ≠ d → a ≠ l → H' a = some (.lst xs) → DqAll K (hide d l H') xs ds → Q (.ref a) H') → t σ H Q
theorem DqAll.app {K : PySem.W.Frag} {H : Hp} : ∀ {xs ys : List V} {ds es : List PyData}, DqAll K H xs ds → DqAll K H ys es → DqAll K H (xs ++ ys) (ds ++ es)
  | _, _, _, _, .nil, h => h
  | _, _, _, _, .cons h1 h2, h => .cons h1 (h2.app h)
theorem DqAll.drop {K : PySem.W.Frag} {H : Hp} : ∀ {xs : List V} {ds : List PyData} (n : Nat), DqAll K H xs ds → DqAll K H (xs.drop n) (ds.drop n)
  | _, _, 0, h => h
  | _, _, _ + 1, .nil => .nil
  | _, _, n + 1, .cons _ h2 => h2.drop n
theorem DqAll.take {K : PySem.W.Frag} {H : Hp} : ∀ {xs : List V} {ds : List PyData} (n : Nat), DqAll K H xs ds → DqAll K H (xs.take n) (ds.take n)
  | _, _, 0, _ => .nil
  | _, _, _ + 1, .nil => .nil
  | _, _, n + 1, .cons h1 h2 => .cons h1 (h2.take n)
theorem DqAll.rev {K : PySem.W.Frag} {H : Hp} : ∀ {xs : List V} {ds : List PyData}, DqAll K H xs ds → DqAll K H xs.reverse ds.reverse
  | _, _, .nil => .nil
  | _, _, .cons h1 h2 => by
    rw [List.reverse_cons, List.reverse_cons]
    exact h2.rev.app (.cons h1 .nil)
theorem DqAll.rep {K : PySem.W.Frag} {H : Hp} {xs : List V} {ds : List PyData} (h : DqAll K H xs ds) : ∀ n : Nat, DqAll K H (List.replicate n xs).flatten (List.replicate n ds).flatten
  | 0 => .nil
  | n + 1 => by
    rw [List.replicate_succ, List.replicate_succ, List.flatten_cons, List.flatten_cons]
    exact h.app (h.rep n)
theorem DqAll.mem {K : PySem.W.Frag} {H : Hp} : ∀ {xs : List V} {ds : List PyData} {x : V}, DqAll K H xs ds → x ∈ xs → ∃ dd ∈ ds, Dq K H x dd
  | _, _, _, .nil, hx => by cases hx
  | _, _, _, .cons h1 h2, hx => by
    rcases List.mem_cons.mp hx with rfl | hx
    · exact ⟨_, List.mem_cons_self, h1⟩
    · obtain ⟨dd, m, q⟩ := h2.mem hx
      exact ⟨dd, List.mem_cons_of_mem _ m, q⟩
theorem DqAll.at {K : PySem.W.Frag} {H : Hp} : ∀ {xs : List V} {ds : List PyData} {i : Nat} {dd : PyData}, DqAll K H xs ds → ds[i]? = some dd → ∃ x, xs[i]? = some x ∧ Dq K H x dd
  | _, _, _, _, .nil, e => by simp at e
  | _, _, 0, _, .cons h1 _, e => by
    obtain rfl := Option.some.inj e
    exact ⟨_, rfl, h1⟩
  | _, _, i + 1, _, .cons _ h2, e => h2.at (i := i) e
theorem same_upd' {H : Hp} {p : Addr} {o : HO} (h : H p = none) : Same H (upd H p o) := fun b u e => by
  rw [upd_ne (ne_of_none e h)]
  exact e
def cutD (ds : List PyData) (lo hi : Option Int) : List PyData := (ds.drop (HT.sIx ds.length 0 lo)).take (HT.sIx ds.length ds.length hi - HT.sIx ds.length 0 lo)
theorem DqAll.cut {K : PySem.W.Frag} {H : Hp} {xs : List V} {ds : List PyData} (h : DqAll K H xs ds) (lo hi : Option Int) : DqAll K H (cutV xs lo hi) (cutD ds lo hi) := by
  unfold cutV cutD
  rw [h.length]
  exact (h.drop _).take _
section
variable {K : PySem.W.Frag} {d l : Addr} {H0 : Hp} {σ : L2.St} {kL : Str}
theorem tds_nil : TDs K d l H0 σ tNil [] := fun H Q _ q => q [] H (Same.refl _) .nil
theorem tds_cons {t : TE} {ts : TA} {dd : PyData} {ds : List PyData} (h : TD K d l H0 σ t dd) (hs : TDs K d l H0 σ ts ds) : TDs K d l H0 σ (tCons t ts) (dd :: ds) :=
  fun H Q s q => h H _ s fun v H1 s1 hv => hs H1 _ (s.trans s1) fun vs H2 s2 hvs => q (v :: vs) H2 (s1.trans s2) (.cons (Dq.same (same_hide s2) _ _ hv) hvs)
theorem td_pure {t : TE} {v : V} {dd : PyData} (h : ∀ H Q, Q v H → t σ H Q) (hd : ∀ H, Dq K H v dd) : TD K d l H0 σ t dd :=
  fun H Q _ q => h H Q (q v H (Same.refl _) (hd _))
theorem td_none : TD K d l H0 σ (tC .non) .none := td_pure (fun _ _ q => q) fun _ => .non
theorem td_bool {b : Bool} : TD K d l H0 σ (tC (.bl b)) (.bool b) := td_pure (fun _ _ q => q) fun _ => .bl b
theorem td_int {i : Int} : TD K d l H0 σ (tC (.int i)) (.int i) := td_pure (fun _ _ q => q) fun _ => .int i
theorem td_str {x : Str} : TD K d l H0 σ (tC (.str x)) (.str x) := td_pure (fun _ _ q => q) fun _ => .str x
theorem td_pow {i j : Int} (h : CPow i j) : TD K d l H0 σ (tOp (rI CPow fun i j => .int (i ^ j.toNat)) (tC (.int i)) (tC (.int j))) (.int (i ^ j.toNat)) :=
  td_pure (fun _ _ q => ⟨i, j, rfl, rfl, h, q⟩) fun _ => .int _
theorem td_npow {i j : Int} (h : CPow i j) : TD K d l H0 σ (tUn (rU fun i => .int (-i)) (tOp (rI CPow fun i j => .int (i ^ j.toNat)) (tC (.int i)) (tC (.int j)))) (.int (-(i ^ j.toNat))) :=
  td_pure (fun _ _ q => ⟨i, j, rfl, rfl, h, _, rfl, q⟩) fun _ => .int _
theorem td_neg {i : Int} : TD K d l H0 σ (tUn (rU fun i => .int (-i)) (tC (.int i))) (.int (-i)) := td_pure (fun _ _ q => ⟨_, rfl, q⟩) fun _ => .int _
theorem td_var {i : Nat} {v : V} {dd : PyData} (e : σ[i]? = some (some v)) (h : Dq K (hide d l H0) v dd) : TD K d l H0 σ (tVar i) dd :=
  fun H Q s q => ⟨v, e, q v H (Same.refl _) (Dq.same (same_hide s) _ _ h)⟩
variable (D : Deck kL H0 d l)
include D
theorem td_tup {ts : TA} {ds : List PyData} (h : TDs K d l H0 σ ts ds) (hl : ds.length ≤ 100000 := by decide) : TD K d l H0 σ (tTup ts) (.tuple ds) :=
  fun H Q s q => h H _ s fun vs H1 s1 hv => ⟨by rw [hv.length]; exact Nat.le_trans hl (by rw [sizeLine_eq]; decide), fun p hp => by
    have D1 := D.same (s.trans s1)
    exact q _ _ (s1.trans (same_upd' hp)) (.tup (SqT.of (D1.at_new hp)) (DqAll.same (D1.same_new hp) _ _ hv))⟩
theorem td_lst {ts : TA} {ds : List PyData} (h : TDs K d l H0 σ ts ds) (hl : ds.length ≤ 100000 := by decide) : TD K d l H0 σ (tLst ts) (.list ds) :=
  fun H Q s q => h H _ s fun vs H1 s1 hv => ⟨by rw [hv.length]; exact Nat.le_trans hl (by rw [sizeLine_eq]; decide), fun p hp => by
    have D1 := D.same (s.trans s1)
    exact q _ _ (s1.trans (same_upd' hp)) (.lst (SqL.of (D1.at_new hp)) (DqAll.same (D1.same_new hp) _ _ hv))⟩
theorem td_dict0 : TD K d l H0 σ tDNewK (.dict []) := fun H Q s q p hp => by
  have D1 := D.same s
  exact q _ _ (same_upd' hp) (.dic (D1.at_new hp) .nil)
theorem tl_lst {ts : TA} {ds : List PyData} (h : TDs K d l H0 σ ts ds) (hl : ds.length ≤ 100000 := by decide) : TL K d l H0 σ (tLst ts) ds :=
  fun H Q s q => h H _ s fun vs H1 s1 hv => ⟨by rw [hv.length]; exact Nat.le_trans hl (by rw [sizeLine_eq]; decide), fun p hp => by
    have D1 := D.same (s.trans s1)
    exact q _ vs _ (s1.trans (same_upd' hp)) (D1.off hp).1 (D1.off hp).2 upd_same (DqAll.same (D1.same_new hp) _ _ hv)⟩
end
end MB
namespace MB
open PySem PySem.Spec PyProof.Rows L2
section
variable {K : PySem.W.Frag} {d l : Addr} {H0 : Hp} {σ : L2.St} {kL : Str}
theorem tl_var {i : Nat} {a : Addr} {xs : List V} {ds : List PyData} (e : σ[i]? = some (some (.ref a))) (h1 : a ≠ d) (h2 : a ≠ l) (hx : H0 a = some (.lst xs)) (h : DqAll K (hide d l H0) xs ds) : TL K d l H0 σ (tVar i) ds :=
  fun H Q s q => ⟨_, e, q a xs H (Same.refl _) h1 h2 (s _ _ hx) (DqAll.same (same_hide s) _ _ h)⟩
variable (D : Deck kL H0 d l)
include D
theorem tl_cat {ta tb : TE} {ds es : List PyData} (ha : TL K d l H0 σ ta ds) (hb : TL K d l H0 σ tb es) (hl : ds.length + es.length ≤ 100000 := by decide) : TL K d l H0 σ (tOp rCat ta tb) (ds ++ es) :=
  fun H Q s q => ha H _ s fun a xs H1 s1 a1 a2 hx hxs => hb H1 _ (s.trans s1) fun b ys H2 s2 b1 b2 hy hys => by
    refine ⟨a, b, xs, ys, rfl, rfl, s2 _ _ hx, hy, by rw [hxs.length, hys.length]; exact Nat.le_trans hl (by rw [sizeLine_eq]; decide), fun p hp => ?_⟩
    have D2 := D.same ((s.trans s1).trans s2)
    refine q p _ _ ((s1.trans s2).trans (same_upd' hp)) (D2.off hp).1 (D2.off hp).2 upd_same (DqAll.same (D2.same_new hp) _ _ ?_)
    exact DqAll.app (DqAll.same (same_hide s2) _ _ hxs) hys
theorem tl_rep {ta : TE} {ds : List PyData} {k : Int} (ha : TL K d l H0 σ ta ds) (h0 : 0 ≤ k := by decide) (hk : k ≤ 1000 := by decide) (hl : ds.length * k.toNat ≤ 100000 := by decide) :
    TL K d l H0 σ (tOp rRep ta (tC (.int k))) (List.replicate k.toNat ds).flatten :=
  fun H Q s q => ha H _ s fun a xs H1 s1 a1 a2 hx hxs => by
    refine ⟨a, k, xs, rfl, rfl, hx, by omega, by omega, by rw [hxs.length]; exact Nat.le_trans hl (by rw [sizeLine_eq]; decide), fun p hp => ?_⟩
    have D1 := D.same (s.trans s1)
    exact q p _ _ (s1.trans (same_upd' hp)) (D1.off hp).1 (D1.off hp).2 upd_same (DqAll.same (D1.same_new hp) _ _ (hxs.rep _))
theorem td_dict1 {k : Str} {i j : Int} : TD K d l H0 σ (tDisp [(tC (.str k), tTup (tCons (tC (.int i)) (tCons (tC (.int j)) tNil)))]) (.dict [(.str k, .tuple [.int i, .int j])]) := fun H Q s q p hp => by
  refine ⟨by rw [sizeLine_eq]; exact (by decide : 2 ≤ 16777216), fun t ht => ?_⟩
  have D1 := D.same s
  have h1 : (upd H p (.dK [])) p = some (.dK []) := upd_same
  have htp : t ≠ p := (ne_of_none h1 ht).symm
  have htH : H t = none := by
    rw [upd_ne htp] at ht
    exact ht
  refine ⟨(upd_ne htp.symm).trans h1, [(.inr k, .ref t)], rfl, (by decide : 1 ≤ 15), ?_⟩
  have e0 : Same H (upd (upd (upd H p (.dK [])) t (.tup [.int i, .int j])) p (.dK (mergeK [] [(.inr k, .ref t)]))) := fun b u z => by
    rw [upd_ne (ne_of_none z hp), upd_ne (ne_of_none z htH), upd_ne (ne_of_none z hp)]
    exact z
  refine q _ _ e0 (.dic (kvs := [(.inr k, .ref t)]) ?_ (.cons (k := .inr k) (.tup (xs := [.int i, .int j]) (SqT.of ?_) (.cons (.int i) (.cons (.int j) .nil))) .nil))
  · rw [hide_off (D1.off hp).1 (D1.off hp).2, upd_same]
    rfl
  · rw [hide_off (D1.off htH).1 (D1.off htH).2, upd_ne htp, upd_same]
theorem td_listOf {t : TE} {ds : List PyData} (h : TD K d l H0 σ t (.tuple ds)) :
    TD K d l H0 σ (tCB (fun xs H Q => ∃ p ys, xs = [V.ref p] ∧ (SqL K H p ys ∨ SqT K H p ys) ∧ ∀ l : Addr, H l = none → Q (V.ref l) (upd H l (.lst ys))) (tCons t tNil)) (.list ds) :=
  fun H Q s q => h H _ s fun v H1 s1 hv => by
    cases hv with
    | @tup a xs _ h1 h2 =>
      refine ⟨a, xs, rfl, .inr (sqT_same hide_sub h1), fun p hp => ?_⟩
      have D1 := D.same (s.trans s1)
      exact q _ _ (s1.trans (same_upd' hp)) (.lst (SqL.of (D1.at_new hp)) (DqAll.same (D1.same_new hp) _ _ h2))
theorem td_catT {ta tb : TE} {ds es : List PyData} (ha : TD K d l H0 σ ta (.tuple ds)) (hb : TD K d l H0 σ tb (.tuple es)) (hl : ds.length + es.length ≤ 100000) :
    TD K d l H0 σ (tOp (rCatA K) ta tb) (.tuple (ds ++ es)) :=
  fun H Q s q => ha H _ s fun v H1 s1 hv => hb H1 _ (s.trans s1) fun u H2 s2 hu => by
    cases hv with
    | @tup a xs _ h1 h2 =>
      cases hu with
      | @tup b ys _ h3 h4 =>
        have h1' := sqT_same (same_hide s2) h1
        have h2' := DqAll.same (same_hide s2) _ _ h2
        refine ⟨a, b, xs, ys, rfl, rfl, sqT_same hide_sub h1', sqT_same hide_sub h3, by rw [h2.length, h4.length]; exact Nat.le_trans hl (by rw [sizeLine_eq]; decide), ?_, ?_, ?_⟩
        · intro z
          subst z
          cases h2
          exact q _ _ (s1.trans s2) (.tup h3 h4)
        · intro _ z
          subst z
          cases h4
          exact q _ _ (s1.trans s2) (.tup h1' (by rw [List.append_nil]; exact h2'))
        · intro _ _ p hp
          have D2 := D.same ((s.trans s1).trans s2)
          exact q _ _ ((s1.trans s2).trans (same_upd' hp)) (.tup (SqT.of (D2.at_new hp)) (DqAll.same (D2.same_new hp) _ _ (h2'.app h4)))
theorem td_slice {t : TE} {ds : List PyData} {tl th : TO} {lo hi : Option Int} (h : TD K d l H0 σ t (.tuple ds)) (hlo : ∀ H Q, Q lo H → tl σ H Q) (hhi : ∀ H Q, Q hi H → th σ H Q) :
    TD K d l H0 σ (L2.tSl (rSlA K) t tl th) (.tuple (cutD ds lo hi)) :=
  fun H Q s q => h H _ s fun v H1 s1 hv => hlo H1 _ (hhi H1 _ (by
    cases hv with
    | @tup a xs _ h1 h2 =>
      refine ⟨a, xs, rfl, sqT_same hide_sub h1, fun hw => ?_, fun hw p hp => ?_⟩
      · have e : cutV xs lo hi = xs := by
          unfold cutV
          rw [hw.1, hw.2, List.drop_zero, Nat.sub_zero, List.take_length]
        have z := h2.cut lo hi
        rw [e] at z
        exact q _ _ s1 (.tup h1 z)
      · have D1 := D.same (s.trans s1)
        exact q _ _ (s1.trans (same_upd' hp)) (.tup (SqT.of (D1.at_new hp)) (DqAll.same (D1.same_new hp) _ _ (h2.cut lo hi)))))
theorem td_revT {t : TE} {ds : List PyData} (h : TD K d l H0 σ t (.tuple ds)) : TD K d l H0 σ (tRevT K t) (.tuple ds.reverse) :=
  fun H Q s q => h H _ s fun v H1 s1 hv => by
    cases hv with
    | @tup a xs _ h1 h2 =>
      refine ⟨a, xs, rfl, sqT_same hide_sub h1, fun p hp => ?_⟩
      have D1 := D.same (s.trans s1)
      exact q _ _ (s1.trans (same_upd' hp)) (.tup (SqT.of (D1.at_new hp)) (DqAll.same (D1.same_new hp) _ _ h2.rev))
end
theorem asg_tl {K : PySem.W.Frag} {d l : Addr} {H0 : Hp} {σ : L2.St} {te : TE} {ds : List PyData} {i : Nat} {D : Ends} {H : Hp} (h : TL K d l H0 σ te ds) (s : Same H0 H)
    (k : ∀ a xs H', Same H H' → a ≠ d → a ≠ l → H' a = some (.lst xs) → DqAll K (hide d l H') xs ds → D.nx (σ.set i (some (.ref a))) H') : tAsg te (gName i) D σ H :=
  h H _ s fun a xs H' s1 h1 h2 hx hq => k a xs H' s1 h1 h2 hx hq
theorem seq_tl {K : PySem.W.Frag} {d l : Addr} {H0 : Hp} {σ : L2.St} {te : TE} {ds : List PyData} {i : Nat} {rest : TS} {D : Ends} {H : Hp} (h : TL K d l H0 σ te ds) (s : Same H0 H)
    (k : ∀ a xs H', Same H H' → a ≠ d → a ≠ l → H' a = some (.lst xs) → DqAll K (hide d l H') xs ds → rest D (σ.set i (some (.ref a))) H') : tSeq (tAsg te (gName i)) rest D σ H :=
  h H _ s fun a xs H' s1 h1 h2 hx hq => k a xs H' s1 h1 h2 hx hq
theorem to_no {σ : L2.St} : ∀ H (Q : Option Int → Hp → Prop), Q none H → tNoPart σ H Q := fun _ _ q => q
theorem to_int {σ : L2.St} {i : Int} : ∀ H (Q : Option Int → Hp → Prop), Q (some i) H → tPart (tC (.int i)) σ H Q := fun _ _ q => ⟨i, rfl, q⟩
theorem to_neg {σ : L2.St} {i : Int} : ∀ H (Q : Option Int → Hp → Prop), Q (some (-i)) H → tPart (tUn (rU fun i => .int (-i)) (tC (.int i))) σ H Q := fun _ _ q => ⟨i, rfl, _, rfl, q⟩
end MB
end
section
set_option maxRecDepth 100000
set_option maxHeartbeats 4000000
namespace K05
open PySem PySem.Spec PyProof.Rows L2 MB
open LamX hiding takes0
def lsum (q a b : Int) : Int := if q = 4 then Builtin.bitXor a b else (a + b).fmod q
def lneg (q a : Int) : Int := if q = 4 then a else (0 - a).fmod q
def ltim (q a b : Int) : Int := if q = 4 then (four.getD a.toNat []).getD b.toNat 0 else (a * b).fmod q
structure LetQ (q : Int) : Prop where
  lo : 2 ≤ q
  hi : q ≤ 5
section
variable {w : World} {K : PySem.W.Frag} {mg : Str → Option Value} {base : Heap}
def spLsum : Sp := fun vs H Q _ => ∃ q a b : Int, vs = [.int q, .int a, .int b] ∧ LetQ q ∧ Q (.int (lsum q a b)) H
theorem ok_letter_sum (T : Txt K mg) : FnOk P w K mg base CX0 1 T.a_letter_sum T.d_letter_sum P_letter_sum spLsum := by
  refine T.F_letter_sum.ok sc_letter_sum (fun vs H Q E h => ?_) (fun cdv A outer s H vs Q E hr h => ?_)
  · obtain ⟨q, a, b, rfl, _⟩ := h
    rfl
  · obtain ⟨q, a, b, rfl, hq, k⟩ := h
    refine ⟨_, 
      (pss_cons (ps_if (pt_cmpR op_eq (pv 0) pe_int (nomark _)) (pss_one (ps_ret (pe_op op_xor (pv 1) (pv 2)))) pss_nil)
      (pss_one (ps_ret (pe_op op_modN (pe_op op_add (pv 1) (pv 2)) (pv 0))))), ?_⟩
    have := hq.lo
    refine ⟨_, rfl, rfl, _, rfl, ?_⟩
    rw [dec_int]
    unfold lsum at k
    refine ite2 (fun e => ?_) (fun e => ?_)
    · rw [if_pos (of_decide_eq_true e)] at k
      exact ⟨_, rfl, _, rfl, _, _, rfl, rfl, k⟩
    · rw [if_neg (fun z => e (decide_eq_true z))] at k
      exact ⟨_, rfl, _, rfl, _, _, rfl, rfl, _, rfl, _, _, rfl, rfl, by omega, k⟩
def spLtim : Sp := fun vs H Q _ => ∃ q a b : Int, vs = [.int q, .int a, .int b] ∧ LetQ q ∧ (0 ≤ a ∧ a < q) ∧ (0 ≤ b ∧ b < q) ∧ Q (.int (ltim q a b)) H
theorem ok_letter_times (T : Txt K mg) : FnOk P w K mg base CX0 1 T.a_letter_times T.d_letter_times P_letter_times spLtim := by
  refine T.F_letter_times.ok sc_letter_times (fun vs H Q E h => ?_) (fun cdv A outer s H vs Q E hr h => ?_)
  · obtain ⟨q, a, b, rfl, _⟩ := h
    rfl
  · obtain ⟨q, a, b, rfl, hq, ⟨a0, a1⟩, ⟨b0, b1⟩, k⟩ := h
    refine ⟨_, 
      (pss_cons (ps_if (pt_cmpR op_eq (pv 0) pe_int (nomark _)) (pss_one (ps_ret (pe_ix (r := rIxT K) ix_tup (pe_ix (r := rIxT K) ix_tup (pe_glob (v := .ref T.t_four) rfl T.m_four rfl) (pv 1) (fun _ _ => rfl)) (pv 2) (fun _ _ => rfl)))) pss_nil)
      (pss_one (ps_ret (pe_op op_modN (pe_op op_mulW (pv 1) (pv 2)) (pv 0))))), ?_⟩
    have := hq.lo
    have := hq.hi
    refine ⟨_, rfl, rfl, _, rfl, ?_⟩
    rw [dec_int]
    unfold ltim at k
    refine ite2 (fun e => ?_) (fun e => ?_)
    · have e4 := of_decide_eq_true e
      rw [if_pos e4] at k
      obtain ⟨rs, rl, rt, rr⟩ := T.four
      obtain ⟨i, rfl⟩ : ∃ i : Nat, a = (i : Int) := ⟨a.toNat, by omega⟩
      obtain ⟨j, rfl⟩ : ∃ j : Nat, b = (j : Int) := ⟨b.toNat, by omega⟩
      have hi : i < 4 := by omega
      have hj : j < 4 := by omega
      have hir : i < rs.length := by omega
      have hrow := rr i rs[i] H (List.getElem?_eq_getElem hir)
      refine ⟨_, rfl, T.t_four, _, _, .ref rs[i], rfl, rfl, rt H, atI_nat (by rw [List.getElem?_map, List.getElem?_eq_getElem hir]; rfl), _, rfl, rs[i], _, _, .int ((four.getD i []).getD j 0), rfl, rfl, hrow, atI_nat ?_, ?_⟩
      · have : ∀ i < 4, ∀ j < 4, ((four.getD i []).map V.int)[j]? = some (.int ((four.getD i []).getD j 0)) := by decide
        exact this i hi j hj
      · simpa using k
    · rw [if_neg (fun z => e (decide_eq_true z))] at k
      exact ⟨_, rfl, _, rfl, _, _, rfl, rfl, wide_mul (a := 3) (b := 3) (by omega) (by omega) (by decide) (by decide) (by decide), _, rfl, _, _, rfl, rfl, by omega, k⟩
def linv (q a : Int) : Int := (((List.range q.toNat).map (fun n : Nat => (n : Int))).find? fun x => decide (ltim q a x = 1)).getD 0
def IsLet (q a : Int) : Prop := 0 ≤ a ∧ a < q
theorem invs_next (q a : Int) (i : Nat) : (((List.range (i + 1)).map (fun n : Nat => (n : Int))).filter fun x => decide (ltim q a x = 1)) =
    (((List.range i).map (fun n : Nat => (n : Int))).filter fun x => decide (ltim q a x = 1)) ++ (if decide (ltim q a (i : Int) = 1) = true then [(i : Int)] else []) := by
  rw [List.range_succ, List.map_append, List.filter_append]
  congr 1
  by_cases c : ltim q a (i : Int) = 1
  · simp [c]
  · simp [c]
theorem linv_some {q a : Int} (hq : LetQ q) (ha : IsLet q a) (a0 : a ≠ 0) : (((List.range q.toNat).map (fun n : Nat => (n : Int))).find? fun x => decide (ltim q a x = 1)).isSome = true := by
  obtain ⟨h1, h2⟩ := hq
  obtain ⟨h3, h4⟩ := ha
  have hc : q = 2 ∨ q = 3 ∨ q = 4 ∨ q = 5 := by omega
  have ac : a = 1 ∨ a = 2 ∨ a = 3 ∨ a = 4 := by omega
  rcases hc with rfl | rfl | rfl | rfl <;> rcases ac with rfl | rfl | rfl | rfl <;> first | (exfalso; omega) | decide
def IsRow (q : Int) (ns : List Int) : Prop := ∀ c ∈ ns, IsLet q c
def spRsum (K : PySem.W.Frag) : Sp := fun vs H Q _ => ∃ (q : Int) (u v : V) (ns ms : List Int), vs = [.int q, u, v] ∧ LetQ q ∧ TI K H u ns ∧ TI K H v ms ∧ ns.length ≤ 1000 ∧
  ∀ z H', Same H H' → TI K H' z (List.zipWith (lsum q) ns ms) → Q z H'
theorem ok_row_sum (T : Txt K mg) : FnOk P w K mg base CX0 2 T.a_row_sum T.d_row_sum P_row_sum (spRsum K) := by
  refine T.F_row_sum.ok sc_row_sum (fun vs H Q E h => ?_) (fun cdv A outer s H vs Q E hr h => ?_)
  · obtain ⟨q, u, v, ns, ms, rfl, _⟩ := h
    rfl
  · obtain ⟨q, _, _, ns, ms, rfl, hq, ⟨a, rfl, ha⟩, ⟨b, rfl, hb⟩, hl, k⟩ := h
    refine ⟨_, 
      (pss_one (ps_ret (pe_callTy call_tuple_of (by rfl) T.m_tuple (by decide +kernel) (pa_cons (pe_lc (own := [("left", 3), ("right", 4)]) (g := gTup K 2 (gCons (gName 3) (gCons (gName 4) gNil))) (tt := tYes) rfl sc_row_sum.nd (RZ.pi_zipA (by rfl) T.m_zip (pa_cons (pv 1) (pa_cons (pv 2) pa_nil))) (blkOk_by (own := [("left", 3), ("right", 4)]) (N := N_row_sum) (sc := defScope s_row_sum) (by decide +kernel)) (fun _ _ _ _ _ => (pg_tup rfl (pgs_cons (pg_name (i := 3) sc_row_sum.nd rfl (Or.inl rfl)) (pgs_cons (pg_name (i := 4) sc_row_sum.nd rfl (Or.inl rfl)) pgs_nil)))) (fun _ _ _ _ _ => pts_nil) (fun _ _ _ _ _ => (pe_call (ok_letter_sum T) (hr.mono (by decide)) rfl T.m_letter_sum T.F_letter_sum.kp T.b_letter_sum .nil pass0 (pa_cons (pv 0) (pa_cons (pv 3) (pa_cons (pv 4) pa_nil)))))) pa_nil)))), ?_⟩
    refine ⟨_, rfl, _, rfl, a, b, _, _, rfl, .inr ⟨ha, hb, ?_⟩⟩
    refine fun D hD => lc_it (walk_zipT (K := K) (a := a) (b := b) (xs := ns.map V.int) (ys := ms.map V.int) rfl)
      (fun i H' => Same H H' ∧ H' D = some (.lst (((List.zipWith (lsum q) ns ms).take i).map V.int)))
      ⟨same_upd hD, by rw [upd_same]; simp⟩ (fun i H' _ ⟨e, _⟩ => ⟨e.tup ha, e.tup hb⟩) ?_ ?_
    · rintro i v H' H'' hi ⟨e, hacc⟩ ⟨T0, x, y, rfl, hT0, rfl, hx, hy⟩
      obtain ⟨c, hc, rfl⟩ := int_at hx
      obtain ⟨d, hd, rfl⟩ := int_at hy
      have hiL : i < ns.length := (List.getElem?_eq_some_iff.mp hc).1
      refine ⟨T0, _, rfl, SqT.of upd_same, rfl, _, _, rfl, _, _, rfl, rfl, rfl, ?_⟩
      refine ⟨_, rfl, _, rfl, _, rfl, q, c, d, rfl, hq, _, (upd_ne (ne_of_none hacc hT0)).trans hacc, ?_, ?_, ?_⟩
      · rw [List.length_map, List.length_take]
        exact line_le (by omega)
      · exact same_set hD (e.trans (same_upd hT0))
      · rw [upd_same, List.take_add_one, List.getElem?_zipWith, hc, hd]
        simp
    · rintro H' ⟨e, hacc⟩
      rw [List.length_map, List.length_map, List.take_of_length_le (by rw [List.length_zipWith]; exact Nat.le_refl _)] at hacc
      refine ⟨D, _, rfl, .inl ⟨SqL.of hacc, fun p8 hp8 => ?_⟩⟩
      exact k _ _ (e.trans (same_upd hp8)) ⟨p8, rfl, SqT.of upd_same⟩
def spRtim (K : PySem.W.Frag) : Sp := fun vs H Q _ => ∃ (q c : Int) (v : V) (ns : List Int), vs = [.int q, .int c, v] ∧ LetQ q ∧ IsLet q c ∧ TI K H v ns ∧ IsRow q ns ∧ ns.length ≤ 1000 ∧
  ∀ z H', Same H H' → TI K H' z (ns.map (ltim q c)) → Q z H'
theorem ok_row_times (T : Txt K mg) : FnOk P w K mg base CX0 2 T.a_row_times T.d_row_times P_row_times (spRtim K) := by
  refine T.F_row_times.ok sc_row_times (fun vs H Q E h => ?_) (fun cdv A outer s H vs Q E hr h => ?_)
  · obtain ⟨q, c, v, ns, rfl, _⟩ := h
    rfl
  · obtain ⟨q, c, _, ns, rfl, hq, hc, ⟨a, rfl, ha⟩, hr', hl, k⟩ := h
    refine ⟨_, 
      (pss_one (ps_ret (pe_callTy call_tuple_of (by rfl) T.m_tuple (by decide +kernel) (pa_cons (pe_lc (own := [("item", 3)]) (g := gName 3) (tt := tYes) rfl sc_row_times.nd (pi_tup (pv 2)) (blkOk_by (own := [("item", 3)]) (N := N_row_times) (sc := defScope s_row_times) (by decide +kernel)) (fun _ _ _ _ _ => (pg_name (i := 3) sc_row_times.nd rfl (Or.inl rfl))) (fun _ _ _ _ _ => pts_nil) (fun _ _ _ _ _ => (pe_call (ok_letter_times T) (hr.mono (by decide)) rfl T.m_letter_times T.F_letter_times.kp T.b_letter_times .nil pass0 (pa_cons (pv 0) (pa_cons (pv 1) (pa_cons (pv 3) pa_nil)))))) pa_nil)))), ?_⟩
    refine ⟨_, rfl, a, rfl, ⟨_, ha⟩, fun D hD => lc_it (walk_tup (K := K) (a := a) (xs := ns.map V.int))
      (fun i H' => Same H H' ∧ H' D = some (.lst (((ns.map (ltim q c)).take i).map V.int))) ⟨same_upd hD, by rw [upd_same]; simp⟩ (fun i H' _ ⟨e, _⟩ => e.tup ha) ?_ ?_⟩
    · rintro i x H' _ hi ⟨e, hacc⟩ ⟨rfl, hx⟩
      obtain ⟨z, hz, rfl⟩ := int_at hx
      have hiL : i < ns.length := (List.getElem?_eq_some_iff.mp hz).1
      refine ⟨rfl, ?_⟩
      refine ⟨_, rfl, _, rfl, _, rfl, q, c, z, rfl, hq, hc, hr' z (List.mem_of_getElem? hz), _, hacc, ?_, same_set hD e, ?_⟩
      · rw [List.length_map, List.length_take]
        exact line_le (by omega)
      · rw [upd_same, List.take_add_one, List.getElem?_map, hz]
        simp
    · rintro H' ⟨e, hacc⟩
      rw [List.take_of_length_le (by rw [List.length_map, List.length_map]; exact Nat.le_refl _)] at hacc
      refine ⟨D, _, rfl, .inl ⟨SqL.of hacc, fun p8 hp8 => ?_⟩⟩
      exact k _ _ (e.trans (same_upd hp8)) ⟨p8, rfl, SqT.of upd_same⟩
def supp (ns : List Int) : List Int := ((List.range ns.length).filter fun i => ns.getD i 0 != 0).map fun i : Nat => (i : Int)
def spRsup (K : PySem.W.Frag) : Sp := fun vs H Q _ => ∃ (v : V) (ns : List Int), vs = [v] ∧ TI K H v ns ∧ ns.length ≤ 1000 ∧ ∀ z H', Same H H' → TI K H' z (supp ns) → Q z H'
theorem ok_row_support (T : Txt K mg) : FnOk P w K mg base CX0 1 T.a_row_support T.d_row_support P_row_support (spRsup K) := by
  refine T.F_row_support.ok sc_row_support (fun vs H Q E h => ?_) (fun cdv A outer s H vs Q E hr h => ?_)
  · obtain ⟨v, ns, rfl, _⟩ := h
    rfl
  · obtain ⟨_, ns, rfl, ⟨a, rfl, ha⟩, hl, k⟩ := h
    refine ⟨_, 
      (pss_one (ps_ret (pe_callTy call_tuple_of (by rfl) T.m_tuple (by decide +kernel) (pa_cons (pe_lc (own := [("place", 1)]) (g := gName 1)  rfl sc_row_support.nd (pi_range1 rfl T.m_range (pa_cons (pe_callB call_len_seq (by rfl) T.m_len (by decide +kernel) (pa_cons (pv 0) pa_nil)) pa_nil)) (blkOk_by (own := [("place", 1)]) (N := N_row_support) (sc := defScope s_row_support) (by decide +kernel)) (fun _ _ _ _ _ => (pg_name (i := 1) sc_row_support.nd rfl (Or.inl rfl))) (fun _ _ _ _ _ => (pts_one (pt_cmpR op_ne (pe_ix (r := rIxT K) ix_tup (pv 0) (pv 1) (fun _ _ => rfl)) pe_int (nomark _)))) (fun _ _ _ _ _ => (pv 1))) pa_nil)))), ?_⟩
    refine ⟨_, rfl, a, _, rfl, .inr ha, _, rfl, ?_, ?_, fun D hD => ?_⟩
    · rw [List.length_map]; omega
    · rw [List.length_map]; omega
    refine lc_it (walk_range (lo := 0) (n := ((ns.map V.int).length : Int).toNat))
      (fun i H' => Same H H' ∧ H' D = some (.lst ((((List.range i).filter fun j => ns.getD j 0 != 0).map fun j : Nat => (j : Int)).map V.int))) ⟨same_upd hD, upd_same⟩ (fun _ _ _ _ => trivial) ?_ ?_
    · rintro i x H' _ hi ⟨e, hN⟩ ⟨rfl, rfl⟩
      rw [List.length_map] at hi
      have hi' : i < ns.length := by omega
      refine ⟨rfl, ?_⟩
      refine ⟨_, rfl, _, rfl, a, _, _, .int ns[i], rfl, rfl, e.tup ha, ?_, rfl, _, rfl, ?_⟩
      · rw [show (0 : Int) + (i : Int) = (i : Int) from Int.zero_add _]
        exact atI_nat (by rw [List.getElem?_map, List.getElem?_eq_getElem hi']; rfl)
      · rw [dec_int]
        have gd : ns.getD i 0 = ns[i] := by rw [List.getD_eq_getElem?_getD, List.getElem?_eq_getElem hi']; rfl
        have sz : ((((List.range i).filter fun j => ns.getD j 0 != 0).map fun j : Nat => (j : Int)).map V.int).length < sizeLine := by
          rw [List.length_map, List.length_map]
          exact line_le (Nat.le_trans (List.length_filter_le _ _) (by rw [List.length_range]; omega))
        refine ite2 (fun c => ?_) (fun c => ?_)
        · refine ⟨_, rfl, _, hN, sz, same_set hD e, ?_⟩
          have c' : (ns.getD i 0 != 0) = true := by
            rw [gd]
            simpa using c
          rw [upd_same, List.range_succ, List.filter_append, List.map_append, List.map_append]
          show some (HO.lst (_ ++ [V.int (0 + (i : Int))])) = _
          rw [Int.zero_add, List.filter_cons_of_pos (by exact c')]
          rfl
        · refine ⟨e, ?_⟩
          have c' : ¬ ((ns.getD i 0 != 0) = true) := by
            rw [gd]
            simpa using c
          rw [List.range_succ, List.filter_append, List.filter_cons_of_neg (by exact c'), List.filter_nil, List.append_nil]
          exact hN
    · rintro H' ⟨e, hN⟩
      refine ⟨D, _, rfl, .inl ⟨SqL.of hN, fun p8 hp8 => ?_⟩⟩
      refine k _ _ (e.trans (same_upd hp8)) ⟨p8, rfl, ?_⟩
      have z : ((ns.map V.int).length : Int).toNat = ns.length := by rw [List.length_map]; omega
      unfold supp
      rw [← z]
      exact SqT.of upd_same
end
end K05
end
section
set_option maxRecDepth 100000
set_option maxHeartbeats 4000000
namespace K05
open PySem PySem.Spec PyProof.Rows L2 MB
open LamX hiding takes0
theorem four_cases {q a : Int} (e : q = 4) (h : IsLet q a) : a = 0 ∨ a = 1 ∨ a = 2 ∨ a = 3 := by
  obtain ⟨h1, h2⟩ := h
  omega
theorem let_fmod {q : Int} (hq : LetQ q) (x : Int) : IsLet q (x.fmod q) := by
  have := hq.lo
  exact ⟨Int.fmod_nonneg_of_pos _ (by omega), Int.fmod_lt_of_pos _ (by omega)⟩
theorem let_sum {q a b : Int} (hq : LetQ q) (ha : IsLet q a) (hb : IsLet q b) : IsLet q (lsum q a b) := by
  unfold lsum
  split
  · rename_i e
    rcases four_cases e ha with rfl | rfl | rfl | rfl <;> rcases four_cases e hb with rfl | rfl | rfl | rfl <;> subst e <;> exact ⟨by decide, by decide⟩
  · exact let_fmod hq _
theorem let_neg {q a : Int} (hq : LetQ q) (ha : IsLet q a) : IsLet q (lneg q a) := by
  unfold lneg
  split
  · exact ha
  · exact let_fmod hq _
theorem let_tim {q a b : Int} (hq : LetQ q) (ha : IsLet q a) (hb : IsLet q b) : IsLet q (ltim q a b) := by
  unfold ltim
  split
  · rename_i e
    rcases four_cases e ha with rfl | rfl | rfl | rfl <;> rcases four_cases e hb with rfl | rfl | rfl | rfl <;> subst e <;> exact ⟨by decide, by decide⟩
  · exact let_fmod hq _
theorem let_inv {q a : Int} (hq : LetQ q) (ha : IsLet q a) (a0 : a ≠ 0) : IsLet q (linv q a) := by
  have hs := linv_some hq ha a0
  unfold linv
  cases hf : ((List.range q.toNat).map (fun n : Nat => (n : Int))).find? fun x => decide (ltim q a x = 1) with
  | none =>
    rw [hf] at hs
    cases hs
  | some x =>
    obtain ⟨n, hn, rfl⟩ := List.mem_map.mp (List.mem_of_find?_eq_some hf)
    rw [List.mem_range] at hn
    exact ⟨by simp, by simp; omega⟩
def wza (q : Int) (p : Nat) (row head : List Int) : List Int := List.zipWith (lsum q) row (head.map (ltim q (lneg q (row.getD p 0))))
theorem row_at {q : Int} {ns : List Int} (h : IsRow q ns) {p : Nat} (hp : p < ns.length) : IsLet q (ns.getD p 0) := by
  rw [List.getD_eq_getElem?_getD, List.getElem?_eq_getElem hp]
  exact h _ (List.getElem_mem hp)
theorem row_wza {q : Int} (hq : LetQ q) {p : Nat} {row head : List Int} (hr : IsRow q row) (hh : IsRow q head) (hp : p < row.length) : IsRow q (wza q p row head) := by
  intro c hc
  unfold wza at hc
  obtain ⟨i, hi, rfl⟩ := List.mem_iff_getElem.mp hc
  rw [List.getElem_zipWith, List.getElem_map]
  exact let_sum hq (hr _ (List.getElem_mem _)) (let_tim hq (let_neg hq (row_at hr hp)) (hh _ (List.getElem_mem _)))
end K05
end
section
set_option maxRecDepth 100000
set_option maxHeartbeats 4000000
namespace K05
open PySem PySem.Spec PyProof.Rows L2 MB
open LamX hiding takes0
section
variable {w : World} {K : PySem.W.Frag} {mg : Str → Option Value} {base : Heap}
def inFrom (lo hi : Int) : Option Int → Bool
  | none => false
  | some i => decide (lo ≤ i) && decide (i ≤ hi)
def spFrom (K : PySem.W.Frag) : Sp := fun vs H Q _ => ∃ (v : V) (lo hi : Int) (o : Option Int), vs = [v, .int lo, .int hi] ∧ IntQ K H v o ∧ Q (.bl (inFrom lo hi o)) H
theorem ok_is_integer_from (T : Txt K mg) : FnOk P w K mg base CX0 2 T.a_is_integer_from T.d_is_integer_from P_is_integer_from (spFrom K) := by
  refine T.F_is_integer_from.ok sc_is_integer_from (fun vs H Q E h => ?_) (fun cdv A outer s H vs Q E hr h => ?_)
  · obtain ⟨v, lo, hi, o, rfl, _⟩ := h
    rfl
  · obtain ⟨v, lo, hi, o, rfl, hv, k⟩ := h
    refine ⟨_, 
      (pss_one (ps_ret (pe_and (pe_call (ok_is_integer T) (hr.mono (by decide)) rfl T.m_is_integer T.F_is_integer.kp T.b_is_integer .nil pass0 (pa_cons (pv 0) pa_nil)) (pe_one (pe_chain op_le op_le (pv 1) (pv 0) (pv 2)))))), ?_⟩
    refine ⟨_, rfl, v, o, rfl, hv, o.isSome, rfl, ?_⟩
    cases o with
    | none => exact iteF k
    | some i =>
      obtain rfl : v = .int i := hv
      refine iteT ?_
      have k' : Q (.bl (decide (lo ≤ i) && decide (i ≤ hi))) H := k
      refine ⟨_, rfl, _, rfl, _, _, rfl, rfl, decide (lo ≤ i), rfl, ?_⟩
      by_cases c : lo ≤ i
      · rw [decide_eq_true c] at k' ⊢
        exact iteT ⟨_, rfl, _, _, rfl, rfl, k'⟩
      · rw [decide_eq_false c] at k' ⊢
        exact iteF k'
def allFrom (lo hi : Int) : Option (List (Option Int)) → Bool
  | none => false
  | some os => os.all (inFrom lo hi)
def spsFrom (K : PySem.W.Frag) : Sp := fun vs H Q _ => ∃ (v : V) (lo hi : Int) (o : Option (List (Option Int))), vs = [v, .int lo, .int hi] ∧ Lev K H v o ∧ ∀ H', Same H H' → Q (.bl (allFrom lo hi o)) H'
theorem ok_are_integers_from (T : Txt K mg) : FnOk P w K mg base CX0 3 T.a_are_integers_from T.d_are_integers_from P_are_integers_from (spsFrom K) := by
  refine T.F_are_integers_from.ok sc_are_integers_from (fun vs H Q E h => ?_) (fun cdv A outer s H vs Q E hr h => ?_)
  · obtain ⟨v, lo, hi, o, rfl, _⟩ := h
    rfl
  · obtain ⟨v, lo, hi, o, rfl, hv, k⟩ := h
    refine ⟨_, 
      (pss_one (ps_ret (pe_and (pe_callB (id := "isinstance") (r := rIsi K) call_isi (by rfl) T.m_isinstance (by decide +kernel) (pa_cons (pv 0) (pa_cons (pe_bltn (by rfl) T.m_tuple (v := .ty "tuple") (by decide +kernel) rfl) pa_nil))) (pe_one (pe_callB (cr_all rfl) (by rfl) T.m_all (by decide +kernel) (pa_cons (pe_lc (own := [("item", 3)]) (g := gName 3) (tt := tYes) rfl sc_are_integers_from.nd (pi_tup (pv 0)) (blkOk_by (own := [("item", 3)]) (N := N_are_integers_from) (sc := defScope s_are_integers_from) (by decide +kernel)) (fun _ _ _ _ _ => (pg_name (i := 3) sc_are_integers_from.nd rfl (Or.inl rfl))) (fun _ _ _ _ _ => pts_nil) (fun _ _ _ _ _ => (pe_call (ok_is_integer_from T) (hr.mono (by decide)) rfl T.m_is_integer_from T.F_is_integer_from.kp T.b_is_integer_from .nil pass0 (pa_cons (pv 3) (pa_cons (pv 1) (pa_cons (pv 2) pa_nil)))))) pa_nil)))))), ?_⟩
    cases o with
    | none =>
      obtain ⟨t, ht, hk⟩ := hv
      refine ⟨_, rfl, _, _, _, _, _, rfl, .ty "tuple", ht, hk, false, rfl, ?_⟩
      exact iteF (k H (Same.refl _))
    | some os =>
      obtain ⟨xs, ⟨a, rfl, ha⟩, hp, hl⟩ := hv
      refine ⟨_, rfl, _, _, _, _, _, rfl, .ty "tuple", tyx_tup ha, kit_ty (r := true) (by decide +kernel), true, rfl, ?_⟩
      refine iteT ?_
      refine ⟨_, rfl, a, rfl, ⟨_, ha⟩, fun D hD => lc_it (walk_tup (K := K) (a := a) (xs := xs))
        (fun i H' => ∃ H0, Same H H0 ∧ H' = upd H0 D (.lst ((os.take i).map fun o => V.bl (inFrom lo hi o)))) ⟨H, Same.refl _, rfl⟩ ?_ ?_ ?_⟩
      · rintro i _ _ ⟨H0, e, rfl⟩
        exact (same_set hD e).tup ha
      · rintro i x _ _ hi ⟨H0, e, rfl⟩ ⟨rfl, hx⟩
        obtain ⟨y, hy, r⟩ := paired_at hp hx
        refine ⟨rfl, ?_⟩
        refine ⟨_, rfl, _, rfl, _, rfl, x, lo, _, y, rfl, r.same (same_set hD e), _, upd_same, by rw [List.length_map, List.length_take]; exact line_le (by omega), H0, e, ?_⟩
        rw [upd_upd, take_map_add _ hy]
      · rintro _ ⟨H0, e, rfl⟩
        have hle : os.length = xs.length := hp.length.symm
        refine ⟨D, os.map (inFrom lo hi), rfl, SqL.of (by rw [upd_same, ← hle, List.take_length, List.map_map]; rfl), ?_⟩
        have z := k _ (same_set (o := .lst ((os.take xs.length).map fun o => V.bl (inFrom lo hi o))) hD e)
        rw [List.all_map]
        exact z
def spLets (K : PySem.W.Frag) : Sp := fun vs H Q _ => ∃ (q : Int) (v : V) (o : Option (List (Option Int))), vs = [.int q, v] ∧ Lev K H v o ∧ ∀ H', Same H H' → Q (.bl (allFrom 0 (q - 1) o)) H'
theorem ok_are_letters (T : Txt K mg) : FnOk P w K mg base CX0 4 T.a_are_letters T.d_are_letters P_are_letters (spLets K) := by
  refine T.F_are_letters.ok sc_are_letters (fun vs H Q E h => ?_) (fun cdv A outer s H vs Q E hr h => ?_)
  · obtain ⟨q, v, o, rfl, _⟩ := h
    rfl
  · obtain ⟨q, v, o, rfl, hv, k⟩ := h
    refine ⟨_, 
      (pss_one (ps_ret (pe_call (ok_are_integers_from T) (hr.mono (by decide)) rfl T.m_are_integers_from T.F_are_integers_from.kp T.b_are_integers_from .nil pass0 (pa_cons (pv 1) (pa_cons pe_int (pa_cons (pe_op op_sub (pv 0) pe_int) pa_nil)))))), ?_⟩
    exact ⟨_, rfl, _, rfl, _, _, rfl, rfl, v, 0, _, o, rfl, hv, k⟩
end
end K05
end
section
set_option maxRecDepth 100000
set_option maxHeartbeats 4000000
namespace K05
open PySem PySem.Spec PyProof.Rows L2 MB
open LamX hiding takes0
def Flies (E : XK) (C : Addr) (v : V) (H : Hp) : Prop := ∀ d, H d = none → E (.ref C) (some d) (upd H d (.xd [("thing", v)]))
section
variable {w : World} {K : PySem.W.Frag} {mg : Str → Option Value} {base : Heap}
def spChkX (K : PySem.W.Frag) (C : Addr) : Sp := fun vs H Q E => ∃ (v : V) (o : Option Int), vs = [v] ∧ IntQ K H v o ∧ (inFrom 2 5 o = false → Flies E C v H) ∧ (inFrom 2 5 o = true → Q .non H)
theorem ok_check_field (T : Txt K mg) : FnOk P w K mg base (L2.CX P w) 3 T.a_check_field T.d_check_field P_check_field (spChkX K T.C_BadField) := by
  refine T.F_check_field.okX sc_check_field (fun vs H Q E h => ?_) (fun cdv A outer s H vs Q E hr h => ?_)
  · obtain ⟨v, o, rfl, _⟩ := h
    rfl
  · obtain ⟨v, o, rfl, hv, bad, q⟩ := h
    refine ⟨_, 
      (pss_one (ps_if (pt_not (pt_val (pe_call (ok_is_integer_from T) (hr.mono (by decide)) rfl T.m_is_integer_from T.F_is_integer_from.kp T.b_is_integer_from .nil pass0 (pa_cons (pv 0) (pa_cons pe_int (pa_cons pe_int pa_nil)))))) (pss_one (ps_raiseErr rfl T.e_BadField hr (takes_of rfl rfl rfl rfl) (by exact (pa_cons (pv 0) pa_nil)) rfl)) pss_nil)), ?_⟩
    refine ⟨_, rfl, v, 2, 5, o, rfl, hv, _, rfl, ?_⟩
    rcases Bool.eq_false_or_eq_true (inFrom 2 5 o) with e | e
    · rw [e]
      exact iteF (q e)
    · rw [e]
      exact iteT ⟨_, rfl, v, rfl, fun d hd => bad e d hd⟩
def spChkL (K : PySem.W.Frag) (C : Addr) : Sp := fun vs H Q E => ∃ (q : Int) (v : V) (o : Option Int), vs = [.int q, v] ∧ IntQ K H v o ∧ (inFrom 0 (q - 1) o = false → Flies E C v H) ∧ (inFrom 0 (q - 1) o = true → Q .non H)
theorem ok_check_letter (T : Txt K mg) : FnOk P w K mg base (L2.CX P w) 3 T.a_check_letter T.d_check_letter P_check_letter (spChkL K T.C_BadLetter) := by
  refine T.F_check_letter.okX sc_check_letter (fun vs H Q E h => ?_) (fun cdv A outer s H vs Q E hr h => ?_)
  · obtain ⟨q, v, o, rfl, _⟩ := h
    rfl
  · obtain ⟨q, v, o, rfl, hv, bad, k⟩ := h
    refine ⟨_, 
      (pss_one (ps_if (pt_not (pt_val (pe_call (ok_is_integer_from T) (hr.mono (by decide)) rfl T.m_is_integer_from T.F_is_integer_from.kp T.b_is_integer_from .nil pass0 (pa_cons (pv 1) (pa_cons pe_int (pa_cons (pe_op op_sub (pv 0) pe_int) pa_nil)))))) (pss_one (ps_raiseErr rfl T.e_BadLetter hr (takes_of rfl rfl rfl rfl) (by exact (pa_cons (pv 1) pa_nil)) rfl)) pss_nil)), ?_⟩
    refine ⟨_, rfl, _, rfl, _, _, rfl, rfl, v, 0, _, o, rfl, hv, _, rfl, ?_⟩
    rcases Bool.eq_false_or_eq_true (inFrom 0 (q - 1) o) with e | e
    · rw [e]
      exact iteF (k e)
    · rw [e]
      exact iteT ⟨_, rfl, v, rfl, fun d hd => bad e d hd⟩
theorem from25 {o : Option Int} (h : inFrom 2 5 o = true) : ∃ q, o = some q ∧ LetQ q := by
  cases o with
  | none => cases h
  | some q =>
    have h' : (decide ((2 : Int) ≤ q) && decide (q ≤ 5)) = true := h
    rw [Bool.and_eq_true, decide_eq_true_eq, decide_eq_true_eq] at h'
    exact ⟨q, rfl, h'.1, h'.2⟩
theorem fromL {q : Int} {o : Option Int} (h : inFrom 0 (q - 1) o = true) : ∃ a, o = some a ∧ IsLet q a := by
  cases o with
  | none => cases h
  | some a =>
    have h' : (decide ((0 : Int) ≤ a) && decide (a ≤ q - 1)) = true := h
    rw [Bool.and_eq_true, decide_eq_true_eq, decide_eq_true_eq] at h'
    exact ⟨a, rfl, h'.1, by omega⟩
def wordO (q : Int) (o : Option (List (Option Int))) : Bool := allFrom 0 (q - 1) o
theorem fromW {q : Int} {o : Option (List (Option Int))} (h : wordO q o = true) : ∃ ns : List Int, o = some (ns.map some) ∧ IsRow q ns := by
  cases o with
  | none => cases h
  | some os =>
    have h' : os.all (inFrom 0 (q - 1)) = true := h
    clear h
    induction os with
    | nil => exact ⟨[], rfl, fun c hc => by cases hc⟩
    | cons x r ih =>
      rw [List.all_cons, Bool.and_eq_true] at h'
      obtain ⟨ns, e, hr⟩ := ih h'.2
      obtain ⟨a, rfl, ha⟩ := fromL h'.1
      refine ⟨a :: ns, by rw [Option.some.inj e]; rfl, fun c hc => ?_⟩
      rcases List.mem_cons.mp hc with rfl | hc
      · exact ha
      · exact hr c hc
theorem lev_ti {K : PySem.W.Frag} {H : Hp} {v : V} {ns : List Int} (h : Lev K H v (some (ns.map some))) : TI K H v ns ∧ ns.length ≤ 1000 := by
  obtain ⟨xs, ⟨a, rfl, ha⟩, hp, hl⟩ := h
  have e : xs = ns.map V.int := by
    clear ha hl
    induction ns generalizing xs with
    | nil => cases hp; rfl
    | cons c r ih =>
      cases hp with
      | cons h1 h2 =>
        have h1' : _ = V.int c := h1
        rw [h1', ih _ h2]
        rfl
  subst e
  rw [List.length_map] at hl
  exact ⟨⟨a, rfl, ha⟩, hl⟩
theorem Lev.same {K : PySem.W.Frag} {H H' : Hp} {v : V} {o : Option (List (Option Int))} (h : Lev K H v o) (e : Same H H') : Lev K H' v o := by
  cases o with
  | none => exact TupQ.same (o := none) h e
  | some os =>
    obtain ⟨xs, h1, h2, h3⟩ := h
    refine ⟨xs, TupQ.same h1 e, ?_, h3⟩
    clear h1 h3
    induction h2 with
    | nil => exact .nil
    | cons r _ ih => exact .cons (r.same e) ih
def spChkW (K : PySem.W.Frag) (C : Addr) : Sp := fun vs H Q E => ∃ (q : Int) (v : V) (o : Option (List (Option Int))), vs = [.int q, v] ∧ Lev K H v o ∧ (wordO q o = false → ∀ H', Same H H' → Flies E C v H') ∧ (wordO q o = true → ∀ H', Same H H' → Q .non H')
theorem ok_check_word (T : Txt K mg) : FnOk P w K mg base (L2.CX P w) 5 T.a_check_word T.d_check_word P_check_word (spChkW K T.C_BadWord) := by
  refine T.F_check_word.okX sc_check_word (fun vs H Q E h => ?_) (fun cdv A outer s H vs Q E hr h => ?_)
  · obtain ⟨q, v, o, rfl, _⟩ := h
    rfl
  · obtain ⟨q, v, o, rfl, hv, bad, k⟩ := h
    refine ⟨_, 
      (pss_one (ps_if (pt_not (pt_val (pe_call (ok_are_letters T) (hr.mono (by decide)) rfl T.m_are_letters T.F_are_letters.kp T.b_are_letters .nil pass0 (pa_cons (pv 0) (pa_cons (pv 1) pa_nil))))) (pss_one (ps_raiseErr rfl T.e_BadWord hr (takes_of rfl rfl rfl rfl) (by exact (pa_cons (pv 1) pa_nil)) rfl)) pss_nil)), ?_⟩
    refine ⟨_, rfl, _, rfl, q, v, o, rfl, hv, fun H1 s1 => ⟨_, rfl, ?_⟩⟩
    rcases Bool.eq_false_or_eq_true (wordO q o) with e | e
    · rw [show allFrom 0 (q - 1) o = true from e]
      exact iteF (k e H1 s1)
    · rw [show allFrom 0 (q - 1) o = false from e]
      exact iteT ⟨_, rfl, v, rfl, fun d hd => bad e H1 s1 d hd⟩
def DueW (K : PySem.W.Frag) (E : XK) (Cf Cw : Addr) (vq v1 v2 : V) (oq : Option Int) (o1 o2 : Option (List (Option Int))) (H : Hp) (go : Int → List Int → List Int → Hp → Prop) : Prop :=
  (inFrom 2 5 oq = false → Flies E Cf vq H) ∧ ∀ q, oq = some q → LetQ q → (wordO q o1 = false → ∀ H', Same H H' → Flies E Cw v1 H') ∧ ∀ as, o1 = some (as.map some) → IsRow q as →
    (wordO q o2 = false → ∀ H', Same H H' → Flies E Cw v2 H') ∧ ∀ bs, o2 = some (bs.map some) → IsRow q bs → (as.length ≠ bs.length → ∀ H', Same H H' → Flies E Cw v2 H') ∧ (as.length = bs.length → ∀ H', Same H H' → go q as bs H')
def spW2 (K : PySem.W.Frag) (Cf Cw : Addr) (R : Int → List Int → List Int → Hp → VK → Prop) : Sp := fun vs H Q E => ∃ (vq v1 v2 : V) (oq : Option Int) (o1 o2 : Option (List (Option Int))), vs = [vq, v1, v2] ∧ IntQ K H vq oq ∧ Lev K H v1 o1 ∧ Lev K H v2 o2 ∧
  DueW K E Cf Cw vq v1 v2 oq o1 o2 H fun q as bs H' => R q as bs H' Q
theorem ok_check_two_words (T : Txt K mg) : FnOk P w K mg base (L2.CX P w) 6 T.a_check_two_words T.d_check_two_words P_check_two_words (spW2 K T.C_BadField T.C_BadWord fun _ _ _ H Q => Q .non H) := by
  refine T.F_check_two_words.okX sc_check_two_words (fun vs H Q E h => ?_) (fun cdv A outer s H vs Q E hr h => ?_)
  · obtain ⟨vq, v1, v2, oq, o1, o2, rfl, _⟩ := h
    rfl
  · obtain ⟨vq, v1, v2, oq, o1, o2, rfl, hq, h1, h2, bad, k⟩ := h
    refine ⟨_, 
      (pss_cons (ps_expr (pe_callS (ok_check_field T) (hr.mono (by decide)) rfl T.m_check_field T.F_check_field.kp T.b_check_field (fun σ => passAt (takes_of rfl rfl rfl rfl) σ) (pa_cons (pv 0) pa_nil)))
      (pss_cons (ps_expr (pe_callS (ok_check_word T) (hr.mono (by decide)) rfl T.m_check_word T.F_check_word.kp T.b_check_word (fun σ => passAt (takes_of rfl rfl rfl rfl) σ) (pa_cons (pv 0) (pa_cons (pv 1) pa_nil))))
      (pss_cons (ps_expr (pe_callS (ok_check_word T) (hr.mono (by decide)) rfl T.m_check_word T.F_check_word.kp T.b_check_word (fun σ => passAt (takes_of rfl rfl rfl rfl) σ) (pa_cons (pv 0) (pa_cons (pv 2) pa_nil))))
      (pss_one (ps_if (pt_cmpR op_ne (pe_callB call_len_seq (by rfl) T.m_len (by decide +kernel) (pa_cons (pv 1) pa_nil)) (pe_callB call_len_seq (by rfl) T.m_len (by decide +kernel) (pa_cons (pv 2) pa_nil)) (nomark _)) (pss_one (ps_raiseErr rfl T.e_BadWord hr (takes_of rfl rfl rfl rfl) (by exact (pa_cons (pv 2) pa_nil)) rfl)) pss_nil))))), ?_⟩
    refine ⟨_, rfl, vq, oq, rfl, hq, bad, fun eq => ?_⟩
    obtain ⟨q, rfl, lq⟩ := from25 eq
    obtain rfl : vq = .int q := hq
    obtain ⟨bad1, k⟩ := k q rfl lq
    refine ⟨_, rfl, _, rfl, q, v1, o1, rfl, h1, bad1, fun e1 H1 s1 => ?_⟩
    obtain ⟨as, rfl, la⟩ := fromW e1
    obtain ⟨bad2, k⟩ := k as rfl la
    refine ⟨_, rfl, _, rfl, q, v2, o2, rfl, h2.same s1, fun e H' s' => bad2 e H' (s1.trans s'), fun e2 H2 s2 => ?_⟩
    obtain ⟨bs, rfl, lb⟩ := fromW e2
    obtain ⟨bad3, good⟩ := k bs rfl lb
    have s12 := s1.trans s2
    obtain ⟨⟨a, rfl, ha⟩, l1⟩ := lev_ti (h1.same s12)
    obtain ⟨⟨b, rfl, hb⟩, l2⟩ := lev_ti (h2.same s12)
    refine ⟨_, rfl, a, _, rfl, .inr ha, _, rfl, b, _, rfl, .inr hb, rfl, _, rfl, ?_⟩
    rw [dec_int, List.length_map, List.length_map]
    by_cases e : as.length = bs.length
    · rw [decide_eq_true (by rw [e])]
      exact iteF (good e H2 s12)
    · rw [decide_eq_false (by omega)]
      exact iteT ⟨_, rfl, .ref b, rfl, fun d hd => bad3 e H2 s12 d hd⟩
def rTI (K : PySem.W.Frag) (g : Int → List Int → List Int → List Int) : Int → List Int → List Int → Hp → VK → Prop := fun q as bs H Q => ∀ z H', Same H H' → TI K H' z (g q as bs) → Q z H'
theorem ok_word_sum (T : Txt K mg) : FnOk P w K mg base (L2.CX P w) 7 T.a_word_sum T.d_word_sum P_word_sum (spW2 K T.C_BadField T.C_BadWord (rTI K fun q as bs => List.zipWith (lsum q) as bs)) := by
  refine T.F_word_sum.okX sc_word_sum (fun vs H Q E h => ?_) (fun cdv A outer s H vs Q E hr h => ?_)
  · obtain ⟨vq, v1, v2, oq, o1, o2, rfl, _⟩ := h
    rfl
  · obtain ⟨vq, v1, v2, oq, o1, o2, rfl, hq, h1, h2, bad, k⟩ := h
    refine ⟨_, 
      (pss_cons (ps_expr (pe_callS (ok_check_two_words T) (hr.mono (by decide)) rfl T.m_check_two_words T.F_check_two_words.kp T.b_check_two_words (fun σ => passAt (takes_of rfl rfl rfl rfl) σ) (pa_cons (pv 0) (pa_cons (pv 1) (pa_cons (pv 2) pa_nil)))))
      (pss_one (ps_ret (pe_call (ok_row_sum T) (hr.mono (by decide)) rfl T.m_row_sum T.F_row_sum.kp T.b_row_sum .nil pass0 (pa_cons (pv 0) (pa_cons (pv 1) (pa_cons (pv 2) pa_nil))))))), ?_⟩
    refine ⟨_, rfl, _, rfl, _, rfl, vq, v1, v2, oq, o1, o2, rfl, hq, h1, h2, bad, fun q eq lq => ⟨(k q eq lq).1, fun as e1 la => ⟨((k q eq lq).2 as e1 la).1, fun bs e2 lb => ⟨(((k q eq lq).2 as e1 la).2 bs e2 lb).1, fun el H1 s1 => ?_⟩⟩⟩⟩
    have z := (((k q eq lq).2 as e1 la).2 bs e2 lb).2 el H1 s1
    subst eq e1 e2
    obtain rfl : vq = .int q := hq
    obtain ⟨t1, l1⟩ := lev_ti (h1.same s1)
    obtain ⟨t2, l2⟩ := lev_ti (h2.same s1)
    exact ⟨_, rfl, _, rfl, _, rfl, q, v1, v2, as, bs, rfl, lq, t1, t2, l1, z⟩
def rowP (q : Int) (as bs : List Int) : Int := ((as.zip bs).foldl (fun t p => lsum q t (ltim q p.1 p.2)) 0)
def spRP (K : PySem.W.Frag) : Sp := fun vs H Q _ => ∃ (q : Int) (u v : V) (ns ms : List Int), vs = [.int q, u, v] ∧ LetQ q ∧ TI K H u ns ∧ TI K H v ms ∧ IsRow q ns ∧ IsRow q ms ∧ ns.length = ms.length ∧ ns.length ≤ 1000 ∧ ∀ H', Same H H' → Q (.int (rowP q ns ms)) H'
theorem zip_next {as bs : List Int} {i : Nat} {c d : Int} (hc : as[i]? = some c) (hd : bs[i]? = some d) : (as.zip bs).take (i + 1) = (as.zip bs).take i ++ [(c, d)] := by
  rw [List.take_add_one]
  have : (as.zip bs)[i]? = some (c, d) := by
    rw [List.getElem?_zip_eq_some]
    exact ⟨hc, hd⟩
  rw [this]
  rfl
theorem ok_row_product (T : Txt K mg) : FnOk P w K mg base CX0 2 T.a_row_product T.d_row_product P_row_product (spRP K) := by
  refine T.F_row_product.ok sc_row_product (fun vs H Q E h => ?_) (fun cdv A outer s H vs Q E hr h => ?_)
  · obtain ⟨q, u, v, ns, ms, rfl, _⟩ := h
    rfl
  · obtain ⟨q, _, _, ns, ms, rfl, hq, ⟨a, rfl, ha⟩, ⟨b, rfl, hb⟩, r1, r2, el, hl, k⟩ := h
    refine ⟨_, 
      (pss_cons (ps_set (i := 3) sc_row_product.nd rfl (Or.inl rfl) pe_int)
      (pss_cons (ps_for PassesOwn.never rfl (RZ.pi_zipA (by rfl) T.m_zip (pa_cons (pv 1) (pa_cons (pv 2) pa_nil))) (pg_tup rfl (pgs_cons (pg_name (i := 4) sc_row_product.nd rfl (Or.inl rfl)) (pgs_cons (pg_name (i := 5) sc_row_product.nd rfl (Or.inl rfl)) pgs_nil))) (pss_one (ps_set (i := 3) sc_row_product.nd rfl (Or.inl rfl) (pe_call (ok_letter_sum T) (hr.mono (by decide)) rfl T.m_letter_sum T.F_letter_sum.kp T.b_letter_sum .nil pass0 (pa_cons (pv 0) (pa_cons (pv 3) (pa_cons (pe_call (ok_letter_times T) (hr.mono (by decide)) rfl T.m_letter_times T.F_letter_times.kp T.b_letter_times .nil pass0 (pa_cons (pv 0) (pa_cons (pv 4) (pa_cons (pv 5) pa_nil)))) pa_nil)))))))
      (pss_one (ps_ret (pv 3))))), ?_⟩
    refine ⟨_, rfl, _, rfl, a, b, _, _, rfl, .inr ⟨ha, hb, ?_⟩⟩
    refine for_it (walk_zipT (K := K) (a := a) (b := b) (xs := ns.map V.int) (ys := ms.map V.int) rfl)
      (fun i σ H' => ∃ u4 u5, σ = [some (.int q), some (.ref a), some (.ref b), some (.int (((ns.zip ms).take i).foldl (fun t p => lsum q t (ltim q p.1 p.2)) 0)), u4, u5] ∧ Same H H')
      ⟨none, none, rfl, Same.refl _⟩ (fun i σ H' _ ⟨_, _, _, e⟩ => ⟨e.tup ha, e.tup hb⟩) ?_ ?_
    · rintro i x _ H' H'' hi ⟨u4, u5, rfl, e⟩ ⟨T0, x1, y1, rfl, hT0, rfl, hx, hy⟩
      obtain ⟨c, hc, rfl⟩ := int_at hx
      obtain ⟨d, hd, rfl⟩ := int_at hy
      refine ⟨T0, _, rfl, SqT.of upd_same, rfl, _, _, rfl, _, _, rfl, rfl, ?_⟩
      refine ⟨_, rfl, _, rfl, _, rfl, _, rfl, _, rfl, q, c, d, rfl, hq, r1 c (List.mem_of_getElem? hc), r2 d (List.mem_of_getElem? hd), q, _, _, rfl, hq, some (.int c), some (.int d), ?_, e.trans (same_upd hT0)⟩
      rw [zip_next hc hd, List.foldl_append]
      rfl
    · rintro _ H' ⟨u4, u5, rfl, e⟩
      refine ⟨_, rfl, ?_⟩
      have z := k H' e
      unfold rowP at z
      rw [List.take_of_length_le (by rw [List.length_map, List.length_map, List.length_zip]; exact Nat.le_refl _)]
      exact z
theorem ok_product (T : Txt K mg) : FnOk P w K mg base (L2.CX P w) 7 T.a_product T.d_product P_product (spW2 K T.C_BadField T.C_BadWord fun q as bs H Q => ∀ H', Same H H' → Q (.int (rowP q as bs)) H') := by
  refine T.F_product.okX sc_product (fun vs H Q E h => ?_) (fun cdv A outer s H vs Q E hr h => ?_)
  · obtain ⟨vq, v1, v2, oq, o1, o2, rfl, _⟩ := h
    rfl
  · obtain ⟨vq, v1, v2, oq, o1, o2, rfl, hq, h1, h2, bad, k⟩ := h
    refine ⟨_, 
      (pss_cons (ps_expr (pe_callS (ok_check_two_words T) (hr.mono (by decide)) rfl T.m_check_two_words T.F_check_two_words.kp T.b_check_two_words (fun σ => passAt (takes_of rfl rfl rfl rfl) σ) (pa_cons (pv 0) (pa_cons (pv 1) (pa_cons (pv 2) pa_nil)))))
      (pss_one (ps_ret (pe_call (ok_row_product T) (hr.mono (by decide)) rfl T.m_row_product T.F_row_product.kp T.b_row_product .nil pass0 (pa_cons (pv 0) (pa_cons (pv 1) (pa_cons (pv 2) pa_nil))))))), ?_⟩
    refine ⟨_, rfl, _, rfl, _, rfl, vq, v1, v2, oq, o1, o2, rfl, hq, h1, h2, bad, fun q eq lq => ⟨(k q eq lq).1, fun as e1 la => ⟨((k q eq lq).2 as e1 la).1, fun bs e2 lb => ⟨(((k q eq lq).2 as e1 la).2 bs e2 lb).1, fun el H1 s1 => ?_⟩⟩⟩⟩
    have z := (((k q eq lq).2 as e1 la).2 bs e2 lb).2 el H1 s1
    subst eq e1 e2
    obtain rfl : vq = .int q := hq
    obtain ⟨t1, l1⟩ := lev_ti (h1.same s1)
    obtain ⟨t2, l2⟩ := lev_ti (h2.same s1)
    exact ⟨_, rfl, _, rfl, _, rfl, q, v1, v2, as, bs, rfl, lq, t1, t2, la, lb, el, l1, z⟩
def spWT (K : PySem.W.Frag) (Cf Cl Cw : Addr) : Sp := fun vs H Q E => ∃ (vq vl v1 : V) (oq ol : Option Int) (o1 : Option (List (Option Int))), vs = [vq, vl, v1] ∧ IntQ K H vq oq ∧ IntQ K H vl ol ∧ Lev K H v1 o1 ∧
  (inFrom 2 5 oq = false → Flies E Cf vq H) ∧ ∀ q, oq = some q → LetQ q → (inFrom 0 (q - 1) ol = false → Flies E Cl vl H) ∧ ∀ c, ol = some c → IsLet q c → (wordO q o1 = false → ∀ H', Same H H' → Flies E Cw v1 H') ∧ ∀ as, o1 = some (as.map some) → IsRow q as →
    ∀ z H', Same H H' → TI K H' z (as.map (ltim q c)) → Q z H'
theorem ok_word_times (T : Txt K mg) : FnOk P w K mg base (L2.CX P w) 6 T.a_word_times T.d_word_times P_word_times (spWT K T.C_BadField T.C_BadLetter T.C_BadWord) := by
  refine T.F_word_times.okX sc_word_times (fun vs H Q E h => ?_) (fun cdv A outer s H vs Q E hr h => ?_)
  · obtain ⟨vq, vl, v1, oq, ol, o1, rfl, _⟩ := h
    rfl
  · obtain ⟨vq, vl, v1, oq, ol, o1, rfl, hq, hl, h1, bad, k⟩ := h
    refine ⟨_, 
      (pss_cons (ps_expr (pe_callS (ok_check_field T) (hr.mono (by decide)) rfl T.m_check_field T.F_check_field.kp T.b_check_field (fun σ => passAt (takes_of rfl rfl rfl rfl) σ) (pa_cons (pv 0) pa_nil)))
      (pss_cons (ps_expr (pe_callS (ok_check_letter T) (hr.mono (by decide)) rfl T.m_check_letter T.F_check_letter.kp T.b_check_letter (fun σ => passAt (takes_of rfl rfl rfl rfl) σ) (pa_cons (pv 0) (pa_cons (pv 1) pa_nil))))
      (pss_cons (ps_expr (pe_callS (ok_check_word T) (hr.mono (by decide)) rfl T.m_check_word T.F_check_word.kp T.b_check_word (fun σ => passAt (takes_of rfl rfl rfl rfl) σ) (pa_cons (pv 0) (pa_cons (pv 2) pa_nil))))
      (pss_one (ps_ret (pe_call (ok_row_times T) (hr.mono (by decide)) rfl T.m_row_times T.F_row_times.kp T.b_row_times .nil pass0 (pa_cons (pv 0) (pa_cons (pv 1) (pa_cons (pv 2) pa_nil))))))))), ?_⟩
    refine ⟨_, rfl, vq, oq, rfl, hq, bad, fun eq => ?_⟩
    obtain ⟨q, rfl, lq⟩ := from25 eq
    obtain rfl : vq = .int q := hq
    obtain ⟨badl, k1⟩ := k q rfl lq
    refine ⟨_, rfl, _, rfl, q, vl, ol, rfl, hl, badl, fun el => ?_⟩
    obtain ⟨c, rfl, lc⟩ := fromL el
    obtain rfl : vl = .int c := hl
    obtain ⟨bad1, k2⟩ := k1 c rfl lc
    refine ⟨_, rfl, _, rfl, q, v1, o1, rfl, h1, bad1, fun e1 H1 s1 => ?_⟩
    obtain ⟨as, rfl, la⟩ := fromW e1
    obtain ⟨t1, l1⟩ := lev_ti (h1.same s1)
    exact ⟨_, rfl, _, rfl, _, rfl, q, c, v1, as, rfl, lq, lc, t1, la, l1, fun z H' s' hz => k2 as rfl la z H' (s1.trans s') hz⟩
def spS1 (K : PySem.W.Frag) (Cf Cw : Addr) (R : List Int → Hp → Hp → VK → Prop) : Sp := fun vs H Q E => ∃ (vq v1 : V) (oq : Option Int) (o1 : Option (List (Option Int))), vs = [vq, v1] ∧ IntQ K H vq oq ∧ Lev K H v1 o1 ∧
  (inFrom 2 5 oq = false → Flies E Cf vq H) ∧ ∀ q, oq = some q → LetQ q → (wordO q o1 = false → ∀ H', Same H H' → Flies E Cw v1 H') ∧ ∀ as, o1 = some (as.map some) → IsRow q as → as.length ≤ 1000 → ∀ H', Same H H' → R as H H' Q
theorem ok_support (T : Txt K mg) : FnOk P w K mg base (L2.CX P w) 6 T.a_support T.d_support P_support (spS1 K T.C_BadField T.C_BadWord fun as _ H Q => ∀ z H', Same H H' → TI K H' z (supp as) → Q z H') := by
  refine T.F_support.okX sc_support (fun vs H Q E h => ?_) (fun cdv A outer s H vs Q E hr h => ?_)
  · obtain ⟨vq, v1, oq, o1, rfl, _⟩ := h
    rfl
  · obtain ⟨vq, v1, oq, o1, rfl, hq, h1, bad, k⟩ := h
    refine ⟨_, 
      (pss_cons (ps_expr (pe_callS (ok_check_field T) (hr.mono (by decide)) rfl T.m_check_field T.F_check_field.kp T.b_check_field (fun σ => passAt (takes_of rfl rfl rfl rfl) σ) (pa_cons (pv 0) pa_nil)))
      (pss_cons (ps_expr (pe_callS (ok_check_word T) (hr.mono (by decide)) rfl T.m_check_word T.F_check_word.kp T.b_check_word (fun σ => passAt (takes_of rfl rfl rfl rfl) σ) (pa_cons (pv 0) (pa_cons (pv 1) pa_nil))))
      (pss_one (ps_ret (pe_call (ok_row_support T) (hr.mono (by decide)) rfl T.m_row_support T.F_row_support.kp T.b_row_support .nil pass0 (pa_cons (pv 1) pa_nil)))))), ?_⟩
    refine ⟨_, rfl, vq, oq, rfl, hq, bad, fun eq => ?_⟩
    obtain ⟨q, rfl, lq⟩ := from25 eq
    obtain rfl : vq = .int q := hq
    obtain ⟨bad1, k⟩ := k q rfl lq
    refine ⟨_, rfl, _, rfl, q, v1, o1, rfl, h1, bad1, fun e1 H1 s1 => ?_⟩
    obtain ⟨as, rfl, la⟩ := fromW e1
    obtain ⟨t1, l1⟩ := lev_ti (h1.same s1)
    exact ⟨_, rfl, v1, as, rfl, t1, l1, k as rfl la l1 H1 s1⟩
theorem supp_len (as : List Int) : (supp as).length ≤ as.length := by
  unfold supp
  rw [List.length_map]
  exact Nat.le_trans (List.length_filter_le _ _) (by rw [List.length_range]; exact Nat.le_refl _)
theorem ok_weight (T : Txt K mg) : FnOk P w K mg base (L2.CX P w) 7 T.a_weight T.d_weight P_weight (spS1 K T.C_BadField T.C_BadWord fun as _ H Q => ∀ H', Same H H' → Q (.int ((supp as).length : Int)) H') := by
  refine T.F_weight.okX sc_weight (fun vs H Q E h => ?_) (fun cdv A outer s H vs Q E hr h => ?_)
  · obtain ⟨vq, v1, oq, o1, rfl, _⟩ := h
    rfl
  · obtain ⟨vq, v1, oq, o1, rfl, hq, h1, bad, k⟩ := h
    refine ⟨_, 
      (pss_one (ps_ret (pe_callB call_len_seq (by rfl) T.m_len (by decide +kernel) (pa_cons (pe_callS (ok_support T) (hr.mono (by decide)) rfl T.m_support T.F_support.kp T.b_support (fun σ => passAt (takes_of rfl rfl rfl rfl) σ) (pa_cons (pv 0) (pa_cons (pv 1) pa_nil))) pa_nil)))), ?_⟩
    refine ⟨_, rfl, _, rfl, vq, v1, oq, o1, rfl, hq, h1, bad, fun q eq lq => ⟨(k q eq lq).1, fun as e1 la l1 H1 s1 z H2 s2 hz => ?_⟩⟩
    obtain ⟨a, rfl, ha⟩ := hz
    have z := (k q eq lq).2 as e1 la l1 H1 s1 H2 s2
    refine ⟨a, _, rfl, .inr ha, ?_⟩
    rw [List.length_map]
    exact z
end
end K05
end
section
set_option maxRecDepth 100000
namespace MB
open PySem PySem.Spec PyProof.Rows L2
structure Sz (b k : Nat) (dd : PyData) : Prop where
  sh : dd.showable = true
  lv : dd.leavesShort 60 = true
  bu : dd.bulk ≤ b
  de : dd.depth ≤ k
theorem Sz.told {b k : Nat} {dd : PyData} (h : Sz b k dd) (hb : b ≤ 200000 := by decide) (hk : k ≤ 40 := by decide) : Told dd := ⟨h.sh, h.lv, Nat.le_trans h.bu hb, Nat.le_trans h.de hk⟩
theorem Sz.mono {b k b' k' : Nat} {dd : PyData} (h : Sz b k dd) (hb : b ≤ b' := by decide) (hk : k ≤ k' := by decide) : Sz b' k' dd := ⟨h.sh, h.lv, Nat.le_trans h.bu hb, Nat.le_trans h.de hk⟩
structure SzAll (b k : Nat) (ds : List PyData) : Prop where
  sh : PyData.showableAll ds = true
  lv : PyData.leavesShortAll 60 ds = true
  bu : PyData.bulkAll ds ≤ b
  de : PyData.depthAll ds ≤ k
theorem szAll_nil {b k : Nat} : SzAll b k [] := ⟨rfl, rfl, Nat.zero_le _, Nat.zero_le _⟩
theorem szAll_cons {b b' k : Nat} {dd : PyData} {ds : List PyData} (h : Sz b k dd) (hs : SzAll b' k ds) : SzAll (b + 1 + b') k (dd :: ds) where
  sh := by
    simp only [PyData.showableAll, Bool.and_eq_true]
    exact ⟨h.sh, hs.sh⟩
  lv := by
    simp only [PyData.leavesShortAll, Bool.and_eq_true]
    exact ⟨h.lv, hs.lv⟩
  bu := by
    simp only [PyData.bulkAll]
    have := h.bu
    have := hs.bu
    omega
  de := by
    simp only [PyData.depthAll]
    exact Nat.max_le.mpr ⟨h.de, hs.de⟩
theorem sz_tup {b k : Nat} {ds : List PyData} (h : SzAll b k ds) : Sz b (k + 1) (.tuple ds) where
  sh := by simpa only [PyData.showable] using h.sh
  lv := by simpa only [PyData.leavesShort] using h.lv
  bu := by simpa only [PyData.bulk] using h.bu
  de := by
    simp only [PyData.depth]
    exact Nat.succ_le_succ h.de
theorem sz_lst {b k : Nat} {ds : List PyData} (h : SzAll b k ds) : Sz b (k + 1) (.list ds) where
  sh := by simpa only [PyData.showable] using h.sh
  lv := by simpa only [PyData.leavesShort] using h.lv
  bu := by simpa only [PyData.bulk] using h.bu
  de := by
    simp only [PyData.depth]
    exact Nat.succ_le_succ h.de
theorem sz_none {b k : Nat} : Sz b k .none := ⟨rfl, rfl, Nat.zero_le _, Nat.zero_le _⟩
theorem sz_bool {b k : Nat} {x : Bool} : Sz b k (.bool x) := ⟨rfl, rfl, Nat.zero_le _, Nat.zero_le _⟩
theorem sz_int {b k : Nat} {i : Int} (h : i.natAbs < 10 ^ 42) : Sz b k (.int i) where
  sh := by
    simp only [PyData.showable, decide_eq_true_eq]
    rcases Nat.eq_zero_or_pos i.natAbs with z | z
    · rw [z]
      decide
    · have h2 : i.natAbs < 2 ^ 140 := Nat.lt_trans h (by decide)
      have := (Nat.log2_lt (by omega)).mpr h2
      omega
  lv := by
    simp only [PyData.leavesShort, decide_eq_true_eq]
    have e := int_text_length_le10 (k := 42) (by decide) h
    show (Str.ofString (toString i)).length ≤ 60
    rw [PySem.ofString_length]
    omega
  bu := Nat.zero_le _
  de := Nat.zero_le _
theorem szAll_ints {k : Nat} : ∀ (ns : List Int), (∀ c ∈ ns, c.natAbs < 10 ^ 42) → SzAll ns.length k (ns.map PyData.int)
  | [], _ => szAll_nil
  | c :: r, h => by
    have z := szAll_cons (b := 0) (k := k) (sz_int (h c List.mem_cons_self)) (szAll_ints (k := k) r fun x hx => h x (List.mem_cons_of_mem _ hx))
    rw [List.map_cons, List.length_cons]
    have e : 0 + 1 + r.length = r.length + 1 := by omega
    rw [e] at z
    exact z
theorem SzAll.mono {b k b' k' : Nat} {ds : List PyData} (h : SzAll b k ds) (hb : b ≤ b') (hk : k ≤ k') : SzAll b' k' ds := ⟨h.sh, h.lv, Nat.le_trans h.bu hb, Nat.le_trans h.de hk⟩
theorem showableAll_app : ∀ ds es : List PyData, PyData.showableAll (ds ++ es) = (PyData.showableAll ds && PyData.showableAll es)
  | [], es => by simp only [List.nil_append, PyData.showableAll, Bool.true_and]
  | d :: r, es => by simp only [List.cons_append, PyData.showableAll, showableAll_app r es, Bool.and_assoc]
theorem leavesAll_app (B : Nat) : ∀ ds es : List PyData, PyData.leavesShortAll B (ds ++ es) = (PyData.leavesShortAll B ds && PyData.leavesShortAll B es)
  | [], es => by simp only [List.nil_append, PyData.leavesShortAll, Bool.true_and]
  | d :: r, es => by simp only [List.cons_append, PyData.leavesShortAll, leavesAll_app B r es, Bool.and_assoc]
theorem bulkAll_app : ∀ ds es : List PyData, PyData.bulkAll (ds ++ es) = PyData.bulkAll ds + PyData.bulkAll es
  | [], es => by simp only [List.nil_append, PyData.bulkAll, Nat.zero_add]
  | d :: r, es => by
    simp only [List.cons_append, PyData.bulkAll, bulkAll_app r es]
    omega
theorem depthAll_app : ∀ ds es : List PyData, PyData.depthAll (ds ++ es) = max (PyData.depthAll ds) (PyData.depthAll es)
  | [], es => by simp only [List.nil_append, PyData.depthAll, Nat.zero_max]
  | d :: r, es => by simp only [List.cons_append, PyData.depthAll, depthAll_app r es, Nat.max_assoc]
theorem szAll_app {b b' k : Nat} {ds es : List PyData} (h : SzAll b k ds) (g : SzAll b' k es) : SzAll (b + b') k (ds ++ es) where
  sh := by rw [showableAll_app, h.sh, g.sh]; rfl
  lv := by rw [leavesAll_app, h.lv, g.lv]; rfl
  bu := by
    rw [bulkAll_app]
    exact Nat.add_le_add h.bu g.bu
  de := by
    rw [depthAll_app]
    exact Nat.max_le.mpr ⟨h.de, g.de⟩
theorem cps_small (s : String) : (Str.ofString s).cps.toList.all (fun c => decide (c < 16 ^ 8)) = true := by
  rw [Str.ofString_eq_toList]
  show ((s.toList.map Char.toNat).toArray.toList).all _ = true
  rw [List.all_eq_true]
  intro c hc
  obtain ⟨ch, _, rfl⟩ := List.mem_map.mp (show c ∈ s.toList.map Char.toNat from hc)
  have h1 : ch.toNat < 0x110000 := by
    have := ch.valid
    have h2 : ch.val.toNat < 0x110000 := by
      rcases this with h | ⟨_, h⟩ <;> omega
    exact h2
  have e : (16 : Nat) ^ 8 = 4294967296 := by decide
  exact decide_eq_true (by omega)
theorem sz_text {b k : Nat} {s : String} (h : s.length ≤ b) : Sz b k (.str (Str.ofString s)) where
  sh := rfl
  lv := by
    simp only [PyData.leavesShort]
    exact cps_small s
  bu := by
    simp only [PyData.bulk]
    show (Str.ofString s).length ≤ b
    rw [PySem.ofString_length]
    exact h
  de := Nat.zero_le _
end MB
end
section
set_option maxRecDepth 100000
namespace MB
open PySem PySem.Spec PyProof.Rows L2 LamX
def newer (H H' : Hp) : Hp := fun b => match H b with
  | some _ => none
  | none => H' b
section
variable {H H0 H1 H' H2 : Hp} {d l p : Addr} {kL : Str} {K : PySem.W.Frag}
theorem newer_at {b : Addr} (h : H b = none) : newer H H' b = H' b := by
  unfold newer
  rw [h]
theorem newer_some {b : Addr} {o : HO} (h : newer H H' b = some o) : H b = none ∧ H' b = some o := by
  unfold newer at h
  split at h
  · cases h
  · rename_i e
    exact ⟨e, h⟩
theorem newer_sub : Same (newer H H') H' := fun b u e => (newer_some e).2
theorem newer_mono (f : ∀ p, H1 p = none → H0 p = none) : Same (newer H1 H') (newer H0 H') := fun b u e => by
  obtain ⟨e1, e2⟩ := newer_some e
  rw [newer_at (f b e1)]
  exact e2
theorem newer_step (k : ∀ b o, H b = none → H' b = some o → H2 b = some o) : Same (newer H H') (newer H H2) := fun b u e => by
  obtain ⟨e1, e2⟩ := newer_some e
  rw [newer_at e1]
  exact k b u e1 e2
theorem Deck.there (D : Deck kL H d l) : H d ≠ none ∧ H l ≠ none := by
  obtain ⟨m, n, cs, h1, h2, _⟩ := D.ex
  rw [h1, h2]
  exact ⟨(by intro z; cases z), (by intro z; cases z)⟩
theorem newer_but (D : Deck kL H d l) (e : But d l H' H2) : Same (newer H H') (newer H H2) := newer_step fun b o h1 h2 => e b o h2 (fun z => D.there.1 (z ▸ h1)) (fun z => D.there.2 (z ▸ h1))
theorem Deck.extN (D : Deck kL H d l) (e : ExtN H H') : Deck kL H' d l := by
  obtain ⟨m, n, cs, h1, h2, h3⟩ := D.ex
  exact ⟨m, n, cs, e _ _ h1 (by intro ps z; cases z), e _ _ h2 (by intro ps z; cases z), h3⟩
theorem codeO_form {c : Addr} {q : Str} : (∀ kvs, CodeO c q ≠ .dK kvs) ∧ ∀ xs, CodeO c q ≠ .lst xs := by
  unfold CodeO
  exact ⟨fun _ z => (by cases z), fun _ z => (by cases z)⟩
theorem tabs_but {T : List (Addr × Str)} (D : Deck kL H d l) (e : But d l H H') (t : Tabs T H) : Tabs T H' := fun p hp => by
  obtain ⟨m, n, cs, h1, h2, _⟩ := D.ex
  obtain ⟨ps, a1, a2, a3⟩ := t p hp
  refine ⟨ps, e _ _ a1 (ne_of a1 h1 (by intro z; cases z)) (ne_of a1 h2 (by intro z; cases z)), a2, fun pos cv hc => ?_⟩
  obtain ⟨c, e1, e2⟩ := a3 pos cv hc
  exact ⟨c, e1, e _ _ e2 (ne_of e2 h1 (codeO_form.1 _)) (ne_of e2 h2 (codeO_form.2 _))⟩
theorem tabs_same {T : List (Addr × Str)} (e : Same H H') (t : Tabs T H) : Tabs T H' := t.ext e
end
theorem mono_told {d : PyData} {b k : Nat} (h : Sz b k d) (hb : b ≤ 200000) (hk : k ≤ 40) : Told d := h.told hb hk
theorem sz_dict2 {b k : Nat} {s : String} {i j : Int} {x : PyData} (h : Sz b k x) (hs : s.length ≤ 20) (hi : i.natAbs < 10 ^ 42) (hj : j.natAbs < 10 ^ 42) : Sz (b + 30) (k + 1) (.dict [(.str (Str.ofString s), x), (.int i, .int j)]) where
  sh := by
    have a := (sz_int (b := 0) (k := 0) hi).sh
    have c := (sz_int (b := 0) (k := 0) hj).sh
    simp only [PyData.showable, PyData.showableKv, Bool.and_true, Bool.true_and] at a c ⊢
    rw [h.sh, a, c]
    rfl
  lv := by
    have a := (sz_int (b := 0) (k := 0) hi).lv
    have c := (sz_int (b := 0) (k := 0) hj).lv
    have t := (sz_text (k := 0) hs).lv
    simp only [PyData.leavesShort, PyData.leavesShortKv, Bool.and_true] at a c t ⊢
    rw [h.lv, a, c, t]
    rfl
  bu := by
    have t := (sz_text (k := 0) hs).bu
    have := h.bu
    simp only [PyData.bulk, PyData.bulkKv] at t ⊢
    omega
  de := by
    have := h.de
    simp only [PyData.depth, PyData.depthKv]
    omega
end MB
end
section
set_option maxRecDepth 100000
namespace MB
open PySem PySem.Spec PyProof.Rows L2
def rEqNil (K : PySem.W.Frag) : R2 := fun x y H Q => ∃ a b xs, x = .ref a ∧ y = .ref b ∧ SqL K H a xs ∧ SqL K H b [] ∧ Q (.bl xs.isEmpty) H
theorem op_eqNil {X : Cx} (hu : X.A.units + 64 < cLine) : OpR X (compareOp .Eq) (rEqNil X.K) := by
  intro pins s σ H x y v u Q I rx ry h
  obtain ⟨a, b, xs, rfl, rfl, ha, hb, q⟩ := h
  cases rx
  cases ry
  obtain ⟨its, rv, ⟨o, n, ho, hc, hn, hd⟩, _⟩ := I.list ha
  obtain ⟨its2, rv2, ⟨o2, n2, ho2, hc2, hn2, hd2⟩, _⟩ := I.list hb
  cases rv2
  have la : s.heap.IsList a its.toArray := by first | exact ⟨o, ho, hc, n, hd⟩ | exact ⟨o, ho, hc, hd⟩
  have lb : s.heap.IsList b ([] : List Value).toArray := by first | exact ⟨o2, ho2, hc2, n2, hd2⟩ | exact ⟨o2, ho2, hc2, hd2⟩
  show wpAny (model X.prog X.w) X.A (richCompare .Eq (.ref a) (.ref b)) (EP X pins σ Q) X.xe s
  have hu1 : X.A.units < cLine := by omega
  cases xs with
  | nil =>
    cases rv
    exact SeqAt.RcAt.lists (e := fun _ => true) la lb rfl hu1 (fun j h1 _ => absurd h1 (by simp)) X.prog X.w X.xe _ ⟨.bl _, H, I, rfl, q⟩
  | cons z r =>
    have l1 : (its.toArray.size != ([] : List Value).toArray.size) = true := by
      cases rv
      simp
    exact SeqAt.RcAt.lists_lengths la lb l1 hu1 X.prog X.w X.xe _ ⟨.bl _, H, I, rfl, q⟩
end MB
end
section
set_option maxRecDepth 100000
set_option maxHeartbeats 4000000
set_option exponentiation.threshold 9000
namespace K05
open PySem PySem.Spec PyProof.Rows L2 MB
open LamX hiding takes0
section
variable {w : World} {K : PySem.W.Frag} {mg : Str → Option Value} {base : Heap}
def spPick (K : PySem.W.Frag) : Sp := fun vs H Q _ => ∃ (d l a : Addr) (xs : List V), vs = [.ref d, .ref a] ∧ SqAny K (hide d l H) a xs ∧ xs ≠ [] ∧ xs.length ≤ 1000 ∧ Deck kL H d l ∧
  ∀ (x : V) H', x ∈ xs → But d l H H' → Deck kL H' d l → Q x H'
theorem small_bits {k : Int} (h0 : 0 ≤ k) (h : k ≤ 1000000) : k.natAbs < 2 ^ 8000 :=
  Nat.lt_of_le_of_lt (show k.natAbs ≤ 2 ^ 20 by have : (2 : Nat) ^ 20 = 1048576 := rfl; omega) (Nat.pow_lt_pow_right (by decide) (by decide))
theorem ok__law_pick (T : Txt K mg) : FnOk P w K mg base CX0 2 T.a__law_pick T.d__law_pick P__law_pick (spPick K) := by
  refine T.F__law_pick.ok sc__law_pick (fun vs H Q E h => ?_) (fun cdv A outer s H vs Q E hr h => ?_)
  · obtain ⟨d, l, a, xs, rfl, _⟩ := h
    rfl
  · obtain ⟨d, l, a, xs, rfl, ha, hne, hl, D, q⟩ := h
    refine ⟨_, 
      (pss_one (ps_ret (pe_ix (r := rIx K) ix_seq (pv 1) (pe_call (ok__law_draw T) (hr.mono (by decide)) rfl T.m__law_draw T.F__law_draw.kp T.b__law_draw .nil pass0 (pa_cons (pv 0) (pa_cons (pe_callB call_len_seq (by rfl) T.m_len (by decide +kernel) (pa_cons (pv 1) pa_nil)) pa_nil))) (fun _ _ => rfl)))), ?_⟩
    have hp : 0 < xs.length := List.length_pos_iff.mpr hne
    have h0 : SqL K H a xs ∨ SqT K H a xs := (ha.same hide_sub).symm
    refine ⟨_, rfl, _, rfl, _, rfl, a, _, rfl, h0, d, l, _, rfl, ?_, ?_, D, fun r H1 r0 r1 e D1 => ?_⟩
    · omega
    · exact small_bits (by omega) (by omega)
    obtain ⟨k, rfl⟩ : ∃ k : Nat, r = (k : Int) := ⟨r.toNat, by omega⟩
    have hk : k < xs.length := by omega
    have ha1 : SqAny K H1 a xs := (ha.same e.hide).same hide_sub
    have fin := q _ _ (List.getElem_mem hk) e D1
    have ix : atI xs (k : Int) = some xs[k] := atI_nat (List.getElem?_eq_getElem hk)
    rcases ha1 with h | h
    · exact .inr (.inl ⟨a, _, _, xs[k], rfl, rfl, h, ix, fin⟩)
    · exact .inl ⟨a, _, _, xs[k], rfl, rfl, h, ix, fin⟩
theorem cp39 : CPow 10 39 := ⟨by decide, by decide, by decide⟩
theorem cp20 : CPow 10 20 := ⟨by decide, by decide, by decide⟩
theorem line_s {n : Nat} (h : n ≤ 100000) : n ≤ sizeLine := Nat.le_of_lt (line_le h)
def anyB : Nat → Nat
  | 0 => 40
  | 1 => 200
  | _ => 800
def spAny (K : PySem.W.Frag) (n : Nat) : Sp := fun vs H Q _ => ∃ (d l : Addr), vs = [.ref d, .int (n : Int)] ∧ Deck kL H d l ∧
  ∀ (x : V) (dd : PyData) H', But d l H H' → Deck kL H' d l → Dq K (newer H H') x dd → Sz (anyB n) (2 * n + 2) dd → Q x H'
theorem ok_anyF (T : Txt K mg) : FnOk P w K mg base CX0 1 T.a__law_any T.d__law_any P__law_any (fun _ _ _ _ => False) where
  len := fun _ _ _ _ h => h.elim
  run := by
    intros
    rename_i h
    exact h.elim
theorem merge2 {L : Addr} {n : Int} : mergeK [] [((.inr "key" : Key), V.ref L), (.inl 1, .int n)] = [(.inr "key", .ref L), (.inl 1, .int n)] := by
  unfold mergeK
  simp [putK]
theorem ok_any0 (T : Txt K mg) : FnOk P w K mg base CX0 (2 + 1) T.a__law_any T.d__law_any P__law_any (spAny K 0) := by
  refine T.F__law_any.ok sc__law_any (fun vs H Q E h => ?_) (fun cdv A outer s H vs Q E hr h => ?_)
  · obtain ⟨d, l, rfl, _⟩ := h
    rfl
  · obtain ⟨d, l, rfl, D, q⟩ := h
    refine ⟨_, 
      (pss_cons (ps_set (i := 2) sc__law_any.nd rfl (Or.inl rfl) (pe_call (ok__law_draw T) (hr.mono (by decide)) rfl T.m__law_draw T.F__law_draw.kp T.b__law_draw .nil pass0 (pa_cons (pv 0) (pa_cons pe_int pa_nil))))
      (pss_cons (ps_if (pt_cmpR op_lt (pv 2) pe_int (nomark _)) (pss_one (ps_ret (pe_call (ok__law_pick T) (hr.mono (by decide)) rfl T.m__law_pick T.F__law_pick.kp T.b__law_pick .nil pass0 (pa_cons (pv 0) (pa_cons (pe_lst (pa_cons pe_int (pa_cons pe_int (pa_cons (pe_un un_neg pe_int) (pa_cons pe_int (pa_cons pe_int (pa_cons pe_int (pa_cons pe_int (pa_cons pe_int (pa_cons (pe_op op_pow pe_int pe_int) (pa_cons (pe_un un_neg (pe_op op_pow pe_int pe_int)) pa_nil))))))))))) pa_nil))))) pss_nil)
      (pss_cons (ps_if (pt_cmpR op_eq (pv 2) pe_int (nomark _)) (pss_one (ps_ret (pe_call (ok__law_pick T) (hr.mono (by decide)) rfl T.m__law_pick T.F__law_pick.kp T.b__law_pick .nil pass0 (pa_cons (pv 0) (pa_cons (pe_lst (pa_cons pe_str (pa_cons pe_str (pa_cons pe_str (pa_cons pe_str (pa_cons pe_str (pa_cons pe_str pa_nil))))))) pa_nil))))) pss_nil)
      (pss_cons (ps_if (pt_cmpR op_eq (pv 2) pe_int (nomark _)) (pss_one (ps_ret (pe_call (ok__law_pick T) (hr.mono (by decide)) rfl T.m__law_pick T.F__law_pick.kp T.b__law_pick .nil pass0 (pa_cons (pv 0) (pa_cons (pe_lst (pa_cons pe_bl (pa_cons pe_bl (pa_cons pe_non pa_nil)))) pa_nil))))) pss_nil)
      (pss_cons (ps_set (i := 3) sc__law_any.nd rfl (Or.inl rfl) (pe_ifExp (pt_cmpR op_gt (pv 1) pe_int (nomark _)) (pe_lc (own := [("_law_turn", 4)]) (g := gName 4) (tt := tYes) rfl sc__law_any.nd (pi_range1 rfl T.m_range (pa_cons (pe_call (ok__law_draw T) (hr.mono (by decide)) rfl T.m__law_draw T.F__law_draw.kp T.b__law_draw .nil pass0 (pa_cons (pv 0) (pa_cons pe_int pa_nil))) pa_nil)) (blkOk_by (own := [("_law_turn", 4)]) (N := N__law_any) (sc := defScope s__law_any) (by decide +kernel)) (fun _ _ _ _ _ => (pg_name (i := 4) sc__law_any.nd rfl (Or.inl rfl))) (fun _ _ _ _ _ => pts_nil) (fun _ _ _ _ _ => (pe_call (ok_anyF T) (hr.mono (by decide)) rfl T.m__law_any T.F__law_any.kp T.b__law_any .nil pass0 (pa_cons (pv 0) (pa_cons (pe_op op_sub (pv 1) pe_int) pa_nil))))) (pe_lst pa_nil)))
      (pss_cons (ps_if (pt_cmpR op_eq (pv 2) pe_int (nomark _)) (pss_one (ps_ret (pv 3))) pss_nil)
      (pss_one (ps_ret (pe_ifExp (pt_cmpR op_eq (pv 2) pe_int (nomark _)) (pe_disp (pps_cons pe_str (pv 3) (pps_cons pe_int (pe_callB call_len_seq (by rfl) T.m_len (by decide +kernel) (pa_cons (pv 3) pa_nil)) pps_nil)) (by rfl) (by rfl) (fun z => by cases z) (by decide)) (pe_callTy call_tuple_of (by rfl) T.m_tuple (by decide +kernel) (pa_cons (pv 3) pa_nil))))))))))), ?_⟩
    refine ⟨_, rfl, d, l, 8, rfl, by decide, by decide, D, fun way H1 w0 w1 e1 D1 => ?_⟩
    refine ⟨_, rfl, _, _, rfl, rfl, _, rfl, ?_⟩
    refine ite2 (fun _ => ?_) (fun _ => ?_)
    · refine ⟨_, rfl, 1, rfl, _, _, rfl, rfl, cp39, _, _, rfl, rfl, cp20, _, rfl, line_s (by decide), fun p hp => ?_⟩
      have s2 := same_upd (o := .lst [.int 0, .int 1, .int (-1), .int 2, .int 3, .int 4, .int 5, .int 7, .int ((10 : Int) ^ (39 : Int).toNat), .int (-((10 : Int) ^ (20 : Int).toNat))]) hp
      have D2 := D1.same s2
      refine ⟨d, l, p, [.int 0, .int 1, .int (-1), .int 2, .int 3, .int 4, .int 5, .int 7, .int ((10 : Int) ^ (39 : Int).toNat), .int (-((10 : Int) ^ (20 : Int).toNat))], rfl, .inr (SqL.of (D1.at_new hp)), by simp, by decide, D2, fun x H3 hx e3 D3 => ?_⟩
      obtain ⟨c, rfl, hc⟩ : ∃ c : Int, x = .int c ∧ c.natAbs < 10 ^ 42 := by
        simp only [List.mem_cons, List.not_mem_nil, or_false] at hx
        rcases hx with rfl | rfl | rfl | rfl | rfl | rfl | rfl | rfl | rfl | rfl <;> exact ⟨_, rfl, by decide⟩
      exact q _ (.int c) _ ((e1.same s2).trans e3) D3 (.int c) (sz_int hc)
    refine ⟨_, rfl, rfl, _, rfl, ?_⟩
    rw [dec_int]
    refine ite2 (fun _ => ?_) (fun _ => ?_)
    · refine ⟨_, rfl, line_s (by decide), fun p hp => ?_⟩
      have s2 := same_upd (o := .lst [.str "", .str "2", .str "a", .str "(0, 1)", .str "1 0 1", .str "~"]) hp
      have D2 := D1.same s2
      refine ⟨d, l, p, [.str "", .str "2", .str "a", .str "(0, 1)", .str "1 0 1", .str "~"], rfl, .inr (SqL.of (D1.at_new hp)), by simp, by decide, D2, fun x H3 hx e3 D3 => ?_⟩
      obtain ⟨c, rfl, hc⟩ : ∃ c : String, x = .str (Str.ofString c) ∧ c.length ≤ 20 := by
        simp only [List.mem_cons, List.not_mem_nil, or_false] at hx
        rcases hx with rfl | rfl | rfl | rfl | rfl | rfl <;> exact ⟨_, rfl, by decide⟩
      exact q _ (.str _) _ ((e1.same s2).trans e3) D3 (.str _) ((sz_text (k := 0) hc).mono (by decide) (by decide))
    refine ⟨_, rfl, rfl, _, rfl, ?_⟩
    rw [dec_int]
    refine ite2 (fun _ => ?_) (fun _ => ?_)
    · refine ⟨_, rfl, line_s (by decide), fun p hp => ?_⟩
      have s2 := same_upd (o := .lst [.bl true, .bl false, .non]) hp
      have D2 := D1.same s2
      refine ⟨d, l, p, [.bl true, .bl false, .non], rfl, .inr (SqL.of (D1.at_new hp)), by simp, by decide, D2, fun x H3 hx e3 D3 => ?_⟩
      simp only [List.mem_cons, List.not_mem_nil, or_false] at hx
      rcases hx with rfl | rfl | rfl
      · exact q _ (.bool true) _ ((e1.same s2).trans e3) D3 (.bl _) sz_bool
      · exact q _ (.bool false) _ ((e1.same s2).trans e3) D3 (.bl _) sz_bool
      · exact q _ .none _ ((e1.same s2).trans e3) D3 .non sz_none
    refine ⟨_, rfl, _, _, rfl, rfl, _, rfl, iteF ⟨line_s (by decide), fun L hL => ?_⟩⟩
    have LH : H L = none := e1.free D1 hL
    have s5 := same_upd (o := .lst []) hL
    have e5 := e1.same s5
    have D5 := D1.same s5
    have hN : (upd H1 L (.lst [])) L = some (.lst []) := upd_same
    generalize upd H1 L (.lst []) = H5 at s5 e5 D5 hN ⊢
    obtain ⟨xs, ds, hxs, hd, hs, lx⟩ : ∃ (xs : List V) (ds : List PyData), xs = [] ∧ DqAll K (newer H H5) xs ds ∧ SzAll 3 0 ds ∧ xs.length ≤ 3 := ⟨[], [], rfl, .nil, szAll_nil, Nat.zero_le _⟩
    rw [← hxs] at hN
    clear hxs
    obtain ⟨L1, L2⟩ := (⟨fun z => D.there.1 (z ▸ LH), fun z => D.there.2 (z ▸ LH)⟩ : L ≠ d ∧ L ≠ l)
    have hNL : newer H H5 L = some (.lst xs) := by rw [newer_at LH]; exact hN
    refine ⟨_, rfl, rfl, _, rfl, ?_⟩
    rw [dec_int]
    refine ite2 (fun _ => ?_) (fun _ => ?_)
    · exact ⟨_, rfl, q _ (.list ds) _ e5 D5 (.lst (SqL.of hNL) hd) ((sz_lst hs).mono (by decide) (by decide))⟩
    refine ⟨_, rfl, rfl, _, rfl, ?_⟩
    rw [dec_int]
    refine ite2 (fun _ => ?_) (fun _ => ?_)
    · intro p hp
      have pL : L ≠ p := ne_of_none hN hp
      have hN6 : (upd H5 p (.dK [])) L = some (.lst xs) := (upd_ne pL).trans hN
      refine ⟨_, rfl, _, rfl, L, xs, rfl, .inl (SqL.of hN6), upd_same, [(.inr "key", .ref L), (.inl 1, .int (xs.length : Int))], rfl, Nat.le_of_ble_eq_true rfl, ?_⟩
      rw [merge2, upd_upd]
      have s6 := same_upd (o := .dK [((.inr "key" : Key), V.ref L), (.inl 1, .int (xs.length : Int))]) hp
      have g6 : Same (newer H H5) (newer H (upd H5 p (.dK [((.inr "key" : Key), V.ref L), (.inl 1, .int (xs.length : Int))]))) := newer_step fun b o _ h2 => s6 _ _ h2
      have pH : H p = none := e5.free D5 hp
      refine q _ (.dict [(.str "key", .list ds), (.int 1, .int (xs.length : Int))]) _ (e5.same s6) (D5.same s6) (.dic (by rw [newer_at pH]; exact upd_same) (.cons (k := .inr "key") (.lst (SqL.of (g6 _ _ hNL)) (DqAll.same g6 _ _ hd)) (.cons (k := .inl 1) (.int _) .nil))) ?_
      exact (sz_dict2 (sz_lst hs) (by decide) (by decide) (by have h42 : (10 : Nat) ^ 42 > 10 := by decide
                                                              omega)).mono (by decide) (by decide)
    · refine ⟨_, rfl, L, xs, rfl, .inl ⟨SqL.of hN, fun p hp => ?_⟩⟩
      have s6 := same_upd (o := .tup xs) hp
      have g6 : Same (newer H H5) (newer H (upd H5 p (.tup xs))) := newer_step fun b o _ h2 => s6 _ _ h2
      have pH : H p = none := e5.free D5 hp
      refine q _ (.tuple ds) _ (e5.same s6) (D5.same s6) (.tup (SqT.of (by rw [newer_at pH]; exact upd_same)) (DqAll.same g6 _ _ hd)) ((sz_tup hs).mono (by decide) (by decide))
theorem ok_any1 (T : Txt K mg) : FnOk P w K mg base CX0 (2 + 2) T.a__law_any T.d__law_any P__law_any (spAny K 1) := by
  refine T.F__law_any.ok sc__law_any (fun vs H Q E h => ?_) (fun cdv A outer s H vs Q E hr h => ?_)
  · obtain ⟨d, l, rfl, _⟩ := h
    rfl
  · obtain ⟨d, l, rfl, D, q⟩ := h
    refine ⟨_, 
      (pss_cons (ps_set (i := 2) sc__law_any.nd rfl (Or.inl rfl) (pe_call (ok__law_draw T) (hr.mono (by decide)) rfl T.m__law_draw T.F__law_draw.kp T.b__law_draw .nil pass0 (pa_cons (pv 0) (pa_cons pe_int pa_nil))))
      (pss_cons (ps_if (pt_cmpR op_lt (pv 2) pe_int (nomark _)) (pss_one (ps_ret (pe_call (ok__law_pick T) (hr.mono (by decide)) rfl T.m__law_pick T.F__law_pick.kp T.b__law_pick .nil pass0 (pa_cons (pv 0) (pa_cons (pe_lst (pa_cons pe_int (pa_cons pe_int (pa_cons (pe_un un_neg pe_int) (pa_cons pe_int (pa_cons pe_int (pa_cons pe_int (pa_cons pe_int (pa_cons pe_int (pa_cons (pe_op op_pow pe_int pe_int) (pa_cons (pe_un un_neg (pe_op op_pow pe_int pe_int)) pa_nil))))))))))) pa_nil))))) pss_nil)
      (pss_cons (ps_if (pt_cmpR op_eq (pv 2) pe_int (nomark _)) (pss_one (ps_ret (pe_call (ok__law_pick T) (hr.mono (by decide)) rfl T.m__law_pick T.F__law_pick.kp T.b__law_pick .nil pass0 (pa_cons (pv 0) (pa_cons (pe_lst (pa_cons pe_str (pa_cons pe_str (pa_cons pe_str (pa_cons pe_str (pa_cons pe_str (pa_cons pe_str pa_nil))))))) pa_nil))))) pss_nil)
      (pss_cons (ps_if (pt_cmpR op_eq (pv 2) pe_int (nomark _)) (pss_one (ps_ret (pe_call (ok__law_pick T) (hr.mono (by decide)) rfl T.m__law_pick T.F__law_pick.kp T.b__law_pick .nil pass0 (pa_cons (pv 0) (pa_cons (pe_lst (pa_cons pe_bl (pa_cons pe_bl (pa_cons pe_non pa_nil)))) pa_nil))))) pss_nil)
      (pss_cons (ps_set (i := 3) sc__law_any.nd rfl (Or.inl rfl) (pe_ifExp (pt_cmpR op_gt (pv 1) pe_int (nomark _)) (pe_lc (own := [("_law_turn", 4)]) (g := gName 4) (tt := tYes) rfl sc__law_any.nd (pi_range1 rfl T.m_range (pa_cons (pe_call (ok__law_draw T) (hr.mono (by decide)) rfl T.m__law_draw T.F__law_draw.kp T.b__law_draw .nil pass0 (pa_cons (pv 0) (pa_cons pe_int pa_nil))) pa_nil)) (blkOk_by (own := [("_law_turn", 4)]) (N := N__law_any) (sc := defScope s__law_any) (by decide +kernel)) (fun _ _ _ _ _ => (pg_name (i := 4) sc__law_any.nd rfl (Or.inl rfl))) (fun _ _ _ _ _ => pts_nil) (fun _ _ _ _ _ => (pe_call (ok_any0 T) (hr.mono (by decide)) rfl T.m__law_any T.F__law_any.kp T.b__law_any .nil pass0 (pa_cons (pv 0) (pa_cons (pe_op op_sub (pv 1) pe_int) pa_nil))))) (pe_lst pa_nil)))
      (pss_cons (ps_if (pt_cmpR op_eq (pv 2) pe_int (nomark _)) (pss_one (ps_ret (pv 3))) pss_nil)
      (pss_one (ps_ret (pe_ifExp (pt_cmpR op_eq (pv 2) pe_int (nomark _)) (pe_disp (pps_cons pe_str (pv 3) (pps_cons pe_int (pe_callB call_len_seq (by rfl) T.m_len (by decide +kernel) (pa_cons (pv 3) pa_nil)) pps_nil)) (by rfl) (by rfl) (fun z => by cases z) (by decide)) (pe_callTy call_tuple_of (by rfl) T.m_tuple (by decide +kernel) (pa_cons (pv 3) pa_nil))))))))))), ?_⟩
    refine ⟨_, rfl, d, l, 8, rfl, by decide, by decide, D, fun way H1 w0 w1 e1 D1 => ?_⟩
    refine ⟨_, rfl, _, _, rfl, rfl, _, rfl, ?_⟩
    refine ite2 (fun _ => ?_) (fun _ => ?_)
    · refine ⟨_, rfl, 1, rfl, _, _, rfl, rfl, cp39, _, _, rfl, rfl, cp20, _, rfl, line_s (by decide), fun p hp => ?_⟩
      have s2 := same_upd (o := .lst [.int 0, .int 1, .int (-1), .int 2, .int 3, .int 4, .int 5, .int 7, .int ((10 : Int) ^ (39 : Int).toNat), .int (-((10 : Int) ^ (20 : Int).toNat))]) hp
      have D2 := D1.same s2
      refine ⟨d, l, p, [.int 0, .int 1, .int (-1), .int 2, .int 3, .int 4, .int 5, .int 7, .int ((10 : Int) ^ (39 : Int).toNat), .int (-((10 : Int) ^ (20 : Int).toNat))], rfl, .inr (SqL.of (D1.at_new hp)), by simp, by decide, D2, fun x H3 hx e3 D3 => ?_⟩
      obtain ⟨c, rfl, hc⟩ : ∃ c : Int, x = .int c ∧ c.natAbs < 10 ^ 42 := by
        simp only [List.mem_cons, List.not_mem_nil, or_false] at hx
        rcases hx with rfl | rfl | rfl | rfl | rfl | rfl | rfl | rfl | rfl | rfl <;> exact ⟨_, rfl, by decide⟩
      exact q _ (.int c) _ ((e1.same s2).trans e3) D3 (.int c) (sz_int hc)
    refine ⟨_, rfl, rfl, _, rfl, ?_⟩
    rw [dec_int]
    refine ite2 (fun _ => ?_) (fun _ => ?_)
    · refine ⟨_, rfl, line_s (by decide), fun p hp => ?_⟩
      have s2 := same_upd (o := .lst [.str "", .str "2", .str "a", .str "(0, 1)", .str "1 0 1", .str "~"]) hp
      have D2 := D1.same s2
      refine ⟨d, l, p, [.str "", .str "2", .str "a", .str "(0, 1)", .str "1 0 1", .str "~"], rfl, .inr (SqL.of (D1.at_new hp)), by simp, by decide, D2, fun x H3 hx e3 D3 => ?_⟩
      obtain ⟨c, rfl, hc⟩ : ∃ c : String, x = .str (Str.ofString c) ∧ c.length ≤ 20 := by
        simp only [List.mem_cons, List.not_mem_nil, or_false] at hx
        rcases hx with rfl | rfl | rfl | rfl | rfl | rfl <;> exact ⟨_, rfl, by decide⟩
      exact q _ (.str _) _ ((e1.same s2).trans e3) D3 (.str _) ((sz_text (k := 0) hc).mono (by decide) (by decide))
    refine ⟨_, rfl, rfl, _, rfl, ?_⟩
    rw [dec_int]
    refine ite2 (fun _ => ?_) (fun _ => ?_)
    · refine ⟨_, rfl, line_s (by decide), fun p hp => ?_⟩
      have s2 := same_upd (o := .lst [.bl true, .bl false, .non]) hp
      have D2 := D1.same s2
      refine ⟨d, l, p, [.bl true, .bl false, .non], rfl, .inr (SqL.of (D1.at_new hp)), by simp, by decide, D2, fun x H3 hx e3 D3 => ?_⟩
      simp only [List.mem_cons, List.not_mem_nil, or_false] at hx
      rcases hx with rfl | rfl | rfl
      · exact q _ (.bool true) _ ((e1.same s2).trans e3) D3 (.bl _) sz_bool
      · exact q _ (.bool false) _ ((e1.same s2).trans e3) D3 (.bl _) sz_bool
      · exact q _ .none _ ((e1.same s2).trans e3) D3 .non sz_none
    refine ⟨_, rfl, _, _, rfl, rfl, _, rfl, iteT ?_⟩
    refine ⟨_, rfl, d, l, 4, rfl, by decide, by decide, D1, fun r H2 r0 r1 e2 D2 => ?_⟩
    refine ⟨_, rfl, by omega, by omega, fun L hL => ?_⟩
    have e12 := e1.trans e2
    have LH : H L = none := e12.free D2 hL
    obtain ⟨L1', L2'⟩ := D2.off hL
    refine lc_it (walk_range (lo := 0) (n := r.toNat))
      (fun i H' => But d l H2 H' ∧ Deck kL H' d l ∧ ∃ xs ds, xs.length = i ∧ H' L = some (.lst xs) ∧ DqAll K (newer (upd H2 L (.lst [])) H') xs ds ∧ SzAll (i * (anyB 0 + 1)) (2 * 0 + 2) ds)
      ⟨But.refl.upd hL, D2.upd L1' L2', [], [], rfl, upd_same, .nil, szAll_nil⟩ (fun _ _ _ _ => trivial) ?_ ?_
    · rintro i x _ H' hi ⟨e, D', xs, ds, hn, hN, hd, hs⟩ ⟨rfl, rfl⟩
      have hi4 : i < 4 := by omega
      refine ⟨rfl, ?_⟩
      refine ⟨_, rfl, _, rfl, _, _, rfl, rfl, d, l, rfl, D', fun y dy H4 e4 D4 hy sy => ?_⟩
      have hN4 := e4 _ _ hN L1' L2'
      have fr : ∀ p, H' p = none → (upd H2 L (.lst [])) p = none := fun p z => by
        have pL : p ≠ L := fun w => by
          rw [w, hN] at z
          cases z
        rw [upd_ne pL]
        exact e.free D' z
      have lL : (upd H2 L (.lst [])) L ≠ none := by
        rw [upd_same]
        intro z
        cases z
      refine ⟨xs, hN4, line_le (by omega), (e.trans e4).upd hL, D4.upd L1' L2', xs ++ [y], ds ++ [dy], by rw [List.length_append, hn]; rfl, upd_same, DqAll.app (DqAll.same ?_ _ _ hd) (.cons (Dq.same ?_ _ _ hy) .nil), ?_⟩
      · refine newer_step fun b o h1 h2 => ?_
        have bL : b ≠ L := fun w => lL (w ▸ h1)
        rw [upd_ne bL]
        have hb2 : H2 b = none := by
          rw [upd_ne bL] at h1
          exact h1
        exact e4 b o h2 (fun z => D2.there.1 (z ▸ hb2)) (fun z => D2.there.2 (z ▸ hb2))
      · intro b u z
        obtain ⟨z1, z2⟩ := newer_some z
        have bL : b ≠ L := fun w => by
          rw [w, hN] at z1
          cases z1
        rw [newer_at (fr b z1), upd_ne bL]
        exact z2
      · have := szAll_app hs (szAll_cons sy (szAll_nil (b := 0)))
        refine this.mono ?_ (Nat.le_refl _)
        rw [Nat.succ_mul]
        omega
    rintro H5 ⟨e, D5, xs, ds, hn, hN, hd', hs'⟩
    have e5 := e12.trans e
    have hd : DqAll K (newer H H5) xs ds := by
      refine DqAll.same (newer_mono fun p z => ?_) _ _ hd'
      by_cases pL : p = L
      · rw [pL, upd_same] at z
        cases z
      · rw [upd_ne pL] at z
        exact e12.free D2 z
    have lx : xs.length ≤ 3 := by omega
    have hs : SzAll (3 * (anyB 0 + 1)) (2 * 0 + 2) ds := hs'.mono (Nat.mul_le_mul_right _ (by omega)) (Nat.le_refl _)
    obtain ⟨L1, L2⟩ := (⟨fun z => D.there.1 (z ▸ LH), fun z => D.there.2 (z ▸ LH)⟩ : L ≠ d ∧ L ≠ l)
    have hNL : newer H H5 L = some (.lst xs) := by rw [newer_at LH]; exact hN
    refine ⟨_, rfl, rfl, _, rfl, ?_⟩
    rw [dec_int]
    refine ite2 (fun _ => ?_) (fun _ => ?_)
    · exact ⟨_, rfl, q _ (.list ds) _ e5 D5 (.lst (SqL.of hNL) hd) ((sz_lst hs).mono (by decide) (by decide))⟩
    refine ⟨_, rfl, rfl, _, rfl, ?_⟩
    rw [dec_int]
    refine ite2 (fun _ => ?_) (fun _ => ?_)
    · intro p hp
      have pL : L ≠ p := ne_of_none hN hp
      have hN6 : (upd H5 p (.dK [])) L = some (.lst xs) := (upd_ne pL).trans hN
      refine ⟨_, rfl, _, rfl, L, xs, rfl, .inl (SqL.of hN6), upd_same, [(.inr "key", .ref L), (.inl 1, .int (xs.length : Int))], rfl, Nat.le_of_ble_eq_true rfl, ?_⟩
      rw [merge2, upd_upd]
      have s6 := same_upd (o := .dK [((.inr "key" : Key), V.ref L), (.inl 1, .int (xs.length : Int))]) hp
      have g6 : Same (newer H H5) (newer H (upd H5 p (.dK [((.inr "key" : Key), V.ref L), (.inl 1, .int (xs.length : Int))]))) := newer_step fun b o _ h2 => s6 _ _ h2
      have pH : H p = none := e5.free D5 hp
      refine q _ (.dict [(.str "key", .list ds), (.int 1, .int (xs.length : Int))]) _ (e5.same s6) (D5.same s6) (.dic (by rw [newer_at pH]; exact upd_same) (.cons (k := .inr "key") (.lst (SqL.of (g6 _ _ hNL)) (DqAll.same g6 _ _ hd)) (.cons (k := .inl 1) (.int _) .nil))) ?_
      exact (sz_dict2 (sz_lst hs) (by decide) (by decide) (by have h42 : (10 : Nat) ^ 42 > 10 := by decide
                                                              omega)).mono (by decide) (by decide)
    · refine ⟨_, rfl, L, xs, rfl, .inl ⟨SqL.of hN, fun p hp => ?_⟩⟩
      have s6 := same_upd (o := .tup xs) hp
      have g6 : Same (newer H H5) (newer H (upd H5 p (.tup xs))) := newer_step fun b o _ h2 => s6 _ _ h2
      have pH : H p = none := e5.free D5 hp
      refine q _ (.tuple ds) _ (e5.same s6) (D5.same s6) (.tup (SqT.of (by rw [newer_at pH]; exact upd_same)) (DqAll.same g6 _ _ hd)) ((sz_tup hs).mono (by decide) (by decide))
theorem ok_any2 (T : Txt K mg) : FnOk P w K mg base CX0 (2 + 3) T.a__law_any T.d__law_any P__law_any (spAny K 2) := by
  refine T.F__law_any.ok sc__law_any (fun vs H Q E h => ?_) (fun cdv A outer s H vs Q E hr h => ?_)
  · obtain ⟨d, l, rfl, _⟩ := h
    rfl
  · obtain ⟨d, l, rfl, D, q⟩ := h
    refine ⟨_, 
      (pss_cons (ps_set (i := 2) sc__law_any.nd rfl (Or.inl rfl) (pe_call (ok__law_draw T) (hr.mono (by decide)) rfl T.m__law_draw T.F__law_draw.kp T.b__law_draw .nil pass0 (pa_cons (pv 0) (pa_cons pe_int pa_nil))))
      (pss_cons (ps_if (pt_cmpR op_lt (pv 2) pe_int (nomark _)) (pss_one (ps_ret (pe_call (ok__law_pick T) (hr.mono (by decide)) rfl T.m__law_pick T.F__law_pick.kp T.b__law_pick .nil pass0 (pa_cons (pv 0) (pa_cons (pe_lst (pa_cons pe_int (pa_cons pe_int (pa_cons (pe_un un_neg pe_int) (pa_cons pe_int (pa_cons pe_int (pa_cons pe_int (pa_cons pe_int (pa_cons pe_int (pa_cons (pe_op op_pow pe_int pe_int) (pa_cons (pe_un un_neg (pe_op op_pow pe_int pe_int)) pa_nil))))))))))) pa_nil))))) pss_nil)
      (pss_cons (ps_if (pt_cmpR op_eq (pv 2) pe_int (nomark _)) (pss_one (ps_ret (pe_call (ok__law_pick T) (hr.mono (by decide)) rfl T.m__law_pick T.F__law_pick.kp T.b__law_pick .nil pass0 (pa_cons (pv 0) (pa_cons (pe_lst (pa_cons pe_str (pa_cons pe_str (pa_cons pe_str (pa_cons pe_str (pa_cons pe_str (pa_cons pe_str pa_nil))))))) pa_nil))))) pss_nil)
      (pss_cons (ps_if (pt_cmpR op_eq (pv 2) pe_int (nomark _)) (pss_one (ps_ret (pe_call (ok__law_pick T) (hr.mono (by decide)) rfl T.m__law_pick T.F__law_pick.kp T.b__law_pick .nil pass0 (pa_cons (pv 0) (pa_cons (pe_lst (pa_cons pe_bl (pa_cons pe_bl (pa_cons pe_non pa_nil)))) pa_nil))))) pss_nil)
      (pss_cons (ps_set (i := 3) sc__law_any.nd rfl (Or.inl rfl) (pe_ifExp (pt_cmpR op_gt (pv 1) pe_int (nomark _)) (pe_lc (own := [("_law_turn", 4)]) (g := gName 4) (tt := tYes) rfl sc__law_any.nd (pi_range1 rfl T.m_range (pa_cons (pe_call (ok__law_draw T) (hr.mono (by decide)) rfl T.m__law_draw T.F__law_draw.kp T.b__law_draw .nil pass0 (pa_cons (pv 0) (pa_cons pe_int pa_nil))) pa_nil)) (blkOk_by (own := [("_law_turn", 4)]) (N := N__law_any) (sc := defScope s__law_any) (by decide +kernel)) (fun _ _ _ _ _ => (pg_name (i := 4) sc__law_any.nd rfl (Or.inl rfl))) (fun _ _ _ _ _ => pts_nil) (fun _ _ _ _ _ => (pe_call (ok_any1 T) (hr.mono (by decide)) rfl T.m__law_any T.F__law_any.kp T.b__law_any .nil pass0 (pa_cons (pv 0) (pa_cons (pe_op op_sub (pv 1) pe_int) pa_nil))))) (pe_lst pa_nil)))
      (pss_cons (ps_if (pt_cmpR op_eq (pv 2) pe_int (nomark _)) (pss_one (ps_ret (pv 3))) pss_nil)
      (pss_one (ps_ret (pe_ifExp (pt_cmpR op_eq (pv 2) pe_int (nomark _)) (pe_disp (pps_cons pe_str (pv 3) (pps_cons pe_int (pe_callB call_len_seq (by rfl) T.m_len (by decide +kernel) (pa_cons (pv 3) pa_nil)) pps_nil)) (by rfl) (by rfl) (fun z => by cases z) (by decide)) (pe_callTy call_tuple_of (by rfl) T.m_tuple (by decide +kernel) (pa_cons (pv 3) pa_nil))))))))))), ?_⟩
    refine ⟨_, rfl, d, l, 8, rfl, by decide, by decide, D, fun way H1 w0 w1 e1 D1 => ?_⟩
    refine ⟨_, rfl, _, _, rfl, rfl, _, rfl, ?_⟩
    refine ite2 (fun _ => ?_) (fun _ => ?_)
    · refine ⟨_, rfl, 1, rfl, _, _, rfl, rfl, cp39, _, _, rfl, rfl, cp20, _, rfl, line_s (by decide), fun p hp => ?_⟩
      have s2 := same_upd (o := .lst [.int 0, .int 1, .int (-1), .int 2, .int 3, .int 4, .int 5, .int 7, .int ((10 : Int) ^ (39 : Int).toNat), .int (-((10 : Int) ^ (20 : Int).toNat))]) hp
      have D2 := D1.same s2
      refine ⟨d, l, p, [.int 0, .int 1, .int (-1), .int 2, .int 3, .int 4, .int 5, .int 7, .int ((10 : Int) ^ (39 : Int).toNat), .int (-((10 : Int) ^ (20 : Int).toNat))], rfl, .inr (SqL.of (D1.at_new hp)), by simp, by decide, D2, fun x H3 hx e3 D3 => ?_⟩
      obtain ⟨c, rfl, hc⟩ : ∃ c : Int, x = .int c ∧ c.natAbs < 10 ^ 42 := by
        simp only [List.mem_cons, List.not_mem_nil, or_false] at hx
        rcases hx with rfl | rfl | rfl | rfl | rfl | rfl | rfl | rfl | rfl | rfl <;> exact ⟨_, rfl, by decide⟩
      exact q _ (.int c) _ ((e1.same s2).trans e3) D3 (.int c) (sz_int hc)
    refine ⟨_, rfl, rfl, _, rfl, ?_⟩
    rw [dec_int]
    refine ite2 (fun _ => ?_) (fun _ => ?_)
    · refine ⟨_, rfl, line_s (by decide), fun p hp => ?_⟩
      have s2 := same_upd (o := .lst [.str "", .str "2", .str "a", .str "(0, 1)", .str "1 0 1", .str "~"]) hp
      have D2 := D1.same s2
      refine ⟨d, l, p, [.str "", .str "2", .str "a", .str "(0, 1)", .str "1 0 1", .str "~"], rfl, .inr (SqL.of (D1.at_new hp)), by simp, by decide, D2, fun x H3 hx e3 D3 => ?_⟩
      obtain ⟨c, rfl, hc⟩ : ∃ c : String, x = .str (Str.ofString c) ∧ c.length ≤ 20 := by
        simp only [List.mem_cons, List.not_mem_nil, or_false] at hx
        rcases hx with rfl | rfl | rfl | rfl | rfl | rfl <;> exact ⟨_, rfl, by decide⟩
      exact q _ (.str _) _ ((e1.same s2).trans e3) D3 (.str _) ((sz_text (k := 0) hc).mono (by decide) (by decide))
    refine ⟨_, rfl, rfl, _, rfl, ?_⟩
    rw [dec_int]
    refine ite2 (fun _ => ?_) (fun _ => ?_)
    · refine ⟨_, rfl, line_s (by decide), fun p hp => ?_⟩
      have s2 := same_upd (o := .lst [.bl true, .bl false, .non]) hp
      have D2 := D1.same s2
      refine ⟨d, l, p, [.bl true, .bl false, .non], rfl, .inr (SqL.of (D1.at_new hp)), by simp, by decide, D2, fun x H3 hx e3 D3 => ?_⟩
      simp only [List.mem_cons, List.not_mem_nil, or_false] at hx
      rcases hx with rfl | rfl | rfl
      · exact q _ (.bool true) _ ((e1.same s2).trans e3) D3 (.bl _) sz_bool
      · exact q _ (.bool false) _ ((e1.same s2).trans e3) D3 (.bl _) sz_bool
      · exact q _ .none _ ((e1.same s2).trans e3) D3 .non sz_none
    refine ⟨_, rfl, _, _, rfl, rfl, _, rfl, iteT ?_⟩
    refine ⟨_, rfl, d, l, 4, rfl, by decide, by decide, D1, fun r H2 r0 r1 e2 D2 => ?_⟩
    refine ⟨_, rfl, by omega, by omega, fun L hL => ?_⟩
    have e12 := e1.trans e2
    have LH : H L = none := e12.free D2 hL
    obtain ⟨L1', L2'⟩ := D2.off hL
    refine lc_it (walk_range (lo := 0) (n := r.toNat))
      (fun i H' => But d l H2 H' ∧ Deck kL H' d l ∧ ∃ xs ds, xs.length = i ∧ H' L = some (.lst xs) ∧ DqAll K (newer (upd H2 L (.lst [])) H') xs ds ∧ SzAll (i * (anyB 1 + 1)) (2 * 1 + 2) ds)
      ⟨But.refl.upd hL, D2.upd L1' L2', [], [], rfl, upd_same, .nil, szAll_nil⟩ (fun _ _ _ _ => trivial) ?_ ?_
    · rintro i x _ H' hi ⟨e, D', xs, ds, hn, hN, hd, hs⟩ ⟨rfl, rfl⟩
      have hi4 : i < 4 := by omega
      refine ⟨rfl, ?_⟩
      refine ⟨_, rfl, _, rfl, _, _, rfl, rfl, d, l, rfl, D', fun y dy H4 e4 D4 hy sy => ?_⟩
      have hN4 := e4 _ _ hN L1' L2'
      have fr : ∀ p, H' p = none → (upd H2 L (.lst [])) p = none := fun p z => by
        have pL : p ≠ L := fun w => by
          rw [w, hN] at z
          cases z
        rw [upd_ne pL]
        exact e.free D' z
      have lL : (upd H2 L (.lst [])) L ≠ none := by
        rw [upd_same]
        intro z
        cases z
      refine ⟨xs, hN4, line_le (by omega), (e.trans e4).upd hL, D4.upd L1' L2', xs ++ [y], ds ++ [dy], by rw [List.length_append, hn]; rfl, upd_same, DqAll.app (DqAll.same ?_ _ _ hd) (.cons (Dq.same ?_ _ _ hy) .nil), ?_⟩
      · refine newer_step fun b o h1 h2 => ?_
        have bL : b ≠ L := fun w => lL (w ▸ h1)
        rw [upd_ne bL]
        have hb2 : H2 b = none := by
          rw [upd_ne bL] at h1
          exact h1
        exact e4 b o h2 (fun z => D2.there.1 (z ▸ hb2)) (fun z => D2.there.2 (z ▸ hb2))
      · intro b u z
        obtain ⟨z1, z2⟩ := newer_some z
        have bL : b ≠ L := fun w => by
          rw [w, hN] at z1
          cases z1
        rw [newer_at (fr b z1), upd_ne bL]
        exact z2
      · have := szAll_app hs (szAll_cons sy (szAll_nil (b := 0)))
        refine this.mono ?_ (Nat.le_refl _)
        rw [Nat.succ_mul]
        omega
    rintro H5 ⟨e, D5, xs, ds, hn, hN, hd', hs'⟩
    have e5 := e12.trans e
    have hd : DqAll K (newer H H5) xs ds := by
      refine DqAll.same (newer_mono fun p z => ?_) _ _ hd'
      by_cases pL : p = L
      · rw [pL, upd_same] at z
        cases z
      · rw [upd_ne pL] at z
        exact e12.free D2 z
    have lx : xs.length ≤ 3 := by omega
    have hs : SzAll (3 * (anyB 1 + 1)) (2 * 1 + 2) ds := hs'.mono (Nat.mul_le_mul_right _ (by omega)) (Nat.le_refl _)
    obtain ⟨L1, L2⟩ := (⟨fun z => D.there.1 (z ▸ LH), fun z => D.there.2 (z ▸ LH)⟩ : L ≠ d ∧ L ≠ l)
    have hNL : newer H H5 L = some (.lst xs) := by rw [newer_at LH]; exact hN
    refine ⟨_, rfl, rfl, _, rfl, ?_⟩
    rw [dec_int]
    refine ite2 (fun _ => ?_) (fun _ => ?_)
    · exact ⟨_, rfl, q _ (.list ds) _ e5 D5 (.lst (SqL.of hNL) hd) ((sz_lst hs).mono (by decide) (by decide))⟩
    refine ⟨_, rfl, rfl, _, rfl, ?_⟩
    rw [dec_int]
    refine ite2 (fun _ => ?_) (fun _ => ?_)
    · intro p hp
      have pL : L ≠ p := ne_of_none hN hp
      have hN6 : (upd H5 p (.dK [])) L = some (.lst xs) := (upd_ne pL).trans hN
      refine ⟨_, rfl, _, rfl, L, xs, rfl, .inl (SqL.of hN6), upd_same, [(.inr "key", .ref L), (.inl 1, .int (xs.length : Int))], rfl, Nat.le_of_ble_eq_true rfl, ?_⟩
      rw [merge2, upd_upd]
      have s6 := same_upd (o := .dK [((.inr "key" : Key), V.ref L), (.inl 1, .int (xs.length : Int))]) hp
      have g6 : Same (newer H H5) (newer H (upd H5 p (.dK [((.inr "key" : Key), V.ref L), (.inl 1, .int (xs.length : Int))]))) := newer_step fun b o _ h2 => s6 _ _ h2
      have pH : H p = none := e5.free D5 hp
      refine q _ (.dict [(.str "key", .list ds), (.int 1, .int (xs.length : Int))]) _ (e5.same s6) (D5.same s6) (.dic (by rw [newer_at pH]; exact upd_same) (.cons (k := .inr "key") (.lst (SqL.of (g6 _ _ hNL)) (DqAll.same g6 _ _ hd)) (.cons (k := .inl 1) (.int _) .nil))) ?_
      exact (sz_dict2 (sz_lst hs) (by decide) (by decide) (by have h42 : (10 : Nat) ^ 42 > 10 := by decide
                                                              omega)).mono (by decide) (by decide)
    · refine ⟨_, rfl, L, xs, rfl, .inl ⟨SqL.of hN, fun p hp => ?_⟩⟩
      have s6 := same_upd (o := .tup xs) hp
      have g6 : Same (newer H H5) (newer H (upd H5 p (.tup xs))) := newer_step fun b o _ h2 => s6 _ _ h2
      have pH : H p = none := e5.free D5 hp
      refine q _ (.tuple ds) _ (e5.same s6) (D5.same s6) (.tup (SqT.of (by rw [newer_at pH]; exact upd_same)) (DqAll.same g6 _ _ hd)) ((sz_tup hs).mono (by decide) (by decide))
end
end K05
end
section
set_option maxRecDepth 100000
set_option maxHeartbeats 4000000
namespace K05
open PySem PySem.Spec PyProof.Rows L2 MB
open LamX hiding takes0
def wby (q a b : Int) : Int := if q = 4 then (if inV (.int 0) [.int a, .int b] = true then 0 else 1 + (a + b - 2) % 3) else (a * b).fmod q
theorem letsN {q : Int} (h : LetQ q) : ∃ n : Nat, q = (n : Int) ∧ 2 ≤ n ∧ n < 6 := ⟨q.toNat, by have := h.lo; omega, by have := h.lo; omega, by have := h.hi; omega⟩
theorem letN {n : Nat} {a : Int} (h : IsLet (n : Int) a) : ∃ m : Nat, a = (m : Int) ∧ m < n := ⟨a.toNat, by have := h.1; omega, by have := h.1; have := h.2; omega⟩
theorem by_eq {q a b : Int} (hq : LetQ q) (ha : IsLet q a) (hb : IsLet q b) : wby q a b = ltim q a b := by
  obtain ⟨n, rfl, n2, n6⟩ := letsN hq
  obtain ⟨x, rfl, hx⟩ := letN ha
  obtain ⟨y, rfl, hy⟩ := letN hb
  have all : ∀ n : Nat, n < 6 → ∀ x : Nat, x < n → ∀ y : Nat, y < n → 2 ≤ n → wby (n : Int) (x : Int) (y : Int) = ltim (n : Int) (x : Int) (y : Int) := by decide +kernel
  exact all n n6 x hx y hy n2
section
variable {w : World} {K : PySem.W.Frag} {mg : Str → Option Value} {base : Heap}
def spLtr (K : PySem.W.Frag) : Sp := fun vs H Q _ => ∃ (q : Int) (v : V) (o : Option Int), vs = [.int q, v] ∧ IntQ K H v o ∧ Q (.bl (inFrom 0 (q - 1) o)) H
theorem ok__law_is_letter (T : Txt K mg) : FnOk P w K mg base CX0 1 T.a__law_is_letter T.d__law_is_letter P__law_is_letter (spLtr K) := by
  refine T.F__law_is_letter.ok sc__law_is_letter (fun vs H Q E h => ?_) (fun cdv A outer s H vs Q E hr h => ?_)
  · obtain ⟨q, v, o, rfl, _⟩ := h
    rfl
  · obtain ⟨q, v, o, rfl, hv, k⟩ := h
    refine ⟨_, 
      (pss_one (ps_ret (pe_and (pe_callB (id := "isinstance") (r := rIsi K) call_isi (by rfl) T.m_isinstance (by decide +kernel) (pa_cons (pv 1) (pa_cons (pe_bltn (by rfl) T.m_int (v := .ty "int") (by decide +kernel) rfl) pa_nil))) (pe_and (pe_not (pe_callB (id := "isinstance") (r := rIsi K) call_isi (by rfl) T.m_isinstance (by decide +kernel) (pa_cons (pv 1) (pa_cons (pe_bltn (by rfl) T.m_bool (v := .ty "bool") (by decide +kernel) rfl) pa_nil)))) (pe_one (pe_chain op_le op_lt pe_int (pv 1) (pv 0))))))), ?_⟩
    cases o with
    | none =>
      rcases hv with ⟨b, rfl⟩ | ⟨t, ht, hk⟩
      · refine ⟨_, rfl, _, _, _, _, _, rfl, .ty "int", .base (.bl b), kit_ty (r := true) (by decide +kernel), true, rfl, iteT ?_⟩
        exact ⟨_, rfl, _, _, _, _, _, rfl, .ty "bool", .base (.bl b), kit_ty (r := true) (by decide +kernel), true, rfl, false, rfl, iteF k⟩
      · exact ⟨_, rfl, _, _, _, _, _, rfl, .ty "int", ht, hk, false, rfl, iteF k⟩
    | some i =>
      obtain rfl : v = .int i := hv
      have k' : Q (.bl (decide (0 ≤ i) && decide (i ≤ q - 1))) H := k
      refine ⟨_, rfl, _, _, _, _, _, rfl, .ty "int", .base (.int i), kit_ty (r := true) (by decide +kernel), true, rfl, iteT ?_⟩
      refine ⟨_, rfl, _, _, _, _, _, rfl, .ty "bool", .base (.int i), kit_ty (r := false) (by decide +kernel), false, rfl, true, rfl, iteT ?_⟩
      refine ⟨_, rfl, _, _, rfl, rfl, decide (0 ≤ i), rfl, ?_⟩
      by_cases c : 0 ≤ i
      · rw [decide_eq_true c] at k' ⊢
        have e : decide (i ≤ q - 1) = decide (i < q) := by
          by_cases z : i < q
          · rw [decide_eq_true z, decide_eq_true (by omega)]
          · rw [decide_eq_false z, decide_eq_false (by omega)]
        rw [e] at k'
        exact iteT ⟨_, rfl, _, _, rfl, rfl, k'⟩
      · rw [decide_eq_false c] at k' ⊢
        exact iteF k'
def spWby (K : PySem.W.Frag) : Sp := fun vs H Q _ => ∃ q a b : Int, vs = [.int q, .int a, .int b] ∧ LetQ q ∧ IsLet q a ∧ IsLet q b ∧ ∀ H', Same H H' → Q (.int (wby q a b)) H'
theorem ok__law_by (T : Txt K mg) : FnOk P w K mg base CX0 1 T.a__law_by T.d__law_by P__law_by (spWby K) := by
  refine T.F__law_by.ok sc__law_by (fun vs H Q E h => ?_) (fun cdv A outer s H vs Q E hr h => ?_)
  · obtain ⟨q, a, b, rfl, _⟩ := h
    rfl
  · obtain ⟨q, a, b, rfl, ⟨q2, q5⟩, ⟨a0, a1⟩, ⟨b0, b1⟩, k⟩ := h
    refine ⟨_, 
      (pss_cons (ps_if (pt_cmpR op_ne (pv 0) pe_int (nomark _)) (pss_one (ps_ret (pe_op op_modN (pe_callTy call_int1 (by rfl) T.m_int (by decide +kernel) (pa_cons (pe_op op_mulW (pv 1) (pv 2)) pa_nil)) (pv 0)))) pss_nil)
      (pss_one (ps_ret (pe_ifExp (pt_cmpR (op_in_seq) pe_int (pe_tup (pa_cons (pv 1) (pa_cons (pv 2) pa_nil))) rfl) pe_int (pe_op op_add pe_int (pe_op op_mod (pe_callTy call_int1 (by rfl) T.m_int (by decide +kernel) (pa_cons (pe_op op_sub (pe_op op_add (pv 1) (pv 2)) pe_int) pa_nil)) pe_int)))))), ?_⟩
    refine ⟨_, rfl, rfl, _, rfl, ?_⟩
    rw [dec_int]
    unfold wby at k
    by_cases e : q = 4
    · rw [decide_eq_true e]
      rw [if_pos e] at k
      refine iteF ?_
      refine ⟨_, rfl, _, rfl, line_s (Nat.le_of_ble_eq_true rfl), fun p hp => ?_⟩
      refine ⟨p, [.int a, .int b], rfl, .inr (SqT.of upd_same), rfl, rfl, ?_⟩
      have z := k _ (same_upd (o := .tup [.int a, .int b]) hp)
      refine ⟨_, rfl, ?_⟩
      refine ite2 (fun c => ?_) (fun c => ?_)
      · rw [if_pos (show inV (.int 0) [.int a, .int b] = true from c)] at z
        exact z
      · rw [if_neg (show ¬ inV (.int 0) [.int a, .int b] = true from c)] at z
        refine ⟨_, rfl, _, rfl, _, _, rfl, rfl, _, _, rfl, rfl, .inl ⟨_, rfl, ?_⟩⟩
        exact ⟨_, _, rfl, rfl, (by decide : (0 : Int) < 3), _, _, rfl, rfl, z⟩
    · rw [decide_eq_false e]
      rw [if_neg e] at k
      refine iteT ?_
      refine ⟨_, rfl, _, rfl, _, _, rfl, rfl, wide_mul (a := 3) (b := 3) (by omega) (by omega) (by decide) (by decide) (by decide), .inl ⟨_, rfl, ?_⟩⟩
      exact ⟨_, rfl, _, _, rfl, rfl, (by omega : q ≠ 0), k H (Same.refl _)⟩
def spIsW (K : PySem.W.Frag) : Sp := fun vs H Q _ => ∃ (q : Int) (v : V) (o : Option (List (Option Int))), vs = [.int q, v] ∧ Lev K H v o ∧ ∀ H', Same H H' → Q (.bl (wordO q o)) H'
theorem ok__law_is_word (T : Txt K mg) : FnOk P w K mg base CX0 2 T.a__law_is_word T.d__law_is_word P__law_is_word (spIsW K) := by
  refine T.F__law_is_word.ok sc__law_is_word (fun vs H Q E h => ?_) (fun cdv A outer s H vs Q E hr h => ?_)
  · obtain ⟨q, v, o, rfl, _⟩ := h
    rfl
  · obtain ⟨q, v, o, rfl, hv, k⟩ := h
    refine ⟨_, 
      (pss_one (ps_ret (pe_and (pe_callB (id := "isinstance") (r := rIsi K) call_isi (by rfl) T.m_isinstance (by decide +kernel) (pa_cons (pv 1) (pa_cons (pe_bltn (by rfl) T.m_tuple (v := .ty "tuple") (by decide +kernel) rfl) pa_nil))) (pe_one (pe_cmpR (op_eqNil hr.units) (pe_lc (own := [("_law_x", 2)]) (g := gName 2)  rfl sc__law_is_word.nd (pi_tup (pv 1)) (blkOk_by (own := [("_law_x", 2)]) (N := N__law_is_word) (sc := defScope s__law_is_word) (by decide +kernel)) (fun _ _ _ _ _ => (pg_name (i := 2) sc__law_is_word.nd rfl (Or.inl rfl))) (fun _ _ _ _ _ => (pts_one (pt_not (pt_val (pe_call (ok__law_is_letter T) (hr.mono (by decide)) rfl T.m__law_is_letter T.F__law_is_letter.kp T.b__law_is_letter .nil pass0 (pa_cons (pv 0) (pa_cons (pv 2) pa_nil))))))) (fun _ _ _ _ _ => (pv 2))) (pe_lst pa_nil) (nomark _)))))), ?_⟩
    cases o with
    | none =>
      obtain ⟨t, ht, hk⟩ := hv
      refine ⟨_, rfl, _, _, _, _, _, rfl, .ty "tuple", ht, hk, false, rfl, ?_⟩
      exact iteF (k H (Same.refl _))
    | some os =>
      obtain ⟨xs, ⟨a, rfl, ha⟩, hp, hl⟩ := hv
      refine ⟨_, rfl, _, _, _, _, _, rfl, .ty "tuple", tyx_tup ha, kit_ty (r := true) (by decide +kernel), true, rfl, ?_⟩
      refine iteT ?_
      refine ⟨_, rfl, a, rfl, ⟨_, ha⟩, fun D hD => lc_it (walk_tup (K := K) (a := a) (xs := xs))
        (fun i H' => Same H H' ∧ ∃ acc, H' D = some (.lst acc) ∧ acc.isEmpty = (os.take i).all (inFrom 0 (q - 1)) ∧ acc.length ≤ i) ⟨same_upd hD, [], upd_same, rfl, Nat.le_refl _⟩ (fun i H' _ ⟨e, _⟩ => e.tup ha) ?_ ?_⟩
      · rintro i x _ H' hi ⟨e, acc, hN, em, la⟩ ⟨rfl, hx⟩
        obtain ⟨y, hy, r⟩ := paired_at hp hx
        refine ⟨rfl, ?_⟩
        refine ⟨_, rfl, _, rfl, q, x, y, rfl, r.same e, _, rfl, ?_⟩
        have nx : (os.take (i + 1)).all (inFrom 0 (q - 1)) = (acc.isEmpty && inFrom 0 (q - 1) y) := by
          rw [List.take_add_one, hy, List.all_append, em]
          simp
        rcases Bool.eq_false_or_eq_true (inFrom 0 (q - 1) y) with ey | ey
        · rw [ey]
          refine iteF ⟨e, acc, hN, ?_, by omega⟩
          rw [nx, ey, Bool.and_true]
        · rw [ey]
          refine iteT ⟨_, rfl, acc, hN, line_le (by omega), same_set hD e, acc ++ [x], upd_same, ?_, by rw [List.length_append]; simp; omega⟩
          rw [nx, ey, Bool.and_false]
          cases acc <;> rfl
      · rintro H' ⟨e, acc, hN, em, la⟩
        refine ⟨line_s (Nat.le_of_ble_eq_true rfl), fun p hp2 => ⟨D, p, acc, rfl, rfl, SqL.of (same_upd hp2 _ _ hN), SqL.of upd_same, ?_⟩⟩
        rw [em]
        have z := k _ (e.trans (same_upd (o := .lst []) hp2))
        have e2 : (os.take xs.length).all (inFrom 0 (q - 1)) = wordO q (some os) := by
          rw [← hp.length.symm, List.take_length]
          rfl
        rw [e2]
        exact z
def spPlus (K : PySem.W.Frag) : Sp := fun vs H Q _ => ∃ (q : Int) (u v : V) (ns ms : List Int), vs = [.int q, u, v] ∧ LetQ q ∧ TI K H u ns ∧ TI K H v ms ∧ ns.length ≤ 1000 ∧
  ∀ z H', Same H H' → TI K H' z (List.zipWith (lsum q) ns ms) → Q z H'
theorem ok__law_plus (T : Txt K mg) : FnOk P w K mg base CX0 1 T.a__law_plus T.d__law_plus P__law_plus (spPlus K) := by
  refine T.F__law_plus.ok sc__law_plus (fun vs H Q E h => ?_) (fun cdv A outer s H vs Q E hr h => ?_)
  · obtain ⟨q, u, v, ns, ms, rfl, _⟩ := h
    rfl
  · obtain ⟨q, _, _, ns, ms, rfl, hq, ⟨a, rfl, ha⟩, ⟨b, rfl, hb⟩, hl, k⟩ := h
    refine ⟨_, 
      (pss_cons (ps_if (pt_cmpR op_eq (pv 0) pe_int (nomark _)) (pss_one (ps_ret (pe_callTy call_tuple_of (by rfl) T.m_tuple (by decide +kernel) (pa_cons (pe_lc (own := [("_law_x", 3), ("_law_y", 4)]) (g := gTup K 2 (gCons (gName 3) (gCons (gName 4) gNil))) (tt := tYes) rfl sc__law_plus.nd (RZ.pi_zipA (by rfl) T.m_zip (pa_cons (pv 1) (pa_cons (pv 2) pa_nil))) (blkOk_by (own := [("_law_x", 3), ("_law_y", 4)]) (N := N__law_plus) (sc := defScope s__law_plus) (by decide +kernel)) (fun _ _ _ _ _ => (pg_tup rfl (pgs_cons (pg_name (i := 3) sc__law_plus.nd rfl (Or.inl rfl)) (pgs_cons (pg_name (i := 4) sc__law_plus.nd rfl (Or.inl rfl)) pgs_nil)))) (fun _ _ _ _ _ => pts_nil) (fun _ _ _ _ _ => (pe_op op_xor (pv 3) (pv 4)))) pa_nil)))) pss_nil)
      (pss_one (ps_ret (pe_callTy call_tuple_of (by rfl) T.m_tuple (by decide +kernel) (pa_cons (pe_lc (own := [("_law_x", 3), ("_law_y", 4)]) (g := gTup K 2 (gCons (gName 3) (gCons (gName 4) gNil))) (tt := tYes) rfl sc__law_plus.nd (RZ.pi_zipA (by rfl) T.m_zip (pa_cons (pv 1) (pa_cons (pv 2) pa_nil))) (blkOk_by (own := [("_law_x", 3), ("_law_y", 4)]) (N := N__law_plus) (sc := defScope s__law_plus) (by decide +kernel)) (fun _ _ _ _ _ => (pg_tup rfl (pgs_cons (pg_name (i := 3) sc__law_plus.nd rfl (Or.inl rfl)) (pgs_cons (pg_name (i := 4) sc__law_plus.nd rfl (Or.inl rfl)) pgs_nil)))) (fun _ _ _ _ _ => pts_nil) (fun _ _ _ _ _ => (pe_op op_modN (pe_callTy call_int1 (by rfl) T.m_int (by decide +kernel) (pa_cons (pe_op op_add (pv 3) (pv 4)) pa_nil)) (pv 0)))) pa_nil))))), ?_⟩
    have q2 := hq.lo
    refine ⟨_, rfl, rfl, _, rfl, ?_⟩
    rw [dec_int]
    by_cases e4 : q = 4
    · rw [decide_eq_true e4]
      refine iteT ?_
      refine ⟨_, rfl, _, rfl, a, b, _, _, rfl, .inr ⟨ha, hb, ?_⟩⟩
      refine fun D hD => lc_it (walk_zipT (K := K) (a := a) (b := b) (xs := ns.map V.int) (ys := ms.map V.int) rfl)
        (fun i H' => Same H H' ∧ H' D = some (.lst (((List.zipWith (lsum q) ns ms).take i).map V.int)))
        ⟨same_upd hD, by rw [upd_same]; simp⟩ (fun i H' _ ⟨e, _⟩ => ⟨e.tup ha, e.tup hb⟩) ?_ ?_
      · rintro i v H' H'' hi ⟨e, hacc⟩ ⟨T0, x, y, rfl, hT0, rfl, hx, hy⟩
        obtain ⟨c, hc, rfl⟩ := int_at hx
        obtain ⟨d, hd, rfl⟩ := int_at hy
        have hiL : i < ns.length := (List.getElem?_eq_some_iff.mp hc).1
        refine ⟨T0, _, rfl, SqT.of upd_same, rfl, _, _, rfl, _, _, rfl, rfl, rfl, ?_⟩
        refine ⟨_, rfl, _, rfl, _, _, rfl, rfl, _, (upd_ne (ne_of_none hacc hT0)).trans hacc, ?_, ?_, ?_⟩
        · rw [List.length_map, List.length_take]
          exact line_le (by omega)
        · exact same_set hD (e.trans (same_upd hT0))
        · rw [upd_same, List.take_add_one, List.getElem?_zipWith, hc, hd]
          have : lsum q c d = Builtin.bitXor c d := if_pos e4
          simp [this]
      · rintro H' ⟨e, hacc⟩
        rw [List.length_map, List.length_map, List.take_of_length_le (by rw [List.length_zipWith]; exact Nat.le_refl _)] at hacc
        refine ⟨D, _, rfl, .inl ⟨SqL.of hacc, fun p8 hp8 => ?_⟩⟩
        exact k _ _ (e.trans (same_upd hp8)) ⟨p8, rfl, SqT.of upd_same⟩
    · rw [decide_eq_false e4]
      refine iteF ?_
      refine ⟨_, rfl, _, rfl, a, b, _, _, rfl, .inr ⟨ha, hb, ?_⟩⟩
      refine fun D hD => lc_it (walk_zipT (K := K) (a := a) (b := b) (xs := ns.map V.int) (ys := ms.map V.int) rfl)
        (fun i H' => Same H H' ∧ H' D = some (.lst (((List.zipWith (lsum q) ns ms).take i).map V.int)))
        ⟨same_upd hD, by rw [upd_same]; simp⟩ (fun i H' _ ⟨e, _⟩ => ⟨e.tup ha, e.tup hb⟩) ?_ ?_
      · rintro i v H' H'' hi ⟨e, hacc⟩ ⟨T0, x, y, rfl, hT0, rfl, hx, hy⟩
        obtain ⟨c, hc, rfl⟩ := int_at hx
        obtain ⟨d, hd, rfl⟩ := int_at hy
        have hiL : i < ns.length := (List.getElem?_eq_some_iff.mp hc).1
        refine ⟨T0, _, rfl, SqT.of upd_same, rfl, _, _, rfl, _, _, rfl, rfl, rfl, ?_⟩
        refine ⟨_, rfl, _, rfl, _, _, rfl, rfl, .inl ⟨_, rfl, ?_⟩⟩
        refine ⟨_, rfl, _, _, rfl, rfl, (by omega : q ≠ 0), _, (upd_ne (ne_of_none hacc hT0)).trans hacc, ?_, ?_, ?_⟩
        · rw [List.length_map, List.length_take]
          exact line_le (by omega)
        · exact same_set hD (e.trans (same_upd hT0))
        · rw [upd_same, List.take_add_one, List.getElem?_zipWith, hc, hd]
          have : lsum q c d = (c + d).fmod q := if_neg e4
          simp [this]
      · rintro H' ⟨e, hacc⟩
        rw [List.length_map, List.length_map, List.take_of_length_le (by rw [List.length_zipWith]; exact Nat.le_refl _)] at hacc
        refine ⟨D, _, rfl, .inl ⟨SqL.of hacc, fun p8 hp8 => ?_⟩⟩
        exact k _ _ (e.trans (same_upd hp8)) ⟨p8, rfl, SqT.of upd_same⟩
def spWP (K : PySem.W.Frag) : Sp := fun vs H Q _ => ∃ (q : Int) (u v : V) (ns ms : List Int), vs = [.int q, u, v] ∧ LetQ q ∧ TI K H u ns ∧ TI K H v ms ∧ IsRow q ns ∧ IsRow q ms ∧ ns.length ≤ 1000 ∧ ∀ H', Same H H' → Q (.int (rowP q ns ms)) H'
theorem ok__law_product (T : Txt K mg) : FnOk P w K mg base CX0 2 T.a__law_product T.d__law_product P__law_product (spWP K) := by
  refine T.F__law_product.ok sc__law_product (fun vs H Q E h => ?_) (fun cdv A outer s H vs Q E hr h => ?_)
  · obtain ⟨q, u, v, ns, ms, rfl, _⟩ := h
    rfl
  · obtain ⟨q, _, _, ns, ms, rfl, hq, ⟨a, rfl, ha⟩, ⟨b, rfl, hb⟩, r1, r2, hl, k⟩ := h
    refine ⟨_, 
      (pss_cons (ps_set (i := 3) sc__law_product.nd rfl (Or.inl rfl) (pe_tup (pa_cons pe_int pa_nil)))
      (pss_cons (ps_for PassesOwn.never rfl (RZ.pi_zipA (by rfl) T.m_zip (pa_cons (pv 1) (pa_cons (pv 2) pa_nil))) (pg_tup rfl (pgs_cons (pg_name (i := 4) sc__law_product.nd rfl (Or.inl rfl)) (pgs_cons (pg_name (i := 5) sc__law_product.nd rfl (Or.inl rfl)) pgs_nil))) (pss_one (ps_set (i := 3) sc__law_product.nd rfl (Or.inl rfl) (pe_call (ok__law_plus T) (hr.mono (by decide)) rfl T.m__law_plus T.F__law_plus.kp T.b__law_plus .nil pass0 (pa_cons (pv 0) (pa_cons (pv 3) (pa_cons (pe_tup (pa_cons (pe_call (ok__law_by T) (hr.mono (by decide)) rfl T.m__law_by T.F__law_by.kp T.b__law_by .nil pass0 (pa_cons (pv 0) (pa_cons (pv 4) (pa_cons (pv 5) pa_nil)))) pa_nil)) pa_nil)))))))
      (pss_one (ps_ret (pe_ix (r := rIxT K) ix_tup (pv 3) pe_int (fun _ _ => rfl)))))), ?_⟩
    refine ⟨line_s (by decide), fun p0 hp0 => ?_⟩
    refine ⟨_, rfl, _, rfl, a, b, _, _, rfl, .inr ⟨sqT_same (same_upd hp0) ha, sqT_same (same_upd hp0) hb, ?_⟩⟩
    refine for_it (walk_zipT (K := K) (a := a) (b := b) (xs := ns.map V.int) (ys := ms.map V.int) rfl)
      (fun i σ H' => ∃ f u4 u5, σ = [some (.int q), some (.ref a), some (.ref b), some (.ref f), u4, u5] ∧ Same H H' ∧ SqT K H' f [.int (((ns.zip ms).take i).foldl (fun t p => lsum q t (ltim q p.1 p.2)) 0)])
      ⟨p0, none, none, rfl, same_upd hp0, SqT.of upd_same⟩ (fun i σ H' _ ⟨_, _, _, _, e, _⟩ => ⟨e.tup ha, e.tup hb⟩) ?_ ?_
    · rintro i x _ H' H'' hi ⟨f, u4, u5, rfl, e, hf⟩ ⟨T0, x1, y1, rfl, hT0, rfl, hx, hy⟩
      obtain ⟨c, hc, rfl⟩ := int_at hx
      obtain ⟨d, hd, rfl⟩ := int_at hy
      have lc := r1 c (List.mem_of_getElem? hc)
      have ld := r2 d (List.mem_of_getElem? hd)
      refine ⟨T0, _, rfl, SqT.of upd_same, rfl, _, _, rfl, _, _, rfl, rfl, ?_⟩
      have s1 := same_upd (o := .tup [.int c, .int d]) hT0
      refine ⟨_, rfl, _, rfl, _, rfl, _, rfl, _, rfl, q, c, d, rfl, hq, lc, ld, fun H3 s3 => ⟨line_s (Nat.le_of_ble_eq_true rfl), fun p hp => ?_⟩⟩
      have s13 := (s1.trans s3).trans (same_upd (o := .tup [.int (wby q c d)]) hp)
      refine ⟨q, _, _, [_], [wby q c d], rfl, hq, ⟨f, rfl, sqT_same s13 hf⟩, ⟨p, rfl, SqT.of upd_same⟩, by simp, fun z H4 s4 hz => ?_⟩
      obtain ⟨g, rfl, hg⟩ := hz
      refine ⟨g, some (.int c), some (.int d), rfl, e.trans (s13.trans s4), ?_⟩
      rw [zip_next hc hd, List.foldl_append]
      rw [by_eq hq lc ld] at hg
      exact hg
    · rintro _ H' ⟨f, u4, u5, rfl, e, hf⟩
      have z := k H' e
      unfold rowP at z
      rw [List.take_of_length_le (by rw [List.length_map, List.length_map, List.length_zip]; exact Nat.le_refl _)] at hf
      exact ⟨_, rfl, f, _, 0, _, rfl, rfl, hf, atI_nat (j := 0) rfl, z⟩
end
end K05
end
section
set_option maxRecDepth 100000
set_option maxHeartbeats 4000000
namespace K05
open PySem PySem.Spec PyProof.Rows L2 MB
open LamX hiding takes0
def lenD (d : PyData) : Nat := ((asInts d).getD []).length
def wrD (dq dl d1 d2 : PyData) : Option PyData :=
  if inFrom 2 5 (asInt dq) = false then some (.tuple [.str "field", dq]) else
  if inFrom 0 ((asInt dq).getD 0 - 1) (asInt dl) = false then some (.tuple [.str "letter", dl]) else
  if wordO ((asInt dq).getD 0) (asInts d1) = false then some (.tuple [.str "word", d1]) else
  if wordO ((asInt dq).getD 0) (asInts d2) = false then some (.tuple [.str "word", d2]) else
  if lenD d1 ≠ lenD d2 then some (.tuple [.str "word", d2]) else none
theorem dq_some {K : PySem.W.Frag} {H : Hp} {v : V} {d : PyData} {i : Int} (h : Dq K H v d) (e : asInt d = some i) : v = .int i ∧ d = .int i := by
  cases h with
  | int j =>
    obtain rfl : j = i := Option.some.inj e
    exact ⟨rfl, rfl⟩
  | _ => cases e
theorem from_let {q a : Int} (h : IsLet q a) : inFrom 0 (q - 1) (some a) = true := by
  show (decide ((0 : Int) ≤ a) && decide (a ≤ q - 1)) = true
  rw [decide_eq_true h.1, decide_eq_true (by have := h.2; omega)]
  rfl
theorem from_fld {q : Int} (h : LetQ q) : inFrom 2 5 (some q) = true := by
  show (decide ((2 : Int) ≤ q) && decide (q ≤ 5)) = true
  rw [decide_eq_true h.lo, decide_eq_true h.hi]
  rfl
section
variable {dq dl d1 d2 : PyData} {q : Int}
theorem wr_f (e : inFrom 2 5 (asInt dq) = false) : wrD dq dl d1 d2 = some (.tuple [.str "field", dq]) := by
  unfold wrD
  rw [if_pos e]
theorem wr_l (hq : LetQ q) (e : inFrom 0 (q - 1) (asInt dl) = false) : wrD (.int q) dl d1 d2 = some (.tuple [.str "letter", dl]) := by
  unfold wrD
  rw [if_neg (by show ¬ inFrom 2 5 (some q) = false; rw [from_fld hq]; decide), if_pos (by exact e)]
theorem wr_1 (hq : LetQ q) (e : inFrom 0 (q - 1) (asInt dl) = true) (e1 : wordO q (asInts d1) = false) : wrD (.int q) dl d1 d2 = some (.tuple [.str "word", d1]) := by
  unfold wrD
  rw [if_neg (by show ¬ inFrom 2 5 (some q) = false; rw [from_fld hq]; decide), if_neg (by show ¬ inFrom 0 (q - 1) (asInt dl) = false; rw [e]; decide), if_pos (by exact e1)]
theorem wr_2 (hq : LetQ q) (e : inFrom 0 (q - 1) (asInt dl) = true) (e1 : wordO q (asInts d1) = true) (e2 : wordO q (asInts d2) = false) : wrD (.int q) dl d1 d2 = some (.tuple [.str "word", d2]) := by
  unfold wrD
  rw [if_neg (by show ¬ inFrom 2 5 (some q) = false; rw [from_fld hq]; decide), if_neg (by show ¬ inFrom 0 (q - 1) (asInt dl) = false; rw [e]; decide), if_neg (by show ¬ wordO q (asInts d1) = false; rw [e1]; decide), if_pos (by exact e2)]
theorem wr_3 (hq : LetQ q) (e : inFrom 0 (q - 1) (asInt dl) = true) (e1 : wordO q (asInts d1) = true) (e2 : wordO q (asInts d2) = true) : wrD (.int q) dl d1 d2 = if lenD d1 ≠ lenD d2 then some (.tuple [.str "word", d2]) else none := by
  unfold wrD
  rw [if_neg (by show ¬ inFrom 2 5 (some q) = false; rw [from_fld hq]; decide), if_neg (by show ¬ inFrom 0 (q - 1) (asInt dl) = false; rw [e]; decide), if_neg (by show ¬ wordO q (asInts d1) = false; rw [e1]; decide), if_neg (by show ¬ wordO q (asInts d2) = false; rw [e2]; decide)]
end
def Short (d : PyData) : Prop := ∀ es, d = .tuple es → es.length ≤ 1000
theorem dq_lev {K : PySem.W.Frag} {H : Hp} {v : V} {d : PyData} (h : Dq K H v d) (hl : Short d) : Lev K H v (asInts d) := by
  cases d with
  | tuple ds =>
    cases h with
    | tup h1 h2 => exact ⟨_, ⟨_, rfl, h1⟩, h2.ints, by rw [h2.length]; exact hl _ rfl⟩
  | _ => exact h.noTuple rfl
theorem word_tup {K : PySem.W.Frag} {H : Hp} {v : V} {d : PyData} {q : Int} (h : Dq K H v d) (e : wordO q (asInts d) = true) : ∃ a xs, v = .ref a ∧ SqT K H a xs ∧ xs.length = lenD d := by
  cases h with
  | tup h1 h2 =>
    refine ⟨_, _, rfl, h1, ?_⟩
    rw [h2.length]
    exact (List.length_map _).symm
  | _ => cases e
def Wr (K : PySem.W.Frag) (G0 G : Hp) (z : V) : Option PyData → Prop
  | none => z = .non
  | some D => ∃ (p : Addr) (wd : Str) (v : V) (d : PyData), z = .ref p ∧ G p = some (.tup [.str wd, v]) ∧ Dq K G0 v d ∧ D = .tuple [.str wd, d]
section
variable {w : World} {K : PySem.W.Frag} {mg : Str → Option Value} {base : Heap}
def spWrong (K : PySem.W.Frag) : Sp := fun vs H Q _ => ∃ (G0 : Hp) (vq vl v1 v2 : V) (L : Addr) (xs : List V) (dq dl d1 d2 : PyData), vs = [vq, vl, .ref L] ∧ Same G0 H ∧ Dq K G0 vq dq ∧ Dq K G0 vl dl ∧ Dq K G0 v1 d1 ∧ Dq K G0 v2 d2 ∧ Short d1 ∧ Short d2 ∧
  SqL K H L xs ∧ (xs = [v1, v2] ∨ (xs = [v1] ∧ v2 = v1 ∧ d2 = d1)) ∧ ∀ z H', Same H H' → Wr K G0 H' z (wrD dq dl d1 d2) → Q z H'
theorem ok__law_wrong (T : Txt K mg) : FnOk P w K mg base CX0 3 T.a__law_wrong T.d__law_wrong P__law_wrong (spWrong K) := by
  refine T.F__law_wrong.ok sc__law_wrong (fun vs H Q E h => ?_) (fun cdv A outer s H vs Q E hr h => ?_)
  · obtain ⟨G0, vq, vl, v1, v2, L, xs, dq, dl, d1, d2, rfl, _⟩ := h
    rfl
  · obtain ⟨G0, vq, vl, v1, v2, L, xs, dq, dl, d1, d2, rfl, s0, hq, hl, h1, h2, l1, l2, hL, hxs, k⟩ := h
    refine ⟨_, 
      (pss_cons (ps_if (PW.pt (pw_or (pt_not (pt_val (pe_callB (id := "isinstance") (r := rIsi K) call_isi (by rfl) T.m_isinstance (by decide +kernel) (pa_cons (pv 0) (pa_cons (pe_bltn (by rfl) T.m_int (v := .ty "int") (by decide +kernel) rfl) pa_nil))))) (pw_or (pt_val (pe_callB (id := "isinstance") (r := rIsi K) call_isi (by rfl) T.m_isinstance (by decide +kernel) (pa_cons (pv 0) (pa_cons (pe_bltn (by rfl) T.m_bool (v := .ty "bool") (by decide +kernel) rfl) pa_nil)))) (pw_or (pt_cmpR op_lt (pv 0) pe_int (nomark _)) (pw_or1 (pt_cmpR op_gt (pv 0) pe_int (nomark _))))))) (pss_one (ps_ret (pe_tup (pa_cons pe_str (pa_cons (pv 0) pa_nil))))) pss_nil)
      (pss_cons (ps_if (pt_not (pt_val (pe_call (ok__law_is_letter T) (hr.mono (by decide)) rfl T.m__law_is_letter T.F__law_is_letter.kp T.b__law_is_letter .nil pass0 (pa_cons (pv 0) (pa_cons (pv 1) pa_nil))))) (pss_one (ps_ret (pe_tup (pa_cons pe_str (pa_cons (pv 1) pa_nil))))) pss_nil)
      (pss_cons (ps_for PassesOwn.never rfl (pi_list (pv 2)) (pg_name (i := 3) sc__law_wrong.nd rfl (Or.inl rfl)) (pss_one (ps_if (pt_not (pt_val (pe_call (ok__law_is_word T) (hr.mono (by decide)) rfl T.m__law_is_word T.F__law_is_word.kp T.b__law_is_word .nil pass0 (pa_cons (pv 0) (pa_cons (pv 3) pa_nil))))) (pss_one (ps_ret (pe_tup (pa_cons pe_str (pa_cons (pv 3) pa_nil))))) pss_nil)))
      (pss_one (ps_ret (pe_ifExp (pt_cmpR op_ne (pe_callB call_len_seq (by rfl) T.m_len (by decide +kernel) (pa_cons (pe_ix (r := rIxL K) ix_list (pv 2) pe_int (fun _ _ => rfl)) pa_nil)) (pe_callB call_len_seq (by rfl) T.m_len (by decide +kernel) (pa_cons (pe_ix (r := rIxL K) ix_list (pv 2) (pe_un un_neg pe_int) (fun _ _ => rfl)) pa_nil)) (nomark _)) (pe_tup (pa_cons pe_str (pa_cons (pe_ix (r := rIxL K) ix_list (pv 2) (pe_un un_neg pe_int) (fun _ _ => rfl)) pa_nil))) pe_non)))))), ?_⟩
    have z2 : ∀ {n : Nat}, n ≤ 2 → n ≤ sizeLine := fun {n} h => line_s (by omega)
    have bad : ∀ {H1 : Hp} {wd : Str} {v : V} {d : PyData}, Same H H1 → Dq K G0 v d → wrD dq dl d1 d2 = some (.tuple [.str wd, d]) → ∀ p, H1 p = none → Q (.ref p) (upd H1 p (.tup [.str wd, v])) := fun {H1 wd v d} s hv e p hp => by
      refine k _ _ (s.trans (same_upd hp)) ?_
      rw [e]
      exact ⟨p, wd, v, d, rfl, upd_same, hv, rfl⟩
    have fieldBad : ∀ {p : Addr}, inFrom 2 5 (asInt dq) = false → H p = none → Q (.ref p) (upd H p (.tup [.str "field", vq])) := fun {p} e hp => bad (Same.refl _) hq (wr_f e) p hp
    have iq : IntQ K H vq (asInt dq) := (Dq.same s0 _ _ hq).int?
    generalize hoq : asInt dq = oq at iq fieldBad
    cases oq with
    | none =>
      rcases iq with ⟨b, rfl⟩ | ⟨t, ht, hk⟩
      · refine ⟨_, rfl, _, _, _, _, _, rfl, .ty "int", .base (.bl b), kit_ty (r := true) (by decide +kernel), true, rfl, iteF ?_⟩
        exact ⟨_, rfl, _, _, _, _, _, rfl, .ty "bool", .base (.bl b), kit_ty (r := true) (by decide +kernel), true, rfl, iteT ⟨_, rfl, z2 (Nat.le_refl _), fun p hp => fieldBad rfl hp⟩⟩
      · exact ⟨_, rfl, _, _, _, _, _, rfl, .ty "int", ht, hk, false, rfl, iteT ⟨_, rfl, z2 (Nat.le_refl _), fun p hp => fieldBad rfl hp⟩⟩
    | some q =>
      obtain ⟨rfl, rfl⟩ := dq_some hq hoq
      refine ⟨_, rfl, _, _, _, _, _, rfl, .ty "int", .base (.int q), kit_ty (r := true) (by decide +kernel), true, rfl, iteF ?_⟩
      refine ⟨_, rfl, _, _, _, _, _, rfl, .ty "bool", .base (.int q), kit_ty (r := false) (by decide +kernel), false, rfl, iteF ?_⟩
      have e25 : ∀ r : Bool, (decide ((2 : Int) ≤ q) && decide (q ≤ 5)) = r → inFrom 2 5 (some q) = r := fun r e => e
      refine ⟨_, rfl, _, _, rfl, rfl, decide (q < 2), rfl, ?_⟩
      refine ite2 (fun c => ?_) (fun c => ?_)
      · exact ⟨_, rfl, z2 (Nat.le_refl _), fun p hp => fieldBad (e25 _ (by rw [decide_eq_false (by have := of_decide_eq_true c; omega)]; rfl)) hp⟩
      have q2 : 2 ≤ q := by
        have := c
        simp only [decide_eq_true_eq] at this
        omega
      refine ⟨_, rfl, _, _, rfl, rfl, decide (q > 5), rfl, ?_⟩
      refine ite2 (fun c => ?_) (fun c => ?_)
      · exact ⟨_, rfl, z2 (Nat.le_refl _), fun p hp => fieldBad (e25 _ (by rw [decide_eq_false (p := q ≤ 5) (by have := of_decide_eq_true c; omega), Bool.and_false])) hp⟩
      have q5 : q ≤ 5 := by
        have := c
        simp only [decide_eq_true_eq] at this
        omega
      have lq : LetQ q := ⟨q2, q5⟩
      refine ⟨_, rfl, _, rfl, q, vl, asInt dl, rfl, (Dq.same s0 _ _ hl).int?, _, rfl, ?_⟩
      rcases Bool.eq_false_or_eq_true (inFrom 0 (q - 1) (asInt dl)) with el | el
      case inr =>
        rw [el]
        exact iteT ⟨_, rfl, z2 (Nat.le_refl _), fun p hp => bad (Same.refl _) hl (wr_l lq el) p hp⟩
      rw [el]
      refine iteF ?_
      have xl : xs.length ≤ 2 := by
        rcases hxs with rfl | ⟨rfl, _, _⟩
        · exact Nat.le_refl _
        · exact (by decide : 1 ≤ 2)
      have at_ : ∀ {i : Nat} {x : V}, xs[i]? = some x → ∃ d, Dq K G0 x d ∧ Short d ∧ ((i = 0 ∧ d = d1) ∨ (i = 1 ∧ d = d2)) := fun {i x} hx => by
        rcases hxs with rfl | ⟨rfl, _, _⟩
        · match i, hx with
          | 0, hx =>
            obtain rfl : v1 = x := Option.some.inj hx
            exact ⟨d1, h1, l1, .inl ⟨rfl, rfl⟩⟩
          | 1, hx =>
            obtain rfl : v2 = x := Option.some.inj hx
            exact ⟨d2, h2, l2, .inr ⟨rfl, rfl⟩⟩
        · match i, hx with
          | 0, hx =>
            obtain rfl : v1 = x := Option.some.inj hx
            exact ⟨d1, h1, l1, .inl ⟨rfl, rfl⟩⟩
      refine ⟨_, rfl, L, rfl, ⟨_, hL⟩, for_it (walk_list (K := K) (a := L) (xs := xs))
        (fun i σ H' => ∃ u3, σ = [some (.int q), some vl, some (.ref L), u3] ∧ Same H H' ∧ (0 < i → wordO q (asInts d1) = true) ∧ (1 < i → wordO q (asInts d2) = true)) ⟨none, rfl, Same.refl _, fun z => absurd z (by decide), fun z => absurd z (by decide)⟩
        (fun i σ H' _ ⟨_, _, e, _⟩ => sqL_same e hL) ?_ ?_⟩
      · rintro i x _ _ H' hi ⟨u3, rfl, e, w1, w2⟩ ⟨rfl, hx⟩
        obtain ⟨d, hd, ld, hi2⟩ := at_ hx
        refine ⟨_, rfl, _, rfl, q, x, asInts d, rfl, dq_lev (Dq.same (s0.trans e) _ _ hd) ld, fun H2 s2 => ⟨_, rfl, ?_⟩⟩
        rcases Bool.eq_false_or_eq_true (wordO q (asInts d)) with ew | ew
        · rw [ew]
          refine iteF ⟨_, rfl, e.trans s2, fun _ => ?_, fun _ => ?_⟩
          · rcases hi2 with ⟨rfl, rfl⟩ | ⟨rfl, rfl⟩
            · exact ew
            · exact w1 (by decide)
          · rcases hi2 with ⟨rfl, rfl⟩ | ⟨rfl, rfl⟩
            · omega
            · exact ew
        · rw [ew]
          refine iteT ⟨_, rfl, z2 (Nat.le_refl _), fun p hp => bad (e.trans s2) hd ?_ p hp⟩
          rcases hi2 with ⟨rfl, rfl⟩ | ⟨rfl, rfl⟩
          · exact wr_1 lq el ew
          · exact wr_2 lq el (w1 (by decide)) ew
      · rintro _ H' ⟨u3, rfl, e, w1, w2⟩
        have e1 : wordO q (asInts d1) = true := w1 (by rcases hxs with rfl | ⟨rfl, _, _⟩ <;> exact Nat.zero_lt_succ _)
        have e2 : wordO q (asInts d2) = true := by
          rcases hxs with rfl | ⟨rfl, _, rfl⟩
          · exact w2 (Nat.lt_succ_self 1)
          · exact e1
        obtain ⟨a1, ys1, rfl, t1, n1⟩ := word_tup (Dq.same (s0.trans e) _ _ h1) e1
        obtain ⟨a2, ys2, rfl, t2, n2⟩ := word_tup (Dq.same (s0.trans e) _ _ h2) e2
        have hL' := sqL_same e hL
        have x0 : atI xs 0 = some (.ref a1) := by
          rcases hxs with rfl | ⟨rfl, _, _⟩ <;> rfl
        have x1 : atI xs (-1) = some (.ref a2) := by
          rcases hxs with rfl | ⟨rfl, ev, _⟩
          · rfl
          · rw [ev]; rfl
        refine ⟨_, rfl, L, _, _, _, rfl, rfl, hL', x0, ?_⟩
        refine ⟨a1, ys1, rfl, .inr t1, ?_⟩
        refine ⟨_, rfl, _, rfl, L, _, _, _, rfl, rfl, hL', x1, a2, ys2, rfl, .inr t2, rfl, _, rfl, ?_⟩
        rw [dec_int, n1, n2]
        have w3 := wr_3 (dl := dl) lq el e1 e2
        by_cases en : lenD d1 = lenD d2
        · rw [decide_eq_true (by rw [en])]
          refine iteF (k _ _ e ?_)
          rw [w3, if_neg (fun z => z en)]
          rfl
        · rw [decide_eq_false (by omega)]
          rw [if_pos en] at w3
          exact iteT ⟨_, rfl, _, rfl, L, _, _, _, rfl, rfl, hL', x1, z2 (Nat.le_refl _), fun p hp => bad e h2 w3 p hp⟩
end
end K05
end
section
set_option maxRecDepth 100000
set_option maxHeartbeats 4000000
namespace K05
open PySem PySem.Spec PyProof.Rows L2 MB
open LamX hiding takes0
theorem meets_of {K : PySem.W.Frag} {C S : Addr} {r : Bool} (te : PySem.W.exmOne K (.ref S) (.ref S) = some true) (h : PySem.W.subIn K (.ref C) (.ref S) = some r) : PySem.W.exmOne K (.ref C) (.ref S) = some r := by
  have te' : (if (PySem.W.subIn K (.ref S) (.type "BaseException") == some true) = true then (if ((PySem.W.clsIn K S).isSome && PySem.W.typeIn K (.ref S) == some (.type "type")) = true then PySem.W.subIn K (.ref S) (.ref S) else none) else none) = some true := te
  show (if (PySem.W.subIn K (.ref S) (.type "BaseException") == some true) = true then (if ((PySem.W.clsIn K S).isSome && PySem.W.typeIn K (.ref S) == some (.type "type")) = true then PySem.W.subIn K (.ref C) (.ref S) else none) else none) = some r
  split at te'
  · rename_i h1
    rw [if_pos h1]
    split at te'
    · rename_i h2
      rw [if_pos h2]
      exact h
    · cases te'
  · cases te'
section
variable {w : World} {K : PySem.W.Frag} {mg : Str → Option Value} {base : Heap}
def Cls (T : Txt K mg) (C : Addr) (wd : Str) : Prop := (C = T.C_BadField ∧ wd = "field") ∨ (C = T.C_BadLetter ∧ wd = "letter") ∨ (C = T.C_BadWord ∧ wd = "word")
def ETold (T : Txt K mg) (Q : VK) : XK := fun cls d H' => ∃ (C dx : Addr) (v : V) (wd : Str), Cls T C wd ∧ cls = .ref C ∧ d = some dx ∧ H' dx = some (.xd [("thing", v)]) ∧
  ∀ p, H' p = none → Q (.ref p) (upd H' p (.tup [.str wd, v]))
def QT (Q : VK) : VK := fun v H' => [V.str "told", v].length ≤ sizeLine ∧ ∀ p, H' p = none → Q (.ref p) (upd H' p (.tup [.str "told", v]))
def TTold (T : Txt K mg) : (XK → Hp → VK → Prop) → Hp → VK → Prop := fun tl H Q => tl (ETold T Q) H fun v H' => [V.str "told", v].length ≤ sizeLine ∧ ∀ p, H' p = none → Q (.ref p) (upd H' p (.tup [.str "told", v]))
theorem gives__law_told (T : Txt K mg) {N' : List Str} {qual q : Str} {scope : Scope} {f : Addr} {cd : Value} {A : Around} {outer : List Env} {s : Shared} {H : Hp} {E : XK} {cdg : Value} :
    GivesTo (cxOf L2.CX0 P w K mg base N' qual scope f cd A outer s H E).nox N__law_told "_law_told" (defScope s__law_told) T.a__law_told cdg (defBody s__law_told) "_law_deed" q (TTold T) := by
  intro f c' s H Q tl act hc h
  refine ⟨_, 
      (pss_one (ps_tryMix (Wout := fun _ _ _ _ => False) rfl rfl sc__law_told.nd takes0 (fun W pn xe tk pass => (pss_one (ps_ret (pe_tup (pa_cons pe_str (pa_cons (pe_deed 2 (fun W E p1 p2 tk hW => act W _ _ E p1 p2 tk hW) tk) pa_nil)))))) (.named (i := 1) ⟨rfl, by decide, Or.inl T.e_BadField.gC⟩ rfl rfl (fun a oe cls d pn hz hf => (pss_one (ps_ret (pe_tup (pa_cons pe_str (pa_cons (pe_xf T.e_BadField.xf T.e_BadField.noF hz hf (pv 1)) pa_nil)))))) (.named (i := 1) ⟨rfl, by decide, Or.inl T.e_BadLetter.gC⟩ rfl rfl (fun a oe cls d pn hz hf => (pss_one (ps_ret (pe_tup (pa_cons pe_str (pa_cons (pe_xf T.e_BadLetter.xf T.e_BadLetter.noF hz hf (pv 1)) pa_nil)))))) (.named (i := 1) ⟨rfl, by decide, Or.inl T.e_BadWord.gC⟩ rfl rfl (fun a oe cls d pn hz hf => (pss_one (ps_ret (pe_tup (pa_cons pe_str (pa_cons (pe_xf T.e_BadWord.xf T.e_BadWord.noF hz hf (pv 1)) pa_nil)))))) .nil))))), ?_⟩
  have z2 : (2 : Nat) ≤ sizeLine := line_s (by decide)
  refine ⟨ETold T Q, ?_, rfl, hc, ?_⟩
  · rintro cls d σ' H' ⟨C, dx, v, wd, hC, rfl, rfl, hx, k⟩ hl
    have at1 : ∀ a : Addr, (σ'.set 1 (some (.ref a)))[1]? = some (some (.ref a)) := fun a => by
      rw [List.getElem?_set_self (by rw [hl]; exact (by decide : 1 < 2))]
    rcases hC with ⟨rfl, rfl⟩ | ⟨rfl, rfl⟩ | ⟨rfl, rfl⟩
    · refine ⟨true, T.e_BadField.te, fun _ a ha => ?_, fun z => Bool.noConfusion z⟩
      exact ⟨_, at1 a, rfl, rfl, dx, _, v, rfl, hx, rfl, z2, fun p hp => k p hp⟩
    · refine ⟨false, meets_of T.e_BadField.te T.x_lf, fun z => Bool.noConfusion z, fun _ => ⟨true, T.e_BadLetter.te, fun _ a ha => ?_, fun z => Bool.noConfusion z⟩⟩
      exact ⟨_, at1 a, rfl, rfl, dx, _, v, rfl, hx, rfl, z2, fun p hp => k p hp⟩
    · refine ⟨false, meets_of T.e_BadField.te T.x_wf, fun z => Bool.noConfusion z, fun _ => ⟨false, meets_of T.e_BadLetter.te T.x_wl, fun z => Bool.noConfusion z, fun _ => ⟨true, T.e_BadWord.te, fun _ a ha => ?_, fun z => Bool.noConfusion z⟩⟩⟩
      exact ⟨_, at1 a, rfl, rfl, dx, _, v, rfl, hx, rfl, z2, fun p hp => k p hp⟩
  · exact h
end
def Keep (G G' : Hp) : Prop := ∀ b o, G b = some o → (∀ xs, o ≠ .lst xs) → (∀ ps, o ≠ .tbl ps) → G' b = some o
theorem Keep.of {G G' : Hp} (e : Same G G') : Keep G G' := fun b o h _ _ => e b o h
theorem Keep.ext {G G' : Hp} (e : ExtN G G') : Keep G G' := fun b o h _ n => e b o h n
theorem Keep.trans {G G' G'' : Hp} (e : Keep G G') (f : Keep G' G'') : Keep G G'' := fun b o h n m => f b o (e b o h n m) n m
theorem Keep.lst {G : Hp} {L : Addr} {xs ys : List V} (h : G L = some (.lst xs)) : Keep G (upd G L (.lst ys)) := fun b o hb n _ => by
  have bL : b ≠ L := ne_of hb h (n _)
  rw [upd_ne bL]
  exact hb
theorem Keep.sqT {K : PySem.W.Frag} {G G' : Hp} {a : Addr} {xs : List V} (e : Keep G G') (h : SqT K G a xs) : SqT K G' a xs := by
  rcases h with (h | ⟨o, h⟩) | h
  · exact .inl (.inl (e _ _ h (by intro xs z; cases z) (by intro xs z; cases z)))
  · exact .inl (.inr ⟨o, e _ _ h (by intro xs z; cases z) (by intro xs z; cases z)⟩)
  · exact .inr h
def Val (K : PySem.W.Frag) (G0 G : Hp) (v : V) (d : PyData) : Prop := Dq K G0 v d ∨ ∃ ns, TI K G v ns ∧ d = .tuple (ns.map PyData.int)
def Rig (K : PySem.W.Frag) (G0 G : Hp) (D : PyData) (z : V) : Prop := ∃ (p : Addr) (wd : Str) (v : V) (d : PyData), z = .ref p ∧ G p = some (.tup [.str wd, v]) ∧ Val K G0 G v d ∧ D = .tuple [.str wd, d]
theorem Val.keep {K : PySem.W.Frag} {G0 G G' : Hp} {v : V} {d : PyData} (e : Keep G G') (h : Val K G0 G v d) : Val K G0 G' v d := by
  rcases h with h | ⟨ns, ⟨a, rfl, ha⟩, h2⟩
  · exact .inl h
  · exact .inr ⟨ns, ⟨a, rfl, e.sqT ha⟩, h2⟩
theorem Rig.keep {K : PySem.W.Frag} {G0 G G' : Hp} {D : PyData} {z : V} (e : Keep G G') (h : Rig K G0 G D z) : Rig K G0 G' D z :=
  let ⟨p, wd, v, d, h1, h2, h3, h4⟩ := h
  ⟨p, wd, v, d, h1, e _ _ h2 (by intro xs z; cases z) (by intro xs z; cases z), h3.keep e, h4⟩
theorem dq_ints {K : PySem.W.Frag} {G : Hp} : ∀ ns : List Int, DqAll K G (ns.map V.int) (ns.map PyData.int)
  | [] => .nil
  | c :: r => .cons (.int c) (dq_ints r)
theorem Val.dq {K : PySem.W.Frag} {G0 G : Hp} {v : V} {d : PyData} (e : Same G0 G) (h : Val K G0 G v d) : Dq K G v d := by
  rcases h with h | ⟨ns, ⟨a, rfl, ha⟩, rfl⟩
  · exact Dq.same e _ _ h
  · exact .tup ha (dq_ints ns)
theorem Rig.dq {K : PySem.W.Frag} {G0 G : Hp} {D : PyData} {z : V} (e : Same G0 G) (h : Rig K G0 G D z) : Dq K G z D := by
  obtain ⟨p, wd, v, d, rfl, h2, h3, rfl⟩ := h
  exact .tup (SqT.of h2) (.cons (.str _) (.cons (h3.dq e) .nil))
theorem Wr.rig {K : PySem.W.Frag} {G0 G : Hp} {D : PyData} {z : V} (h : Wr K G0 G z (some D)) : Rig K G0 G D z :=
  let ⟨p, wd, v, d, h1, h2, h3, h4⟩ := h
  ⟨p, wd, v, d, h1, h2, .inl h3, h4⟩
theorem ground {H G : Hp} (e : ExtN H G) : Same (noT H) G := (extN_noT e).trans noT_sub
def rowD (d : PyData) : List Int := ((asInts d).getD []).map (·.getD 0)
theorem rowD_eq {d : PyData} {as : List Int} (h : asInts d = some (as.map some)) : rowD d = as := by
  unfold rowD
  rw [h]
  show (as.map some).map (·.getD 0) = as
  rw [List.map_map]
  exact List.map_id' as
theorem lenD_eq {d : PyData} {as : List Int} (h : asInts d = some (as.map some)) : lenD d = as.length := by
  unfold lenD
  rw [h]
  exact List.length_map _
def qD (dq : PyData) : Int := (asInt dq).getD 0
def sumA (dq d1 d2 : PyData) : PyData := .tuple ((List.zipWith (lsum (qD dq)) (rowD d1) (rowD d2)).map PyData.int)
def prodA (dq d1 d2 : PyData) : PyData := .int (rowP (qD dq) (rowD d1) (rowD d2))
def timesA (dq dl d1 : PyData) : PyData := .tuple (((rowD d1).map (ltim (qD dq) (qD dl))).map PyData.int)
def suppA (d1 : PyData) : PyData := .tuple ((supp (rowD d1)).map PyData.int)
def weightA (d1 : PyData) : PyData := .int ((supp (rowD d1)).length : Int)
def dueW (wr : Option PyData) (ans : PyData) : PyData := match wr with
  | some D => D
  | none => .tuple [.str "told", ans]
section
variable {w : World} {K : PySem.W.Frag} {mg : Str → Option Value} {base : Heap}
variable {G0 H1 : Hp} {vq vl v1 v2 : V} {dq dl d1 d2 ans D : PyData} {Q : VK}
theorem fly (T : Txt K mg) {C : Addr} {wd : Str} {v : V} {d : PyData} {H2 : Hp} (hC : Cls T C wd) (s : Same H1 H2) (hv : Dq K G0 v d) (e : D = .tuple [.str wd, d])
    (go : ∀ z H', Same H1 H' → Rig K G0 H' D z → Q z H') : Flies (ETold T Q) C v H2 := fun dx hx =>
  ⟨C, dx, v, wd, hC, rfl, rfl, upd_same, fun p hp => go _ _ (s.trans ((same_upd hx).trans (same_upd hp))) ⟨p, wd, v, d, rfl, upd_same, .inl hv, e⟩⟩
theorem told {v : V} {d : PyData} {H2 : Hp} (s : Same H1 H2) (hv : Val K G0 H2 v d) (e : D = .tuple [.str "told", d])
    (go : ∀ z H', Same H1 H' → Rig K G0 H' D z → Q z H') : [V.str "told", v].length ≤ sizeLine ∧ ∀ p, H2 p = none → Q (.ref p) (upd H2 p (.tup [.str "told", v])) :=
  ⟨line_s (Nat.le_of_ble_eq_true rfl), fun p hp => go _ _ (s.trans (same_upd hp)) ⟨p, "told", v, d, rfl, upd_same, hv.keep (Keep.of (same_upd hp)), e⟩⟩
theorem let0 {q : Int} (h : LetQ q) : inFrom 0 (q - 1) (asInt (.int 0)) = true := from_let ⟨by decide, by have := h.lo; omega⟩
theorem wordRow {q : Int} {d : PyData} {as : List Int} (e : asInts d = some (as.map some)) (h : IsRow q as) : wordO q (asInts d) = true := by
  rw [e]
  show (as.map some).all (inFrom 0 (q - 1)) = true
  rw [List.all_map, List.all_eq_true]
  exact fun x hx => from_let (h x hx)
theorem lam_w2 (T : Txt K mg) {R : Int → List Int → List Int → Hp → VK → Prop} (hq : Dq K G0 vq dq) (h1 : Dq K G0 v1 d1) (h2 : Dq K G0 v2 d2) (l1 : Short d1) (l2 : Short d2) (s : Same G0 H1)
    (good : ∀ q as bs H' (Q' : VK), qD dq = q → LetQ q → rowD d1 = as → rowD d2 = bs → Same H1 H' → (∀ v H'', Same H1 H'' → Val K G0 H'' v ans → Q' v H'') → R q as bs H' Q')
    (go : ∀ z H', Same H1 H' → Rig K G0 H' (dueW (wrD dq (.int 0) d1 d2) ans) z → Q z H') :
    spW2 K T.C_BadField T.C_BadWord R [vq, v1, v2] H1 (fun v H' => [V.str "told", v].length ≤ sizeLine ∧ ∀ p, H' p = none → Q (.ref p) (upd H' p (.tup [.str "told", v]))) (ETold T Q) := by
  refine ⟨vq, v1, v2, asInt dq, asInts d1, asInts d2, rfl, (Dq.same s _ _ hq).int?, dq_lev (Dq.same s _ _ h1) l1, dq_lev (Dq.same s _ _ h2) l2, fun e => fly T (.inl ⟨rfl, rfl⟩) (Same.refl _) hq (by rw [wr_f e]; rfl) go, fun q eq lq => ?_⟩
  obtain ⟨rfl, rfl⟩ := dq_some hq eq
  refine ⟨fun e H' s' => fly T (.inr (.inr ⟨rfl, rfl⟩)) s' h1 (by rw [wr_1 lq (let0 lq) e]; rfl) go, fun as ea ra => ?_⟩
  have wa := wordRow ea ra
  refine ⟨fun e H' s' => fly T (.inr (.inr ⟨rfl, rfl⟩)) s' h2 (by rw [wr_2 lq (let0 lq) wa e]; rfl) go, fun bs eb rb => ?_⟩
  have wb := wordRow eb rb
  have w3 := wr_3 (dl := .int 0) lq (let0 lq) wa wb
  rw [lenD_eq ea, lenD_eq eb] at w3
  refine ⟨fun e H' s' => fly T (.inr (.inr ⟨rfl, rfl⟩)) s' h2 (by rw [w3, if_pos e]; rfl) go, fun e H' s' => ?_⟩
  rw [if_neg (fun z => z e)] at w3
  exact good q as bs H' _ rfl lq (rowD_eq ea) (rowD_eq eb) s' fun v H'' s'' hv => told s'' hv (by rw [w3]; rfl) go
theorem lam_sum (T : Txt K mg) (hq : Dq K G0 vq dq) (h1 : Dq K G0 v1 d1) (h2 : Dq K G0 v2 d2) (l1 : Short d1) (l2 : Short d2) (s : Same G0 H1)
    (go : ∀ z H', Same H1 H' → Rig K G0 H' (dueW (wrD dq (.int 0) d1 d2) (sumA dq d1 d2)) z → Q z H') :
    spW2 K T.C_BadField T.C_BadWord (rTI K fun q as bs => List.zipWith (lsum q) as bs) [vq, v1, v2] H1 (fun v H' => [V.str "told", v].length ≤ sizeLine ∧ ∀ p, H' p = none → Q (.ref p) (upd H' p (.tup [.str "told", v]))) (ETold T Q) :=
  lam_w2 T hq h1 h2 l1 l2 s (fun q as bs H' Q' e1 _ e2 e3 s' k z H'' s'' hz => k z H'' (s'.trans s'') (.inr ⟨_, hz, by unfold sumA; rw [e1, e2, e3]⟩)) go
theorem lam_prod (T : Txt K mg) (hq : Dq K G0 vq dq) (h1 : Dq K G0 v1 d1) (h2 : Dq K G0 v2 d2) (l1 : Short d1) (l2 : Short d2) (s : Same G0 H1)
    (go : ∀ z H', Same H1 H' → Rig K G0 H' (dueW (wrD dq (.int 0) d1 d2) (prodA dq d1 d2)) z → Q z H') :
    spW2 K T.C_BadField T.C_BadWord (fun q as bs H Q => ∀ H', Same H H' → Q (.int (rowP q as bs)) H') [vq, v1, v2] H1 (fun v H' => [V.str "told", v].length ≤ sizeLine ∧ ∀ p, H' p = none → Q (.ref p) (upd H' p (.tup [.str "told", v]))) (ETold T Q) :=
  lam_w2 T hq h1 h2 l1 l2 s (fun q as bs H' Q' e1 _ e2 e3 s' k H'' s'' => k _ H'' (s'.trans s'') (.inl (by unfold prodA; rw [e1, e2, e3]; exact .int _))) go
theorem lam_times (T : Txt K mg) (hq : Dq K G0 vq dq) (hl : Dq K G0 vl dl) (h1 : Dq K G0 v1 d1) (l1 : Short d1) (s : Same G0 H1)
    (go : ∀ z H', Same H1 H' → Rig K G0 H' (dueW (wrD dq dl d1 d1) (timesA dq dl d1)) z → Q z H') :
    spWT K T.C_BadField T.C_BadLetter T.C_BadWord [vq, vl, v1] H1 (fun v H' => [V.str "told", v].length ≤ sizeLine ∧ ∀ p, H' p = none → Q (.ref p) (upd H' p (.tup [.str "told", v]))) (ETold T Q) := by
  refine ⟨vq, vl, v1, asInt dq, asInt dl, asInts d1, rfl, (Dq.same s _ _ hq).int?, (Dq.same s _ _ hl).int?, dq_lev (Dq.same s _ _ h1) l1, fun e => fly T (.inl ⟨rfl, rfl⟩) (Same.refl _) hq (by rw [wr_f e]; rfl) go, fun q eq lq => ?_⟩
  obtain ⟨rfl, rfl⟩ := dq_some hq eq
  refine ⟨fun e => fly T (.inr (.inl ⟨rfl, rfl⟩)) (Same.refl _) hl (by rw [wr_l lq e]; rfl) go, fun c ec lc => ?_⟩
  obtain ⟨rfl, rfl⟩ := dq_some hl ec
  refine ⟨fun e H' s' => fly T (.inr (.inr ⟨rfl, rfl⟩)) s' h1 (by rw [wr_1 (dl := .int c) lq (from_let lc) e]; rfl) go, fun as ea ra z H' s' hz => ?_⟩
  have wa := wordRow ea ra
  have w3 := wr_3 (dl := .int c) lq (from_let lc) wa wa
  rw [if_neg (fun z => z rfl)] at w3
  exact told s' (.inr ⟨_, hz, rfl⟩) (by rw [w3]; unfold timesA; rw [rowD_eq ea]; rfl) go
theorem lam_s1 (T : Txt K mg) {R : List Int → Hp → Hp → VK → Prop} (hq : Dq K G0 vq dq) (h1 : Dq K G0 v1 d1) (l1 : Short d1) (s : Same G0 H1)
    (good : ∀ as H' (Q' : VK), rowD d1 = as → Same H1 H' → (∀ v H'', Same H1 H'' → Val K G0 H'' v ans → Q' v H'') → R as H1 H' Q')
    (go : ∀ z H', Same H1 H' → Rig K G0 H' (dueW (wrD dq (.int 0) d1 d1) ans) z → Q z H') :
    spS1 K T.C_BadField T.C_BadWord R [vq, v1] H1 (fun v H' => [V.str "told", v].length ≤ sizeLine ∧ ∀ p, H' p = none → Q (.ref p) (upd H' p (.tup [.str "told", v]))) (ETold T Q) := by
  refine ⟨vq, v1, asInt dq, asInts d1, rfl, (Dq.same s _ _ hq).int?, dq_lev (Dq.same s _ _ h1) l1, fun e => fly T (.inl ⟨rfl, rfl⟩) (Same.refl _) hq (by rw [wr_f e]; rfl) go, fun q eq lq => ?_⟩
  obtain ⟨rfl, rfl⟩ := dq_some hq eq
  refine ⟨fun e H' s' => fly T (.inr (.inr ⟨rfl, rfl⟩)) s' h1 (by rw [wr_1 lq (let0 lq) e]; rfl) go, fun as ea ra _ H' s' => ?_⟩
  have wa := wordRow ea ra
  have w3 := wr_3 (dl := .int 0) lq (let0 lq) wa wa
  rw [if_neg (fun z => z rfl)] at w3
  exact good as H' _ (rowD_eq ea) s' fun v H'' s'' hv => told s'' hv (by rw [w3]; rfl) go
theorem lam_supp (T : Txt K mg) (hq : Dq K G0 vq dq) (h1 : Dq K G0 v1 d1) (l1 : Short d1) (s : Same G0 H1)
    (go : ∀ z H', Same H1 H' → Rig K G0 H' (dueW (wrD dq (.int 0) d1 d1) (suppA d1)) z → Q z H') :
    spS1 K T.C_BadField T.C_BadWord (fun as _ H Q => ∀ z H', Same H H' → TI K H' z (supp as) → Q z H') [vq, v1] H1 (fun v H' => [V.str "told", v].length ≤ sizeLine ∧ ∀ p, H' p = none → Q (.ref p) (upd H' p (.tup [.str "told", v]))) (ETold T Q) :=
  lam_s1 T hq h1 l1 s (fun as H' Q' e1 s' k z H'' s'' hz => k z H'' (s'.trans s'') (.inr ⟨_, hz, by unfold suppA; rw [e1]⟩)) go
theorem lam_weight (T : Txt K mg) (hq : Dq K G0 vq dq) (h1 : Dq K G0 v1 d1) (l1 : Short d1) (s : Same G0 H1)
    (go : ∀ z H', Same H1 H' → Rig K G0 H' (dueW (wrD dq (.int 0) d1 d1) (weightA d1)) z → Q z H') :
    spS1 K T.C_BadField T.C_BadWord (fun as _ H Q => ∀ H', Same H H' → Q (.int ((supp as).length : Int)) H') [vq, v1] H1 (fun v H' => [V.str "told", v].length ≤ sizeLine ∧ ∀ p, H' p = none → Q (.ref p) (upd H' p (.tup [.str "told", v]))) (ETold T Q) :=
  lam_s1 T hq h1 l1 s (fun as H' Q' e1 s' k H'' s'' => k _ H'' (s'.trans s'') (.inl (by unfold weightA; rw [e1]; exact .int _))) go
end
end K05
end
section
set_option maxRecDepth 100000
set_option maxHeartbeats 4000000
namespace K05
open PySem PySem.Spec PyProof.Rows L2 MB
open LamX hiding takes0
theorem sz_short {b n : Nat} {d : PyData} (h : Sz b n d) (hb : b ≤ 1000) : Short d := fun es e => by
  subst e
  have h2 := h.bu
  have : ∀ es : List PyData, es.length ≤ PyData.bulkAll es := fun es => by
    induction es with
    | nil => exact Nat.zero_le _
    | cons x r ih =>
      simp only [PyData.bulkAll, List.length_cons]
      omega
  have h3 := this es
  simp only [PyData.bulk] at h2
  omega
theorem Wr.keep {K : PySem.W.Frag} {G0 G G' : Hp} {wr : Option PyData} {z : V} (e : Keep G G') (h : Wr K G0 G z wr) : Wr K G0 G' z wr := by
  cases wr with
  | none => exact h
  | some D =>
    obtain ⟨p, wd, v, d, h1, h2, h3, h4⟩ := h
    exact ⟨p, wd, v, d, h1, e _ _ h2 (by intro xs z; cases z) (by intro xs z; cases z), h3, h4⟩
theorem wr_none {dq dl d1 d2 : PyData} (h : wrD dq dl d1 d2 = none) : ∃ q, asInt dq = some q ∧ LetQ q ∧ inFrom 0 (q - 1) (asInt dl) = true ∧ wordO q (asInts d1) = true ∧ wordO q (asInts d2) = true ∧ lenD d1 = lenD d2 := by
  unfold wrD at h
  split at h
  · cases h
  rename_i hf
  obtain ⟨q, eq, lq⟩ := from25 (o := asInt dq) (by cases e : inFrom 2 5 (asInt dq) with | true => rfl | false => exact absurd e hf)
  rw [eq] at h
  split at h
  · cases h
  rename_i hl
  split at h
  · cases h
  rename_i h1
  split at h
  · cases h
  rename_i h2
  split at h
  · cases h
  rename_i h3
  have nf : ∀ {b : Bool}, ¬ b = false → b = true := fun {b} h => by
    cases b with
    | true => rfl
    | false => exact absurd rfl h
  exact ⟨q, eq, lq, nf hl, nf h1, nf h2, Decidable.not_not.mp h3⟩
theorem word_row {K : PySem.W.Frag} {H : Hp} {v : V} {d : PyData} {q : Int} (h : Dq K H v d) (hl : Short d) (e : wordO q (asInts d) = true) : IsRow q (rowD d) ∧ TI K H v (rowD d) ∧ (rowD d).length ≤ 1000 ∧ lenD d = (rowD d).length := by
  obtain ⟨as, ea, ra⟩ := fromW e
  have hv := dq_lev h hl
  rw [ea] at hv
  have hti := lev_ti hv
  rw [rowD_eq ea]
  exact ⟨ra, hti.1, hti.2, lenD_eq ea⟩
theorem let_small {q c : Int} (hq : LetQ q) (h : IsLet q c) : c.natAbs < 10 ^ 42 := by
  have h42 : (10 : Nat) ^ 42 > 10 := by decide
  have := h.1
  have := h.2
  have := hq.hi
  omega
theorem row_sz {k : Nat} {q : Int} {ns : List Int} (hq : LetQ q) (hr : IsRow q ns) (hl : ns.length ≤ 1000) : Sz 1000 (k + 1) (.tuple (ns.map PyData.int)) :=
  sz_tup ((szAll_ints ns fun c hc => let_small hq (hr c hc)).mono hl (Nat.le_refl _))
theorem zip_row {q : Int} (hq : LetQ q) : ∀ {as bs : List Int}, IsRow q as → IsRow q bs → IsRow q (List.zipWith (lsum q) as bs)
  | [], _, _, _ => fun c hc => by cases hc
  | a :: r, [], _, _ => fun c hc => by cases hc
  | a :: r, b :: s, ha, hb => fun c hc => by
    rcases List.mem_cons.mp (show c ∈ lsum q a b :: List.zipWith (lsum q) r s from hc) with rfl | hc
    · exact let_sum hq (ha a List.mem_cons_self) (hb b List.mem_cons_self)
    · exact zip_row hq (fun x hx => ha x (List.mem_cons_of_mem _ hx)) (fun x hx => hb x (List.mem_cons_of_mem _ hx)) c hc
theorem rowP_let {q : Int} (hq : LetQ q) {as bs : List Int} (ha : IsRow q as) (hb : IsRow q bs) : IsLet q (rowP q as bs) := by
  unfold rowP
  have all : ∀ (l : List (Int × Int)) (t : Int), IsLet q t → (∀ p ∈ l, IsLet q p.1 ∧ IsLet q p.2) → IsLet q (l.foldl (fun t p => lsum q t (ltim q p.1 p.2)) t) := fun l => by
    induction l with
    | nil => exact fun t ht _ => ht
    | cons x r ih => exact fun t ht h => ih _ (let_sum hq ht (let_tim hq (h x List.mem_cons_self).1 (h x List.mem_cons_self).2)) fun p hp => h p (List.mem_cons_of_mem _ hp)
  refine all _ 0 ⟨by decide, by have := hq.lo; omega⟩ fun p hp => ?_
  have := List.of_mem_zip (a := p.1) (b := p.2) hp
  exact ⟨ha _ this.1, hb _ this.2⟩
theorem supp_small {ns : List Int} (hl : ns.length ≤ 1000) : ∀ c ∈ supp ns, c.natAbs < 10 ^ 42 := fun c hc => by
  have h42 : (10 : Nat) ^ 42 > 1000 := by decide
  unfold supp at hc
  obtain ⟨n, hn, rfl⟩ := List.mem_map.mp hc
  have := List.mem_range.mp (List.mem_filter.mp hn).1
  omega
theorem supp_le {ns : List Int} (hl : ns.length ≤ 1000) : (supp ns).length ≤ 1000 := Nat.le_trans (supp_len ns) hl
theorem sz_pair {b n : Nat} {d : PyData} {s : String} (hs : s.length ≤ 20) (h : Sz b n d) : Sz (b + 100) (n + 1) (.tuple [.str (Str.ofString s), d]) :=
  sz_tup ((szAll_cons (sz_text (b := 20) hs) (szAll_cons h (szAll_nil (b := 0)))).mono (by omega) (Nat.le_refl _))
theorem sz_due {b n : Nat} {dq dl d1 d2 ans : PyData} (zq : Sz b n dq) (zl : Sz b n dl) (z1 : Sz b n d1) (z2 : Sz b n d2) (za : wrD dq dl d1 d2 = none → Sz b n ans) : Sz (b + 100) (n + 1) (dueW (wrD dq dl d1 d2) ans) := by
  have key : ∀ D, wrD dq dl d1 d2 = some D → Sz (b + 100) (n + 1) D := fun D e => by
    unfold wrD at e
    split at e
    · cases e; exact sz_pair (s := "field") (by decide) zq
    split at e
    · cases e; exact sz_pair (s := "letter") (by decide) zl
    split at e
    · cases e; exact sz_pair (s := "word") (by decide) z1
    split at e
    · cases e; exact sz_pair (s := "word") (by decide) z2
    split at e
    · cases e; exact sz_pair (s := "word") (by decide) z2
    · cases e
  cases hw : wrD dq dl d1 d2 with
  | none => exact sz_pair (s := "told") (by decide) (za hw)
  | some D => exact key D hw
theorem told2 {b n : Nat} {D : PyData} (h : Sz b n D) (hb : b ≤ 10000 := by decide) (hn : n ≤ 20 := by decide) : Told (.tuple [D, D]) :=
  (sz_tup ((szAll_cons h (szAll_cons h (szAll_nil (b := 0)))).mono (Nat.le_refl _) (Nat.le_refl _))).told (by omega) (by omega)
theorem told4 {b n : Nat} {D E : PyData} (h : Sz b n D) (g : Sz b n E) (hb : b ≤ 10000 := by decide) (hn : n ≤ 20 := by decide) : Told (.list [D, E, D, E]) :=
  (sz_lst ((szAll_cons h (szAll_cons g (szAll_cons h (szAll_cons g (szAll_nil (b := 0)))))).mono (Nat.le_refl _) (Nat.le_refl _))).told (by omega) (by omega)
theorem due_or {K : PySem.W.Frag} {G0 H : Hp} {wr : Option PyData} {ans : PyData} {zw : V} {σ : L2.St} {t2 : TE} {k : VK} (hw : Wr K G0 H zw wr) (h1 : σ[4]? = some (some zw))
    (h2 : wr = none → ∀ k' : VK, (∀ z H', Same H H' → Rig K G0 H' (dueW wr ans) z → k' z H') → t2 σ H k') (go : ∀ z H', Same H H' → Rig K G0 H' (dueW wr ans) z → k z H') :
    if (!decide (zw = V.non)) = true then (tVar 4 : TE) σ H k else t2 σ H k := by
  cases wr with
  | none =>
    obtain rfl : zw = .non := hw
    exact iteF (h2 rfl k go)
  | some D =>
    have hr : Rig K G0 H (dueW (some D) ans) zw := hw.rig
    obtain ⟨p, wd, v, d, rfl, _⟩ := hw
    exact iteT ⟨_, h1, go _ H (Same.refl _) hr⟩
theorem cut_or {K : PySem.W.Frag} {G0 H : Hp} {wr : Option PyData} {zw : V} {σ : L2.St} {t1 t2 : TE} {k : VK} (P : V → Hp → Prop) (hw : Wr K G0 H zw wr)
    (h1 : ∀ D, wr = some D → ∀ k' : VK, (∀ z H', P z H' → k' z H') → t1 σ H k') (h2 : wr = none → ∀ k' : VK, (∀ z H', P z H' → k' z H') → t2 σ H k') (go : ∀ z H', P z H' → k z H') :
    if (!decide (zw = V.non)) = true then t1 σ H k else t2 σ H k := by
  cases wr with
  | none =>
    obtain rfl : zw = .non := hw
    exact iteF (h2 rfl k go)
  | some D =>
    obtain ⟨p, wd, v, d, rfl, _⟩ := hw
    exact iteT (h1 D rfl k go)
theorem ext_lst {H G : Hp} {L : Addr} {o : HO} (e : ExtN H G) (n : noT H L = none) : ExtN H (upd G L o) := fun b u q nt => by
  have bL : b ≠ L := fun w => by
    have := noT_some q nt
    rw [w, n] at this
    cases this
  rw [upd_ne bL]
  exact e b u q nt
theorem tabs_lst {TT : List (Addr × Str)} {G : Hp} {L : Addr} {xs ys : List V} (t : Tabs TT G) (h : G L = some (.lst xs)) : Tabs TT (upd G L (.lst ys)) := fun p hp => by
  obtain ⟨ps, a1, a2, a3⟩ := t p hp
  refine ⟨ps, by rw [upd_ne (ne_of a1 h (by intro w; cases w))]; exact a1, a2, fun pos cv hc => ?_⟩
  obtain ⟨c, e1, e2⟩ := a3 pos cv hc
  exact ⟨c, e1, by rw [upd_ne (ne_of e2 h (codeO_form.2 _))]; exact e2⟩
theorem new_of {H G : Hp} {L : Addr} (e : ExtN H G) (h : G L = none) : noT H L = none := by
  cases q : noT H L with
  | none => rfl
  | some o =>
    have := ground e _ _ q
    rw [h] at this
    cases this
section
variable {w : World} {K : PySem.W.Frag} {mg : Str → Option Value} {base : Heap}
def qL__law_is_right : Str := (envOfC "_law_is_right" (defScope s__law_is_right) 0 0 .none).qual ++ "<lambda>"
def TL (T : Txt K mg) : List (Addr × Str) := [(T.tP__law_is_right, qL__law_is_right)]
theorem hu__law_is_right (T : Txt K mg) : ∀ p ∈ TL T, p.1 = T.tP__law_is_right → p.2 = qL__law_is_right := fun p hp _ => by
  rw [List.mem_singleton.mp (show p ∈ [(T.tP__law_is_right, qL__law_is_right)] from hp)]
def spRight (K : PySem.W.Frag) (TT : List (Addr × Str)) : Sp := fun vs H Q _ => ∃ (vq vl v1 v2 : V) (dq dl d1 d2 : PyData), vs = [vq, vl, v1, v2] ∧ Dq K H vq dq ∧ Dq K H vl dl ∧ Dq K H v1 d1 ∧ Dq K H v2 d2 ∧ Sz 800 6 dq ∧ Sz 800 6 dl ∧ Sz 800 6 d1 ∧ Sz 800 6 d2 ∧
  Tabs TT H ∧ ∀ H', ExtN H H' → Tabs TT H' → Q (.bl true) H'
theorem ok__law_is_right (T : Txt K mg) (sm : SM base) (tb__law_is_right : TabB base mg T.c__law_is_right T.tP__law_is_right) : FnG P w K mg base 10 T.a__law_is_right T.d__law_is_right P__law_is_right (spRight K (TL T)) := by
  refine fnGL T.F__law_is_right sc__law_is_right (fun vs H Q E h => ?_) (fun A outer s H vs Q E hr hgu h => ?_)
  · obtain ⟨vq, vl, v1, v2, dq, dl, d1, d2, rfl, _⟩ := h
    rfl
  · obtain ⟨vq, vl, v1, v2, dq, dl, d1, d2, rfl, hq, hl, h1, h2, zq, zl, z1, z2, hT, k⟩ := h
    refine ⟨_, 
      (pss_cons (ps_set (i := 4) sc__law_is_right.nd rfl (Or.inl rfl) (pe_call (ok__law_wrong T) (hr.mono (by decide)) rfl T.m__law_wrong T.F__law_wrong.kp T.b__law_wrong .nil pass0 (pa_cons (pv 0) (pa_cons pe_int (pa_cons (pe_lst (pa_cons (pv 2) (pa_cons (pv 3) pa_nil))) pa_nil)))))
      (pss_cons (ps_set (i := 5) sc__law_is_right.nd rfl (Or.inl rfl) (pe_tup (pa_cons (pe_tell (T := TL T) (k := 7) (c := T.c__law_is_right) (P := T.tP__law_is_right) T.F__law_told T.b__law_told rfl T.m__law_told sc__law_told rfl (Or.inl rfl) (fun _ => gives__law_told T) tb__law_is_right rfl (.head _) (hu__law_is_right T) (hr.mono (by decide)) (lamS_by (sc := defScope s__law_is_right) (by decide +kernel)) rfl (fun _ _ _ _ _ => rfl)
        (fun A outer s H E f c' hr => (pe_callS (ok_word_sum T) (hr.mono (by decide)) rfl T.m_word_sum T.F_word_sum.kp T.b_word_sum (fun σ => passAt (takes_of rfl rfl rfl rfl) σ) (pa_cons (pv 0) (pa_cons (pv 2) (pa_cons (pv 3) pa_nil)))))) (pa_cons (pe_tell (T := TL T) (k := 7) (c := T.c__law_is_right) (P := T.tP__law_is_right) T.F__law_told T.b__law_told rfl T.m__law_told sc__law_told rfl (Or.inl rfl) (fun _ => gives__law_told T) tb__law_is_right rfl (.head _) (hu__law_is_right T) (hr.mono (by decide)) (lamS_by (sc := defScope s__law_is_right) (by decide +kernel)) rfl (fun _ _ _ _ _ => rfl)
        (fun A outer s H E f c' hr => (pe_callK0S (ok_word_sum T) (hr.mono (by decide)) rfl T.m_word_sum T.F_word_sum.kp T.q_word_sum_other_q_one (fun σ => passAt (takes_of rfl rfl rfl rfl) σ) (pk_cons (pv 3) (pk_cons (pv 0) (pk_cons (pv 2) pk_nil)))))) pa_nil))))
      (pss_cons (ps_set (i := 6) sc__law_is_right.nd rfl (Or.inl rfl) (pe_ifExp (pt_cmpR op_notN (pv 4) pe_non (nomark _)) (pv 4) (pe_tup (pa_cons pe_str (pa_cons (pe_call (ok__law_plus T) (hr.mono (by decide)) rfl T.m__law_plus T.F__law_plus.kp T.b__law_plus .nil pass0 (pa_cons (pv 0) (pa_cons (pv 2) (pa_cons (pv 3) pa_nil)))) pa_nil)))))
      (pss_cons (ps_if (pt_cmpR op_ne (pe_callB (call_tell sm hgu hr.units) (by rfl) T.m_repr (by decide +kernel) (pa_cons (pv 5) pa_nil)) (pe_callB (call_tell sm hgu hr.units) (by rfl) T.m_repr (by decide +kernel) (pa_cons (pe_tup (pa_cons (pv 6) (pa_cons (pv 6) pa_nil))) pa_nil)) (nomark _)) (pss_one (ps_ret pe_bl)) pss_nil)
      (pss_cons (ps_set (i := 5) sc__law_is_right.nd rfl (Or.inl rfl) (pe_tup (pa_cons (pe_tell (T := TL T) (k := 7) (c := T.c__law_is_right) (P := T.tP__law_is_right) T.F__law_told T.b__law_told rfl T.m__law_told sc__law_told rfl (Or.inl rfl) (fun _ => gives__law_told T) tb__law_is_right rfl (.head _) (hu__law_is_right T) (hr.mono (by decide)) (lamS_by (sc := defScope s__law_is_right) (by decide +kernel)) rfl (fun _ _ _ _ _ => rfl)
        (fun A outer s H E f c' hr => (pe_callS (ok_product T) (hr.mono (by decide)) rfl T.m_product T.F_product.kp T.b_product (fun σ => passAt (takes_of rfl rfl rfl rfl) σ) (pa_cons (pv 0) (pa_cons (pv 2) (pa_cons (pv 3) pa_nil)))))) (pa_cons (pe_tell (T := TL T) (k := 7) (c := T.c__law_is_right) (P := T.tP__law_is_right) T.F__law_told T.b__law_told rfl T.m__law_told sc__law_told rfl (Or.inl rfl) (fun _ => gives__law_told T) tb__law_is_right rfl (.head _) (hu__law_is_right T) (hr.mono (by decide)) (lamS_by (sc := defScope s__law_is_right) (by decide +kernel)) rfl (fun _ _ _ _ _ => rfl)
        (fun A outer s H E f c' hr => (pe_callK0S (ok_product T) (hr.mono (by decide)) rfl T.m_product T.F_product.kp T.q_product_one_q_other (fun σ => passAt (takes_of rfl rfl rfl rfl) σ) (pk_cons (pv 2) (pk_cons (pv 0) (pk_cons (pv 3) pk_nil)))))) pa_nil))))
      (pss_cons (ps_set (i := 6) sc__law_is_right.nd rfl (Or.inl rfl) (pe_ifExp (pt_cmpR op_notN (pv 4) pe_non (nomark _)) (pv 4) (pe_tup (pa_cons pe_str (pa_cons (pe_call (ok__law_product T) (hr.mono (by decide)) rfl T.m__law_product T.F__law_product.kp T.b__law_product .nil pass0 (pa_cons (pv 0) (pa_cons (pv 2) (pa_cons (pv 3) pa_nil)))) pa_nil)))))
      (pss_cons (ps_if (pt_cmpR op_ne (pe_callB (call_tell sm hgu hr.units) (by rfl) T.m_repr (by decide +kernel) (pa_cons (pv 5) pa_nil)) (pe_callB (call_tell sm hgu hr.units) (by rfl) T.m_repr (by decide +kernel) (pa_cons (pe_tup (pa_cons (pv 6) (pa_cons (pv 6) pa_nil))) pa_nil)) (nomark _)) (pss_one (ps_ret pe_bl)) pss_nil)
      (pss_cons (ps_set (i := 4) sc__law_is_right.nd rfl (Or.inl rfl) (pe_call (ok__law_wrong T) (hr.mono (by decide)) rfl T.m__law_wrong T.F__law_wrong.kp T.b__law_wrong .nil pass0 (pa_cons (pv 0) (pa_cons (pv 1) (pa_cons (pe_lst (pa_cons (pv 2) pa_nil)) pa_nil)))))
      (pss_cons (ps_set (i := 5) sc__law_is_right.nd rfl (Or.inl rfl) (pe_tup (pa_cons (pe_tell (T := TL T) (k := 6) (c := T.c__law_is_right) (P := T.tP__law_is_right) T.F__law_told T.b__law_told rfl T.m__law_told sc__law_told rfl (Or.inl rfl) (fun _ => gives__law_told T) tb__law_is_right rfl (.head _) (hu__law_is_right T) (hr.mono (by decide)) (lamS_by (sc := defScope s__law_is_right) (by decide +kernel)) rfl (fun _ _ _ _ _ => rfl)
        (fun A outer s H E f c' hr => (pe_callS (ok_word_times T) (hr.mono (by decide)) rfl T.m_word_times T.F_word_times.kp T.b_word_times (fun σ => passAt (takes_of rfl rfl rfl rfl) σ) (pa_cons (pv 0) (pa_cons (pv 1) (pa_cons (pv 2) pa_nil)))))) (pa_cons (pe_tell (T := TL T) (k := 6) (c := T.c__law_is_right) (P := T.tP__law_is_right) T.F__law_told T.b__law_told rfl T.m__law_told sc__law_told rfl (Or.inl rfl) (fun _ => gives__law_told T) tb__law_is_right rfl (.head _) (hu__law_is_right T) (hr.mono (by decide)) (lamS_by (sc := defScope s__law_is_right) (by decide +kernel)) rfl (fun _ _ _ _ _ => rfl)
        (fun A outer s H E f c' hr => (pe_callK0S (ok_word_times T) (hr.mono (by decide)) rfl T.m_word_times T.F_word_times.kp T.q_word_times_word_letter_q (fun σ => passAt (takes_of rfl rfl rfl rfl) σ) (pk_cons (pv 2) (pk_cons (pv 1) (pk_cons (pv 0) pk_nil)))))) pa_nil))))
      (pss_cons (ps_set (i := 6) sc__law_is_right.nd rfl (Or.inl rfl) (pe_ifExp (pt_cmpR op_notN (pv 4) pe_non (nomark _)) (pv 4) (pe_tup (pa_cons pe_str (pa_cons (pe_callTy call_tuple_of (by rfl) T.m_tuple (by decide +kernel) (pa_cons (pe_lc (own := [("_law_x", 9)]) (g := gName 9) (tt := tYes) rfl sc__law_is_right.nd (pi_tup (pv 2)) (blkOk_by (own := [("_law_x", 9)]) (N := N__law_is_right) (sc := defScope s__law_is_right) (by decide +kernel)) (fun _ _ _ _ _ => (pg_name (i := 9) sc__law_is_right.nd rfl (Or.inl rfl))) (fun _ _ _ _ _ => pts_nil) (fun _ _ _ _ _ => (pe_call (ok__law_by T) (hr.mono (by decide)) rfl T.m__law_by T.F__law_by.kp T.b__law_by .nil pass0 (pa_cons (pv 0) (pa_cons (pv 1) (pa_cons (pv 9) pa_nil)))))) pa_nil)) pa_nil)))))
      (pss_cons (ps_if (pt_cmpR op_ne (pe_callB (call_tell sm hgu hr.units) (by rfl) T.m_repr (by decide +kernel) (pa_cons (pv 5) pa_nil)) (pe_callB (call_tell sm hgu hr.units) (by rfl) T.m_repr (by decide +kernel) (pa_cons (pe_tup (pa_cons (pv 6) (pa_cons (pv 6) pa_nil))) pa_nil)) (nomark _)) (pss_one (ps_ret pe_bl)) pss_nil)
      (pss_cons (ps_set (i := 4) sc__law_is_right.nd rfl (Or.inl rfl) (pe_call (ok__law_wrong T) (hr.mono (by decide)) rfl T.m__law_wrong T.F__law_wrong.kp T.b__law_wrong .nil pass0 (pa_cons (pv 0) (pa_cons pe_int (pa_cons (pe_lst (pa_cons (pv 2) pa_nil)) pa_nil)))))
      (pss_cons (ps_set (i := 7) sc__law_is_right.nd rfl (Or.inl rfl) (pe_ifExp (pt_cmpR op_notN (pv 4) pe_non (nomark _)) (pe_tup pa_nil) (pe_callTy call_tuple_of (by rfl) T.m_tuple (by decide +kernel) (pa_cons (pe_lc (own := [("_law_at", 8), ("_law_x", 9)]) (g := gTup K 2 (gCons (gName 8) (gCons (gName 9) gNil)))  rfl sc__law_is_right.nd (pi_enumT (by rfl) T.m_enumerate (pa_cons (pv 2) pa_nil)) (blkOk_by (own := [("_law_at", 8), ("_law_x", 9)]) (N := N__law_is_right) (sc := defScope s__law_is_right) (by decide +kernel)) (fun _ _ _ _ _ => (pg_tup rfl (pgs_cons (pg_name (i := 8) sc__law_is_right.nd rfl (Or.inl rfl)) (pgs_cons (pg_name (i := 9) sc__law_is_right.nd rfl (Or.inl rfl)) pgs_nil)))) (fun _ _ _ _ _ => (pts_one (pt_cmpR op_ne (pv 9) pe_int (nomark _)))) (fun _ _ _ _ _ => (pv 8))) pa_nil))))
      (pss_cons (ps_set (i := 5) sc__law_is_right.nd rfl (Or.inl rfl) (pe_lst (pa_cons (pe_tell (T := TL T) (k := 6) (c := T.c__law_is_right) (P := T.tP__law_is_right) T.F__law_told T.b__law_told rfl T.m__law_told sc__law_told rfl (Or.inl rfl) (fun _ => gives__law_told T) tb__law_is_right rfl (.head _) (hu__law_is_right T) (hr.mono (by decide)) (lamS_by (sc := defScope s__law_is_right) (by decide +kernel)) rfl (fun _ _ _ _ _ => rfl)
        (fun A outer s H E f c' hr => (pe_callS (ok_support T) (hr.mono (by decide)) rfl T.m_support T.F_support.kp T.b_support (fun σ => passAt (takes_of rfl rfl rfl rfl) σ) (pa_cons (pv 0) (pa_cons (pv 2) pa_nil))))) (pa_cons (pe_tell (T := TL T) (k := 7) (c := T.c__law_is_right) (P := T.tP__law_is_right) T.F__law_told T.b__law_told rfl T.m__law_told sc__law_told rfl (Or.inl rfl) (fun _ => gives__law_told T) tb__law_is_right rfl (.head _) (hu__law_is_right T) (hr.mono (by decide)) (lamS_by (sc := defScope s__law_is_right) (by decide +kernel)) rfl (fun _ _ _ _ _ => rfl)
        (fun A outer s H E f c' hr => (pe_callS (ok_weight T) (hr.mono (by decide)) rfl T.m_weight T.F_weight.kp T.b_weight (fun σ => passAt (takes_of rfl rfl rfl rfl) σ) (pa_cons (pv 0) (pa_cons (pv 2) pa_nil))))) pa_nil))))
      (pss_cons (ps_expr (pe_bm PySem.F.plainAttrs_list PySem.F.slot_list_append PySem.F.type_list_append mt_append (pv 5) (pa_cons (pe_tell (T := TL T) (k := 6) (c := T.c__law_is_right) (P := T.tP__law_is_right) T.F__law_told T.b__law_told rfl T.m__law_told sc__law_told rfl (Or.inl rfl) (fun _ => gives__law_told T) tb__law_is_right rfl (.head _) (hu__law_is_right T) (hr.mono (by decide)) (lamS_by (sc := defScope s__law_is_right) (by decide +kernel)) rfl (fun _ _ _ _ _ => rfl)
        (fun A outer s H E f c' hr => (pe_callK0S (ok_support T) (hr.mono (by decide)) rfl T.m_support T.F_support.kp T.q_support_word_q (fun σ => passAt (takes_of rfl rfl rfl rfl) σ) (pk_cons (pv 2) (pk_cons (pv 0) pk_nil))))) pa_nil)))
      (pss_cons (ps_expr (pe_bm PySem.F.plainAttrs_list PySem.F.slot_list_append PySem.F.type_list_append mt_append (pv 5) (pa_cons (pe_tell (T := TL T) (k := 7) (c := T.c__law_is_right) (P := T.tP__law_is_right) T.F__law_told T.b__law_told rfl T.m__law_told sc__law_told rfl (Or.inl rfl) (fun _ => gives__law_told T) tb__law_is_right rfl (.head _) (hu__law_is_right T) (hr.mono (by decide)) (lamS_by (sc := defScope s__law_is_right) (by decide +kernel)) rfl (fun _ _ _ _ _ => rfl)
        (fun A outer s H E f c' hr => (pe_callK0S (ok_weight T) (hr.mono (by decide)) rfl T.m_weight T.F_weight.kp T.q_weight_word_q (fun σ => passAt (takes_of rfl rfl rfl rfl) σ) (pk_cons (pv 2) (pk_cons (pv 0) pk_nil))))) pa_nil)))
      (pss_cons (ps_set (i := 6) sc__law_is_right.nd rfl (Or.inl rfl) (pe_ifExp (pt_cmpR op_notN (pv 4) pe_non (nomark _)) (pe_lst (pa_cons (pv 4) (pa_cons (pv 4) pa_nil))) (pe_lst (pa_cons (pe_tup (pa_cons pe_str (pa_cons (pv 7) pa_nil))) (pa_cons (pe_tup (pa_cons pe_str (pa_cons (pe_callB call_len_seq (by rfl) T.m_len (by decide +kernel) (pa_cons (pv 7) pa_nil)) pa_nil))) pa_nil)))))
      (pss_one (ps_ret (pe_cmpR op_eq (pe_callB (call_tell sm hgu hr.units) (by rfl) T.m_repr (by decide +kernel) (pa_cons (pv 5) pa_nil)) (pe_callB (call_tell sm hgu hr.units) (by rfl) T.m_repr (by decide +kernel) (pa_cons (pe_op op_cat (pv 6) (pv 6)) pa_nil)) (nomark _))))))))))))))))))))), ?_⟩
    have hst : L2.start N__law_is_right [vq, vl, v1, v2] = [some vq, some vl, some v1, some v2, none, none, none, none, none, none] := rfl
    have qG : Dq K (noT H) vq dq := Dq.noT _ _ hq
    have lG : Dq K (noT H) vl dl := Dq.noT _ _ hl
    have aG : Dq K (noT H) v1 d1 := Dq.noT _ _ h1
    have bG : Dq K (noT H) v2 d2 := Dq.noT _ _ h2
    have l1 : Short d1 := sz_short z1 (by decide)
    have l2 : Short d2 := sz_short z2 (by decide)
    refine ⟨_, rfl, _, rfl, _, rfl, line_s (Nat.le_of_ble_eq_true rfl), fun L hL => ?_⟩
    have s0 := same_upd (o := .lst [v1, v2]) hL
    refine ⟨noT H, vq, .int 0, v1, v2, L, [v1, v2], dq, .int 0, d1, d2, rfl, noT_sub.trans s0, qG, .int 0, aG, bG, l1, l2, SqL.of upd_same, .inl rfl, fun zw H1 s1 hw => ?_⟩
    have e1 : ExtN H H1 := same_extN (s0.trans s1)
    have T1 := hT.ext (s0.trans s1)
    clear s0 s1 hL
    refine ⟨T1, fun H2 e2 T2 => ⟨_, rfl, _, rfl, _, rfl, lam_sum (G0 := noT H) T qG aG bG l1 l2 (ground (e1.trans e2)) fun za H3 s3 ra => ?_⟩⟩
    refine ⟨T2.ext s3, fun H4 e4 T4 => ⟨_, rfl, _, rfl, _, rfl, lam_sum (G0 := noT H) T qG aG bG l1 l2 (ground (e1.trans (e2.trans ((same_extN s3).trans e4)))) fun zb H5 s5 rb => ?_⟩⟩
    refine ⟨line_s (Nat.le_of_ble_eq_true rfl), fun p hp => ?_⟩
    have x5 : ExtN H1 H5 := e2.trans ((same_extN s3).trans (e4.trans (same_extN s5)))
    have s6 := same_upd (o := .tup [za, zb]) hp
    have zD : Sz 1100 7 (dueW (wrD dq (.int 0) d1 d2) (sumA dq d1 d2)) := sz_due (b := 1000) (n := 6) zq.mono (sz_int (by decide)) z1.mono z2.mono fun hn => by
      obtain ⟨q, eq, lq, _, w1, w2, _⟩ := wr_none hn
      have r1 := word_row aG l1 w1
      have r2 := word_row bG l2 w2
      unfold sumA qD
      rw [eq]
      exact row_sz lq (zip_row lq r1.1 r2.1) (by rw [List.length_zipWith]; omega)
    refine ⟨_, rfl, rfl, _, rfl, ?_⟩
    refine due_or (G0 := noT H) (ans := sumA dq d1 d2) (hw.keep (Keep.trans (Keep.ext x5) (Keep.of s6))) rfl (fun hn k' go => ?_) fun zd H7 s7 rd => ?_
    · obtain ⟨q, eq, lq, _, w1, w2, _⟩ := wr_none hn
      obtain ⟨rfl, rfl⟩ := dq_some hq eq
      have g6 : Same (noT H) (upd H5 p (.tup [za, zb])) := (ground (e1.trans x5)).trans s6
      obtain ⟨r1, t1, n1, _⟩ := word_row (Dq.same g6 _ _ aG) l1 w1
      obtain ⟨r2, t2, n2, _⟩ := word_row (Dq.same g6 _ _ bG) l2 w2
      refine ⟨_, rfl, _, rfl, _, rfl, q, v1, v2, _, _, rfl, lq, t1, t2, n1, fun z H7 s7 hz => ⟨line_s (Nat.le_of_ble_eq_true rfl), fun p7 hp7 => ?_⟩⟩
      refine go _ _ (s7.trans (same_upd hp7)) ⟨p7, _, z, _, rfl, upd_same, (Val.keep (Keep.of (same_upd hp7)) (.inr ⟨_, hz, rfl⟩)), ?_⟩
      rw [hn]
      rfl
    have e7 : ExtN H H7 := e1.trans (x5.trans (same_extN (s6.trans s7)))
    have T7 := T4.ext (s5.trans (s6.trans s7))
    have ra7 := ra.keep (Keep.trans (Keep.ext (e4.trans (same_extN s5))) (Keep.of (s6.trans s7)))
    have rb7 := rb.keep (Keep.of (s6.trans s7))
    have hp7 : H7 p = some (.tup [za, zb]) := s7 _ _ upd_same
    have s67 := s6.trans s7
    clear s7
    refine ⟨_, rfl, .ref p, .tuple [_, _], rfl, .tup (SqT.of hp7) (.cons (ra7.dq (ground e7)) (.cons (rb7.dq (ground e7)) .nil)), told2 zD, ?_⟩
    refine ⟨_, rfl, _, rfl, line_s (Nat.le_of_ble_eq_true rfl), fun p8 hp8 => ?_⟩
    have s8 := same_upd (o := .tup [zd, zd]) hp8
    have rd8 := (rd.keep (Keep.of s8)).dq ((ground e7).trans s8)
    refine ⟨.ref p8, .tuple [_, _], rfl, .tup (SqT.of upd_same) (.cons rd8 (.cons rd8 .nil)), told2 zD, rfl, _, rfl, ?_⟩
    rw [decide_eq_true rfl]
    refine iteF ?_
    have hw8 := hw.keep (Keep.ext (x5.trans (same_extN (s67.trans s8))))
    have e8 := e7.trans (same_extN s8)
    have T8 := T7.ext s8
    generalize upd H7 p8 (.tup [zd, zd]) = H8 at hw8 e8 T8 ⊢
    clear s8 rd8 hp8 rd ra7 rb7 hp7 T7 e7 s67 s6 x5 hp rb s5 T4 e4 ra s3 T2 e2 T1 e1 hw zD
    refine ⟨T8, fun H2 e2 T2 => ⟨_, rfl, _, rfl, _, rfl, lam_prod (G0 := noT H) T qG aG bG l1 l2 (ground (e8.trans e2)) fun za H3 s3 ra => ?_⟩⟩
    refine ⟨T2.ext s3, fun H4 e4 T4 => ⟨_, rfl, _, rfl, _, rfl, lam_prod (G0 := noT H) T qG aG bG l1 l2 (ground (e8.trans (e2.trans ((same_extN s3).trans e4)))) fun zb H5 s5 rb => ?_⟩⟩
    refine ⟨line_s (Nat.le_of_ble_eq_true rfl), fun p hp => ?_⟩
    have x5 : ExtN H8 H5 := e2.trans ((same_extN s3).trans (e4.trans (same_extN s5)))
    have s6 := same_upd (o := .tup [za, zb]) hp
    have zD : Sz 1100 7 (dueW (wrD dq (.int 0) d1 d2) (prodA dq d1 d2)) := sz_due (b := 1000) (n := 6) zq.mono (sz_int (by decide)) z1.mono z2.mono fun hn => by
      obtain ⟨q, eq, lq, _, w1, w2, _⟩ := wr_none hn
      have r1 := word_row aG l1 w1
      have r2 := word_row bG l2 w2
      unfold prodA qD
      rw [eq]
      exact sz_int (let_small lq (rowP_let lq r1.1 r2.1))
    refine ⟨_, rfl, rfl, _, rfl, ?_⟩
    refine due_or (G0 := noT H) (ans := prodA dq d1 d2) (hw8.keep (Keep.trans (Keep.ext x5) (Keep.of s6))) rfl (fun hn k' go => ?_) fun zd H7 s7 rd => ?_
    · obtain ⟨q, eq, lq, _, w1, w2, _⟩ := wr_none hn
      obtain ⟨rfl, rfl⟩ := dq_some hq eq
      have g6 : Same (noT H) (upd H5 p (.tup [za, zb])) := (ground (e8.trans x5)).trans s6
      obtain ⟨r1, t1, n1, _⟩ := word_row (Dq.same g6 _ _ aG) l1 w1
      obtain ⟨r2, t2, n2, _⟩ := word_row (Dq.same g6 _ _ bG) l2 w2
      refine ⟨_, rfl, _, rfl, _, rfl, q, v1, v2, _, _, rfl, lq, t1, t2, r1, r2, n1, fun H7 s7 => ⟨line_s (Nat.le_of_ble_eq_true rfl), fun p7 hp7 => ?_⟩⟩
      refine go _ _ (s7.trans (same_upd hp7)) ⟨p7, _, _, _, rfl, upd_same, .inl (.int _), ?_⟩
      rw [hn]
      rfl
    have e7 : ExtN H H7 := e8.trans (x5.trans (same_extN (s6.trans s7)))
    have T7 := T4.ext (s5.trans (s6.trans s7))
    have ra7 := ra.keep (Keep.trans (Keep.ext (e4.trans (same_extN s5))) (Keep.of (s6.trans s7)))
    have rb7 := rb.keep (Keep.of (s6.trans s7))
    have hp7 : H7 p = some (.tup [za, zb]) := s7 _ _ upd_same
    have s67 := s6.trans s7
    clear s7
    refine ⟨_, rfl, .ref p, .tuple [_, _], rfl, .tup (SqT.of hp7) (.cons (ra7.dq (ground e7)) (.cons (rb7.dq (ground e7)) .nil)), told2 zD, ?_⟩
    refine ⟨_, rfl, _, rfl, line_s (Nat.le_of_ble_eq_true rfl), fun p8 hp8 => ?_⟩
    have s8 := same_upd (o := .tup [zd, zd]) hp8
    have rd8 := (rd.keep (Keep.of s8)).dq ((ground e7).trans s8)
    refine ⟨.ref p8, .tuple [_, _], rfl, .tup (SqT.of upd_same) (.cons rd8 (.cons rd8 .nil)), told2 zD, rfl, _, rfl, ?_⟩
    rw [decide_eq_true rfl]
    refine iteF ?_
    have hw89 := hw8.keep (Keep.ext (x5.trans (same_extN (s67.trans s8))))
    have e9 := e7.trans (same_extN s8)
    have T9 := T7.ext s8
    generalize upd H7 p8 (.tup [zd, zd]) = H9 at hw89 e9 T9 ⊢
    clear s8 rd8 hp8 rd ra7 rb7 hp7 T7 e7 s67 s6 x5 hp rb s5 T4 e4 ra s3 T2 e2 T8 e8 hw8 zD
    refine ⟨_, rfl, _, rfl, _, rfl, line_s (Nat.le_of_ble_eq_true rfl), fun L hL => ?_⟩
    have s0 := same_upd (o := .lst [v1]) hL
    refine ⟨noT H, vq, vl, v1, v1, L, [v1], dq, dl, d1, d1, rfl, (ground e9).trans s0, qG, lG, aG, aG, l1, l1, SqL.of upd_same, .inr ⟨rfl, rfl, rfl⟩, fun zw H1 s1 hw => ?_⟩
    have e1 : ExtN H H1 := e9.trans (same_extN (s0.trans s1))
    have T1 := T9.ext (s0.trans s1)
    clear s0 s1 hL hw89 e9 T9
    refine ⟨T1, fun H2 e2 T2 => ⟨_, rfl, _, rfl, _, rfl, lam_times (G0 := noT H) T qG lG aG l1 (ground (e1.trans e2)) fun za H3 s3 ra => ?_⟩⟩
    refine ⟨T2.ext s3, fun H4 e4 T4 => ⟨_, rfl, _, rfl, _, rfl, lam_times (G0 := noT H) T qG lG aG l1 (ground (e1.trans (e2.trans ((same_extN s3).trans e4)))) fun zb H5 s5 rb => ?_⟩⟩
    refine ⟨line_s (Nat.le_of_ble_eq_true rfl), fun p hp => ?_⟩
    have x5 : ExtN H1 H5 := e2.trans ((same_extN s3).trans (e4.trans (same_extN s5)))
    have s6 := same_upd (o := .tup [za, zb]) hp
    have zD : Sz 1100 7 (dueW (wrD dq dl d1 d1) (timesA dq dl d1)) := sz_due (b := 1000) (n := 6) zq.mono zl.mono z1.mono z1.mono fun hn => by
      obtain ⟨q, eq, lq, hlt, w1, _, _⟩ := wr_none hn
      obtain ⟨c, ec, lc⟩ := fromL hlt
      have r1 := word_row aG l1 w1
      unfold timesA qD
      rw [eq, ec]
      refine row_sz lq (fun x hx => ?_) (by rw [List.length_map]; exact r1.2.2.1)
      obtain ⟨y, hy, rfl⟩ := List.mem_map.mp hx
      exact let_tim lq lc (r1.1 y hy)
    refine ⟨_, rfl, rfl, _, rfl, ?_⟩
    refine due_or (G0 := noT H) (ans := timesA dq dl d1) (hw.keep (Keep.trans (Keep.ext x5) (Keep.of s6))) rfl (fun hn k' go => ?_) fun zd H7 s7 rd => ?_
    · obtain ⟨q, eq, lq, hlt, w1, _, _⟩ := wr_none hn
      obtain ⟨c, ec, lc⟩ := fromL hlt
      obtain ⟨rfl, rfl⟩ := dq_some hq eq
      obtain ⟨rfl, rfl⟩ := dq_some hl ec
      have g6 : Same (noT H) (upd H5 p (.tup [za, zb])) := (ground (e1.trans x5)).trans s6
      obtain ⟨r1, ⟨a, rfl, ha⟩, n1, _⟩ := word_row (Dq.same g6 _ _ aG) l1 w1
      generalize hns : rowD d1 = ns at r1 ha n1
      refine ⟨_, rfl, a, rfl, ⟨_, ha⟩, fun D hD => lc_it (walk_tup (K := K) (a := a) (xs := ns.map V.int))
        (fun i H' => Same (upd H5 p (.tup [za, zb])) H' ∧ H' D = some (.lst (((ns.map (ltim q c)).take i).map V.int))) ⟨same_upd hD, by rw [upd_same]; simp⟩ (fun i H' _ ⟨e, _⟩ => e.tup ha) ?_ ?_⟩
      · rintro i x H' _ hi ⟨e, hacc⟩ ⟨rfl, hx⟩
        obtain ⟨y, hy, rfl⟩ := int_at hx
        have hiL : i < ns.length := (List.getElem?_eq_some_iff.mp hy).1
        have ly := r1 y (List.mem_of_getElem? hy)
        refine ⟨rfl, ?_⟩
        refine ⟨_, rfl, _, rfl, _, rfl, q, c, y, rfl, lq, lc, ly, fun H7 s7 => ⟨_, s7 _ _ hacc, ?_, same_set hD (e.trans s7), ?_⟩⟩
        · rw [List.length_map, List.length_take]
          exact line_le (by omega)
        · rw [upd_same, by_eq lq lc ly, List.take_add_one, List.getElem?_map, hy]
          simp
      · rintro H' ⟨e, hacc⟩
        rw [List.take_of_length_le (by rw [List.length_map, List.length_map]; exact Nat.le_refl _)] at hacc
        refine ⟨D, _, rfl, .inl ⟨SqL.of hacc, fun p8 hp8 => ⟨line_s (Nat.le_of_ble_eq_true rfl), fun p7 hp7 => ?_⟩⟩⟩
        refine go _ _ (e.trans ((same_upd hp8).trans (same_upd hp7))) ⟨p7, _, _, _, rfl, upd_same, .inr ⟨_, ⟨p8, rfl, SqT.of (same_upd hp7 _ _ upd_same)⟩, rfl⟩, ?_⟩
        rw [hn]
        unfold timesA
        rw [hns]
        rfl
    have e7 : ExtN H H7 := e1.trans (x5.trans (same_extN (s6.trans s7)))
    have T7 := T4.ext (s5.trans (s6.trans s7))
    have ra7 := ra.keep (Keep.trans (Keep.ext (e4.trans (same_extN s5))) (Keep.of (s6.trans s7)))
    have rb7 := rb.keep (Keep.of (s6.trans s7))
    have hp7 : H7 p = some (.tup [za, zb]) := s7 _ _ upd_same
    have s67 := s6.trans s7
    clear s7
    refine ⟨_, rfl, .ref p, .tuple [_, _], rfl, .tup (SqT.of hp7) (.cons (ra7.dq (ground e7)) (.cons (rb7.dq (ground e7)) .nil)), told2 zD, ?_⟩
    refine ⟨_, rfl, _, rfl, line_s (Nat.le_of_ble_eq_true rfl), fun p8 hp8 => ?_⟩
    have s8 := same_upd (o := .tup [zd, zd]) hp8
    have rd8 := (rd.keep (Keep.of s8)).dq ((ground e7).trans s8)
    refine ⟨.ref p8, .tuple [_, _], rfl, .tup (SqT.of upd_same) (.cons rd8 (.cons rd8 .nil)), told2 zD, rfl, _, rfl, ?_⟩
    rw [decide_eq_true rfl]
    refine iteF ?_
    have hw10 := hw.keep (Keep.ext (x5.trans (same_extN (s67.trans s8))))
    have e10 := e7.trans (same_extN s8)
    have T10 := T7.ext s8
    generalize upd H7 p8 (.tup [zd, zd]) = H10 at hw10 e10 T10 ⊢
    clear s8 rd8 hp8 rd ra7 rb7 hp7 T7 e7 s67 s6 x5 hp rb s5 T4 e4 ra s3 T2 e2 T1 e1 hw zD
    refine ⟨_, rfl, _, rfl, line_s (Nat.le_of_ble_eq_true rfl), fun L0 hL0 => ?_⟩
    have s0 := same_upd (o := .lst [v1]) hL0
    refine ⟨noT H, vq, .int 0, v1, v1, L0, [v1], dq, .int 0, d1, d1, rfl, (ground e10).trans s0, qG, .int 0, aG, aG, l1, l1, SqL.of upd_same, .inr ⟨rfl, rfl, rfl⟩, fun zw H1 s1 hw => ?_⟩
    have e1 : ExtN H H1 := e10.trans (same_extN (s0.trans s1))
    have T1 := T10.ext (s0.trans s1)
    clear s0 s1 hL0 hw10 e10 T10
    simp only [hst, List.set_cons_succ, List.set_cons_zero]
    refine ⟨_, rfl, rfl, _, rfl, ?_⟩
    refine cut_or (fun z H' => Same H1 H' ∧ (wrD dq (.int 0) d1 d1 = none → TI K H' z (supp (rowD d1)))) hw (fun D hD k' go => ?_) (fun hn k' go => ?_) fun zp H2 ⟨s2, hzp⟩ => ?_
    · exact ⟨line_s (Nat.le_of_ble_eq_true rfl), fun p hp => go _ _ ⟨same_upd hp, fun hn => by rw [hD] at hn; cases hn⟩⟩
    · obtain ⟨q, eq, lq, _, w1, _, _⟩ := wr_none hn
      obtain ⟨r1, ⟨a, rfl, ha⟩, n1, _⟩ := word_row (Dq.same (ground e1) _ _ aG) l1 w1
      generalize hns : rowD d1 = ns at r1 ha n1 go
      refine ⟨_, rfl, a, _, rfl, ha, fun D hD => lc_it (walk_enumT (K := K) (a := a) (xs := ns.map V.int))
        (fun i H' => Same H1 H' ∧ H' D = some (.lst ((((List.range i).filter fun j => ns.getD j 0 != 0).map fun j : Nat => (j : Int)).map V.int))) ⟨same_upd hD, upd_same⟩ (fun i H' _ ⟨e, _⟩ => e.tup ha) ?_ ?_⟩
      · rintro i v H' H'' hi ⟨e, hN0⟩ ⟨T0, x, y, rfl, hT0, rfl, hx, hy⟩
        obtain rfl : x = V.int (i : Nat) := (Option.some.inj hx).symm
        obtain ⟨c, hc, rfl⟩ := int_at hy
        have hi' : i < ns.length := (List.getElem?_eq_some_iff.mp hc).1
        have gd : ns.getD i 0 = c := by rw [List.getD_eq_getElem?_getD, hc]; rfl
        have e' := e.trans (same_upd (o := .tup [.int (i : Nat), .int c]) hT0)
        have hN := (upd_ne (o := HO.tup [.int (i : Nat), .int c]) (ne_of_none hN0 hT0)).trans hN0
        refine ⟨T0, _, rfl, SqT.of upd_same, rfl, _, _, rfl, _, _, rfl, rfl, rfl, ?_⟩
        have sz : ((((List.range i).filter fun j => ns.getD j 0 != 0).map fun j : Nat => (j : Int)).map V.int).length < sizeLine := by
          rw [List.length_map, List.length_map]
          exact line_le (Nat.le_trans (List.length_filter_le _ _) (by rw [List.length_range]; omega))
        refine ⟨_, rfl, rfl, _, rfl, ?_⟩
        rw [dec_int]
        refine ite2 (fun cc => ?_) (fun cc => ?_)
        · refine ⟨_, rfl, _, hN, sz, same_set hD e', ?_⟩
          have c' : (ns.getD i 0 != 0) = true := by
            rw [gd]
            simpa using cc
          rw [upd_same, List.range_succ, List.filter_append, List.map_append, List.map_append]
          rw [List.filter_cons_of_pos (by exact c')]
          rfl
        · refine ⟨e', ?_⟩
          have c' : ¬ ((ns.getD i 0 != 0) = true) := by
            rw [gd]
            simpa using cc
          rw [List.range_succ, List.filter_append, List.filter_cons_of_neg (by exact c'), List.filter_nil, List.append_nil]
          exact hN
      · rintro H' ⟨e, hN⟩
        refine ⟨D, _, rfl, .inl ⟨SqL.of hN, fun p8 hp8 => ?_⟩⟩
        refine go _ _ ⟨e.trans (same_upd hp8), fun _ => ⟨p8, rfl, ?_⟩⟩
        have z : (ns.map V.int).length = ns.length := List.length_map _
        unfold supp
        rw [← z]
        exact SqT.of upd_same
    have e2 : ExtN H H2 := e1.trans (same_extN s2)
    have T2 := T1.ext s2
    have hw2 := hw.keep (Keep.of s2)
    clear s2 hw e1 T1
    simp only [List.set_cons_succ, List.set_cons_zero]
    refine ⟨T2, fun H3 e3 T3 => ⟨_, rfl, _, rfl, lam_supp (G0 := noT H) T qG aG l1 (ground (e2.trans e3)) fun za H4 s4 ra => ⟨T3.ext s4, fun H5 e5 T5 => ⟨_, rfl, _, rfl, lam_weight (G0 := noT H) T qG aG l1 (ground (e2.trans (e3.trans ((same_extN s4).trans e5)))) fun zb H6 s6 rb => ⟨line_s (Nat.le_of_ble_eq_true rfl), fun L hL => ?_⟩⟩⟩⟩⟩
    have x6 : ExtN H2 H6 := e3.trans ((same_extN s4).trans (e5.trans (same_extN s6)))
    have s7 := same_upd (o := .lst [za, zb]) hL
    have nL := new_of (e2.trans x6) hL
    have e7 : ExtN H (upd H6 L (.lst [za, zb])) := e2.trans (x6.trans (same_extN s7))
    have T7 := T5.ext (s6.trans s7)
    have k7 : Keep H2 (upd H6 L (.lst [za, zb])) := (Keep.ext x6).trans (Keep.of s7)
    have ra7 := ra.keep ((Keep.ext (e5.trans (same_extN s6))).trans (Keep.of s7))
    have rb7 := rb.keep (Keep.of s7)
    have hL7 : (upd H6 L (.lst [za, zb])) L = some (.lst [za, zb]) := upd_same
    generalize upd H6 L (.lst [za, zb]) = H7 at e7 T7 k7 ra7 rb7 hL7 ⊢
    clear s7 x6 hL rb s6 T5 e5 ra s4 T3 e3 T2
    refine ⟨_, rfl, .inl ⟨rfl, _, SqL.of hL7⟩, T7, fun H8 e8 T8 => ⟨_, rfl, _, rfl, lam_supp (G0 := noT H) T qG aG l1 (ground (e7.trans e8)) fun zc H9 s9 rc => ?_⟩⟩
    have n9 := s9 _ _ (e8 _ _ hL7 (by intro ps z; cases z))
    refine ⟨L, _, _, rfl, rfl, n9, line_le (Nat.le_of_ble_eq_true rfl), ?_⟩
    have e10 : ExtN H (upd H9 L (.lst ([za, zb] ++ [zc]))) := ext_lst (e7.trans (e8.trans (same_extN s9))) nL
    have T10 : Tabs (TL T) (upd H9 L (.lst ([za, zb] ++ [zc]))) := tabs_lst (T8.ext s9) n9
    have kk : Keep H7 (upd H9 L (.lst ([za, zb] ++ [zc]))) := (Keep.ext e8).trans ((Keep.of s9).trans (Keep.lst n9))
    have k10 := k7.trans kk
    have ra10 := ra7.keep kk
    have rb10 := rb7.keep kk
    have rc10 := rc.keep (Keep.lst (ys := [za, zb] ++ [zc]) n9)
    have hL10 : (upd H9 L (.lst ([za, zb] ++ [zc]))) L = some (.lst ([za, zb] ++ [zc])) := upd_same
    generalize upd H9 L (.lst ([za, zb] ++ [zc])) = H10 at e10 T10 kk k10 ra10 rb10 rc10 hL10 ⊢
    clear kk n9 rc s9 T8 e8 k7 ra7 rb7 hL7 T7 e7
    refine ⟨_, rfl, .inl ⟨rfl, _, SqL.of hL10⟩, T10, fun H8 e8 T8 => ⟨_, rfl, _, rfl, lam_weight (G0 := noT H) T qG aG l1 (ground (e10.trans e8)) fun zd' H9 s9 rd => ?_⟩⟩
    have n9 := s9 _ _ (e8 _ _ hL10 (by intro ps z; cases z))
    refine ⟨L, _, _, rfl, rfl, n9, line_le (Nat.le_of_ble_eq_true rfl), ?_⟩
    have e11 : ExtN H (upd H9 L (.lst ([za, zb] ++ [zc] ++ [zd']))) := ext_lst (e10.trans (e8.trans (same_extN s9))) nL
    have T11 : Tabs (TL T) (upd H9 L (.lst ([za, zb] ++ [zc] ++ [zd']))) := tabs_lst (T8.ext s9) n9
    have kk : Keep H10 (upd H9 L (.lst ([za, zb] ++ [zc] ++ [zd']))) := (Keep.ext e8).trans ((Keep.of s9).trans (Keep.lst n9))
    have k11 := k10.trans kk
    have ra11 := ra10.keep kk
    have rb11 := rb10.keep kk
    have rc11 := rc10.keep kk
    have rd11 := rd.keep (Keep.lst (ys := [za, zb] ++ [zc] ++ [zd']) n9)
    have hL11 : (upd H9 L (.lst ([za, zb] ++ [zc] ++ [zd']))) L = some (.lst ([za, zb] ++ [zc] ++ [zd'])) := upd_same
    generalize upd H9 L (.lst ([za, zb] ++ [zc] ++ [zd'])) = H11 at e11 T11 kk k11 ra11 rb11 rc11 rd11 hL11 ⊢
    clear kk n9 rd s9 T8 e8 k10 ra10 rb10 rc10 hL10 T10 e10
    have hw11 := hw2.keep k11
    simp only [List.set_cons_succ, List.set_cons_zero]
    refine ⟨_, rfl, rfl, _, rfl, ?_⟩
    refine cut_or (fun z H' => Same H11 H' ∧ ∃ Ld x y, z = .ref Ld ∧ H' Ld = some (.lst [x, y]) ∧ Rig K (noT H) H' (dueW (wrD dq (.int 0) d1 d1) (suppA d1)) x ∧ Rig K (noT H) H' (dueW (wrD dq (.int 0) d1 d1) (weightA d1)) y) hw11 (fun D hD k' go => ?_) (fun hn k' go => ?_) fun zl' H12 ⟨s12, hzl⟩ => ?_
    · rw [hD] at hw11 go
      exact ⟨_, rfl, _, rfl, line_s (Nat.le_of_ble_eq_true rfl), fun p hp => go _ _ ⟨same_upd hp, p, _, _, rfl, upd_same, hw11.rig.keep (Keep.of (same_upd hp)), hw11.rig.keep (Keep.of (same_upd hp))⟩⟩
    · obtain ⟨q, eq, lq, _, w1, _, _⟩ := wr_none hn
      obtain ⟨a, rfl, ha⟩ := hzp hn
      have ha := k11.sqT ha
      rw [hn] at go
      refine ⟨_, rfl, line_s (Nat.le_of_ble_eq_true rfl), fun p1 hp1 => ⟨_, rfl, a, _, rfl, .inr (sqT_same (same_upd hp1) ha), line_s (Nat.le_of_ble_eq_true rfl), fun p2 hp2 => ⟨line_s (Nat.le_of_ble_eq_true rfl), fun p3 hp3 => ?_⟩⟩⟩
      have b1 := same_upd (o := .tup [.str "told", .ref a]) hp1
      have b2 := same_upd (o := .tup [.str "told", .int (((supp (rowD d1)).map V.int).length : Int)]) hp2
      have b3 := same_upd (o := .lst [.ref p1, .ref p2]) hp3
      refine go _ _ ⟨b1.trans (b2.trans b3), p3, _, _, rfl, upd_same, ⟨p1, _, _, _, rfl, b3 _ _ (b2 _ _ upd_same), .inr ⟨_, ⟨a, rfl, sqT_same (b1.trans (b2.trans b3)) ha⟩, rfl⟩, rfl⟩, ⟨p2, _, _, _, rfl, b3 _ _ upd_same, .inl (.int _), ?_⟩⟩
      rw [List.length_map]
      rfl
    obtain ⟨Ld, x, y, rfl, hLd, rx, ry⟩ := hzl
    have zS : Sz 1100 7 (dueW (wrD dq (.int 0) d1 d1) (suppA d1)) := sz_due (b := 1000) (n := 6) zq.mono (sz_int (by decide)) z1.mono z1.mono fun hn => by
      obtain ⟨q, eq, lq, _, w1, _, _⟩ := wr_none hn
      have r1 := word_row aG l1 w1
      exact sz_tup ((szAll_ints _ (supp_small r1.2.2.1)).mono (supp_le r1.2.2.1) (Nat.le_refl _))
    have zW : Sz 1100 7 (dueW (wrD dq (.int 0) d1 d1) (weightA d1)) := sz_due (b := 1000) (n := 6) zq.mono (sz_int (by decide)) z1.mono z1.mono fun hn => by
      obtain ⟨q, eq, lq, _, w1, _, _⟩ := wr_none hn
      have r1 := word_row aG l1 w1
      have h42 : (10 : Nat) ^ 42 > 1000 := by decide
      have := supp_le r1.2.2.1
      exact sz_int (by omega)
    have hL12 := s12 _ _ hL11
    have e12 := e11.trans (same_extN s12)
    have T12 := T11.ext s12
    have g12 := ground e12
    have kp := Keep.of s12
    refine ⟨_, rfl, .ref L, .list [_, _, _, _], rfl, .lst (SqL.of hL12) (.cons ((ra11.keep kp).dq g12) (.cons ((rb11.keep kp).dq g12) (.cons ((rc11.keep kp).dq g12) (.cons ((rd11.keep kp).dq g12) .nil)))), told4 zS zW, ?_⟩
    refine ⟨_, rfl, _, rfl, Ld, Ld, _, _, rfl, rfl, hLd, hLd, line_s (Nat.le_of_ble_eq_true rfl), fun p hp => ?_⟩
    have sp := same_upd (o := .lst ([x, y] ++ [x, y])) hp
    have gp := g12.trans sp
    have rxp := (rx.keep (Keep.of sp)).dq gp
    have ryp := (ry.keep (Keep.of sp)).dq gp
    refine ⟨.ref p, .list [_, _, _, _], rfl, .lst (SqL.of upd_same) (.cons rxp (.cons ryp (.cons rxp (.cons ryp .nil)))), told4 zS zW, rfl, ?_⟩
    rw [decide_eq_true rfl]
    exact k _ (e12.trans (same_extN sp)) (T12.ext sp)
end
end K05
end
section
set_option maxRecDepth 100000
set_option maxHeartbeats 2000000
set_option exponentiation.threshold 9000
namespace K05
open PySem PySem.Spec PyProof.Rows L2 MB
open LamX hiding takes0
section
variable {w : World} {K : PySem.W.Frag} {mg : Str → Option Value} {base : Heap}
theorem put_new {G0 G : Hp} {d l p : Addr} {o : HO} (b : But d l G0 G) (D : Deck kL G d l) (hp : G p = none) : newer G0 (upd G p o) p = some o ∧ Same (newer G0 G) (newer G0 (upd G p o)) := by
  have p0 : G0 p = none := b.free D hp
  exact ⟨by rw [newer_at p0, upd_same], newer_step fun c u h1 h2 => same_upd hp _ _ h2⟩
def spWord (K : PySem.W.Frag) : Sp := fun vs H Q _ => ∃ (d l : Addr) (q : Int) (many : Nat), vs = [.ref d, .int q, .int (many : Int)] ∧ LetQ q ∧ many ≤ 16 ∧ Deck kL H d l ∧
  ∀ (v : V) (ns : List Int) H', But d l H H' → Deck kL H' d l → Dq K (newer H H') v (.tuple (ns.map PyData.int)) → ns.length ≤ 16 → (∀ c ∈ ns, c.natAbs < 10) → Q v H'
theorem ok__law_word (T : Txt K mg) : FnOk P w K mg base CX0 2 T.a__law_word T.d__law_word P__law_word (spWord K) := by
  refine T.F__law_word.ok sc__law_word (fun vs H Q E h => ?_) (fun cdv A outer s H vs Q E hr h => ?_)
  · obtain ⟨d, l, q, many, rfl, _⟩ := h
    rfl
  · obtain ⟨d, l, q, many, rfl, lq, hm, D, k⟩ := h
    refine ⟨_, 
      (pss_cons (ps_set (i := 3) sc__law_word.nd rfl (Or.inr rfl) (pe_call (ok__law_draw T) (hr.mono (by decide)) rfl T.m__law_draw T.F__law_draw.kp T.b__law_draw .nil pass0 (pa_cons (pv 0) (pa_cons pe_int pa_nil))))
      (pss_cons (ps_setLc (i := 4) (own := [("_law_at", 5)]) (g := gName 5) (tt := tYes) rfl sc__law_word.nd rfl rfl (sw_true rfl rfl rfl (by decide +kernel)) (pi_range1 rfl T.m_range (pa_cons (pv 2) pa_nil)) (blkOk_by (own := [("_law_at", 5)]) (N := N__law_word) (sc := defScope s__law_word) (by decide +kernel)) (fun _ _ _ _ _ => (pg_name (i := 5) sc__law_word.nd rfl (Or.inl rfl))) (fun _ _ _ _ _ => pts_nil) (fun _ _ _ _ _ => (pe_call (ok__law_draw T) (hr.mono (by decide)) rfl T.m__law_draw T.F__law_draw.kp T.b__law_draw .nil pass0 (pa_cons (pv 0) (pa_cons (pv 1) pa_nil)))))
      (pss_one (ps_ret (pe_callTy call_tuple_of (by rfl) T.m_tuple (by decide +kernel) (pa_cons (pe_lc (own := [("_law_x", 6)]) (g := gName 6) (tt := tYes) rfl sc__law_word.nd (pi_list (pv 4)) (blkOk_by (own := [("_law_x", 6)]) (N := N__law_word) (sc := defScope s__law_word) (by decide +kernel)) (fun _ _ _ _ _ => (pg_name (i := 6) sc__law_word.nd rfl (Or.inl rfl))) (fun _ _ _ _ _ => pts_nil) (fun _ _ _ _ _ => (pe_ifExp (PW.pt (pw_and (pt_cmpR op_eq (pv 3) pe_int (nomark _)) (pw_and1 (pt_cmpR op_eq (pe_call (ok__law_draw T) (hr.mono (by decide)) rfl T.m__law_draw T.F__law_draw.kp T.b__law_draw .nil pass0 (pa_cons (pv 0) (pa_cons pe_int pa_nil))) pe_int (nomark _))))) pe_int (pv 6)))) pa_nil)))))), ?_⟩
    have q2 := lq.lo
    have q5 := lq.hi
    refine ⟨_, rfl, d, l, 2, rfl, by decide, by decide, D, fun way H1 w0 w1 e1 D1 => ?_⟩
    refine ⟨_, rfl, _, rfl, by omega, by omega, fun L hL => ?_⟩
    obtain ⟨L1, L2⟩ := D1.off hL
    have L0 : H L = none := e1.free D1 hL
    refine lc_it (walk_range (lo := 0) (n := (many : Int).toNat))
      (fun i H' => But d l H1 H' ∧ Deck kL H' d l ∧ ∃ ns : List Int, ns.length = i ∧ (∀ c ∈ ns, c.natAbs < 10) ∧ H' L = some (.lst (ns.map V.int)))
      ⟨(But.refl (d := d) (l := l)).upd hL, D1.upd L1 L2, [], rfl, by simp, upd_same⟩ (fun _ _ _ _ => trivial) ?_ ?_
    · rintro i x H' _ hi ⟨e, D', ns, hn, hb, hN⟩ ⟨rfl, rfl⟩
      have hi20 : i < 20 := by omega
      refine ⟨rfl, ?_⟩
      refine ⟨_, rfl, _, rfl, d, l, q, rfl, by omega, small_bits (by omega) (by omega), D', fun c H4 c0 c1 e4 D4 => ?_⟩
      have hN4 := e4 _ _ hN L1 L2
      refine ⟨_, hN4, ?_, (e.trans e4).upd hL, D4.upd L1 L2, ns ++ [c], by rw [List.length_append, hn]; rfl, ?_, ?_⟩
      · rw [List.length_map, hn]
        exact line_le (by omega)
      · intro z hz
        rcases List.mem_append.mp hz with hz | hz
        · exact hb z hz
        · rw [List.mem_singleton.mp hz]
          omega
      · rw [upd_same, List.map_append]
        rfl
    · rintro H' ⟨e, D', ns, hn, hb, hN⟩
      have hn16 : ns.length ≤ 16 := by omega
      have eAll := e1.trans e
      refine ⟨_, rfl, L, rfl, ⟨_, SqL.of hN⟩, fun M hM => ?_⟩
      obtain ⟨M1, M2⟩ := D'.off hM
      have LM : L ≠ M := ne_of_none hN hM
      refine lc_it (walk_list (K := K) (a := L) (xs := ns.map V.int))
        (fun i G => But d l H' G ∧ Deck kL G d l ∧ G L = some (.lst (ns.map V.int)) ∧ ∃ ms : List Int, ms.length = i ∧ (∀ c ∈ ms, c.natAbs < 10) ∧ G M = some (.lst (ms.map V.int)))
        ⟨(But.refl (d := d) (l := l)).upd hM, D'.upd M1 M2, by rw [upd_ne LM]; exact hN, [], rfl, by simp, upd_same⟩ (fun i G _ h => SqL.of h.2.2.1) ?_ ?_
      · rintro i x _ G hi ⟨e5, D5, hL5, ms, hm5, hb5, hM5⟩ ⟨rfl, hx⟩
        obtain ⟨y, hy, rfl⟩ := int_at hx
        have hi2 : i < ns.length := (List.getElem?_eq_some_iff.mp hy).1
        have fin : ∀ (c : Int) (G2 : Hp), c.natAbs < 10 → But d l G G2 → Deck kL G2 d l → ∃ acc, G2 M = some (.lst acc) ∧ acc.length < sizeLine ∧ But d l H' (upd G2 M (.lst (acc ++ [.int c]))) ∧ Deck kL (upd G2 M (.lst (acc ++ [.int c]))) d l ∧ upd G2 M (.lst (acc ++ [.int c])) L = some (.lst (ns.map V.int)) ∧
            ∃ ms : List Int, ms.length = i + 1 ∧ (∀ c ∈ ms, c.natAbs < 10) ∧ upd G2 M (.lst (acc ++ [.int c])) M = some (.lst (ms.map V.int)) := fun c G2 hc e6 D6 => by
          refine ⟨_, e6 _ _ hM5 M1 M2, ?_, (e5.trans e6).upd hM, D6.upd M1 M2, by rw [upd_ne LM]; exact e6 _ _ hL5 L1 L2, ms ++ [c], by rw [List.length_append, hm5]; rfl, ?_, ?_⟩
          · rw [List.length_map, hm5]
            exact line_le (by omega)
          · intro z hz
            rcases List.mem_append.mp hz with hz | hz
            · exact hb5 z hz
            · rw [List.mem_singleton.mp hz]
              exact hc
          · rw [upd_same, List.map_append]
            rfl
        refine ⟨rfl, ?_⟩
        refine ⟨_, rfl, rfl, _, rfl, ?_⟩
        rw [dec_int]
        refine ite2 (fun _ => ?_) (fun _ => ?_)
        · refine ⟨_, rfl, d, l, 2, rfl, by decide, by decide, D5, fun c G2 c0 c1 e6 D6 => ⟨rfl, _, rfl, ?_⟩⟩
          refine ite2 (fun _ => ?_) (fun _ => ?_)
          · exact fin 0 G2 (by decide) e6 D6
          · exact ⟨_, rfl, fin y G2 (hb y (List.mem_of_getElem? hy)) e6 D6⟩
        · exact ⟨_, rfl, fin y G (hb y (List.mem_of_getElem? hy)) But.refl D5⟩
      · rintro G ⟨e5, D5, hL5, ms, hm5, hb5, hM5⟩
        have eH := eAll.trans e5
        refine ⟨M, _, rfl, .inl ⟨SqL.of hM5, fun p hp => ?_⟩⟩
        have s6 := same_upd (o := .tup (ms.map V.int)) hp
        refine k _ ms _ (eH.same s6) (D5.same s6) (.tup (SqT.of (put_new eH D5 hp).1) (dq_ints ms)) ?_ hb5
        rw [hm5, List.length_map]
        exact hn16
theorem cat_new {G0 G : Hp} {d l a b : Addr} {xs ys : List V} {ds es : List PyData} {Q : VK} (bt : But d l G0 G) (D : Deck kL G d l) (ha : SqT K (newer G0 G) a xs) (hx : DqAll K (newer G0 G) xs ds) (hb : SqT K (newer G0 G) b ys) (hy : DqAll K (newer G0 G) ys es) (hl : xs.length + ys.length ≤ 100000)
    (q : ∀ c H', Same G H' → SqT K (newer G0 H') c (xs ++ ys) → DqAll K (newer G0 H') (xs ++ ys) (ds ++ es) → Q (.ref c) H') : rCatA K (.ref a) (.ref b) G Q := by
  refine ⟨a, b, xs, ys, rfl, rfl, sqT_same newer_sub ha, sqT_same newer_sub hb, line_s hl, ?_, ?_, ?_⟩
  · intro z
    subst z
    cases hx
    exact q _ _ (Same.refl _) hb hy
  · intro _ z
    subst z
    cases hy
    exact q _ _ (Same.refl _) (by rw [List.append_nil]; exact ha) (by rw [List.append_nil, List.append_nil]; exact hx)
  · intro _ _ p hp
    obtain ⟨n1, n2⟩ := put_new (o := .tup (xs ++ ys)) bt D hp
    exact q _ _ (same_upd hp) (SqT.of n1) (DqAll.same n2 _ _ (hx.app hy))
theorem slice_new {G0 G : Hp} {d l a : Addr} {xs : List V} {ds : List PyData} {lo hi : Option Int} {Q : VK} (bt : But d l G0 G) (D : Deck kL G d l) (ha : SqT K (newer G0 G) a xs) (hx : DqAll K (newer G0 G) xs ds)
    (q : ∀ c H', Same G H' → SqT K (newer G0 H') c (cutV xs lo hi) → DqAll K (newer G0 H') (cutV xs lo hi) (MB.cutD ds lo hi) → Q (.ref c) H') : rSlA K (.ref a) lo hi G Q := by
  refine ⟨a, xs, rfl, sqT_same newer_sub ha, fun hw => ?_, fun hw p hp => ?_⟩
  · have e : cutV xs lo hi = xs := by
      unfold cutV
      rw [hw.1, hw.2, List.drop_zero, Nat.sub_zero, List.take_length]
    have z := hx.cut lo hi
    refine q _ _ (Same.refl _) ?_ z
    rw [e]
    exact ha
  · obtain ⟨n1, n2⟩ := put_new (o := .tup (cutV xs lo hi)) bt D hp
    exact q _ _ (same_upd hp) (SqT.of n1) (DqAll.same n2 _ _ (hx.cut lo hi))
theorem cut_ints (ns : List Int) (lo hi : Option Int) : ∃ ms : List Int, MB.cutD (ns.map PyData.int) lo hi = ms.map PyData.int ∧ ms.length ≤ ns.length ∧ ∀ c ∈ ms, c ∈ ns := by
  refine ⟨(ns.drop (HT.sIx ns.length 0 lo)).take (HT.sIx ns.length ns.length hi - HT.sIx ns.length 0 lo), ?_, ?_, ?_⟩
  · unfold MB.cutD
    rw [List.length_map, ← List.map_drop, ← List.map_take]
  · rw [List.length_take, List.length_drop]
    omega
  · exact fun c hc => List.mem_of_mem_drop (List.mem_of_mem_take hc)
theorem small_sz {k : Nat} {ns : List Int} (hl : ns.length ≤ 16) (hs : ∀ c ∈ ns, c.natAbs < 10) : SzAll 16 k (ns.map PyData.int) :=
  (szAll_ints ns fun c hc => by have h42 : (10 : Nat) ^ 42 > 10 := by decide
                                have := hs c hc
                                omega).mono hl (Nat.le_refl _)
theorem cut_len {K : PySem.W.Frag} {H : Hp} {xs : List V} {ds : List PyData} (h : DqAll K H xs ds) : xs.length = ds.length := h.length
theorem cp30 : CPow 10 30 := ⟨by decide, by decide, by decide⟩
theorem strange {G0 G : Hp} {p6 p7 : Addr} {x : V} (h6 : newer G0 G p6 = some (.tup [.int 0])) (h7 : newer G0 G p7 = some (.lst [.int 1]))
    (hx : x ∈ [V.bl true, .bl false, .int (-1), .int 2, .int 3, .int 4, .int 5, .non, .str "0", .ref p6, .ref p7, .int ((10 : Int) ^ (30 : Int).toNat)]) : ∃ dd, Dq K (newer G0 G) x dd ∧ Sz 100 3 dd := by
  have i1 : ∀ c : Int, c.natAbs < 10 ^ 42 → ∃ dd, Dq K (newer G0 G) (.int c) dd ∧ Sz 100 3 dd := fun c hc => ⟨_, .int c, sz_int hc⟩
  simp only [List.mem_cons, List.not_mem_nil, or_false] at hx
  rcases hx with rfl | rfl | rfl | rfl | rfl | rfl | rfl | rfl | rfl | rfl | rfl | rfl
  · exact ⟨_, .bl _, sz_bool⟩
  · exact ⟨_, .bl _, sz_bool⟩
  · exact i1 _ (by decide)
  · exact i1 _ (by decide)
  · exact i1 _ (by decide)
  · exact i1 _ (by decide)
  · exact i1 _ (by decide)
  · exact ⟨_, .non, sz_none⟩
  · exact ⟨_, .str _, sz_text (s := "0") (by decide)⟩
  · exact ⟨.tuple [.int 0], .tup (SqT.of h6) (.cons (.int 0) .nil), (sz_tup (k := 0) (small_sz (ns := [0]) (by decide) (by decide))).mono⟩
  · exact ⟨.list [.int 1], .lst (SqL.of h7) (.cons (.int 1) .nil), (sz_lst (k := 0) (small_sz (ns := [1]) (by decide) (by decide))).mono⟩
  · exact i1 _ (by decide)
def spBent (K : PySem.W.Frag) : Sp := fun vs H Q _ => ∃ (d l : Addr) (v : V) (ns : List Int) (G0 : Hp), vs = [.ref d, v] ∧ Deck kL G0 d l ∧ But d l G0 H ∧ Deck kL H d l ∧ Dq K (newer G0 H) v (.tuple (ns.map PyData.int)) ∧ ns.length ≤ 16 ∧ (∀ c ∈ ns, c.natAbs < 10) ∧
  ∀ (z : V) (dd : PyData) H', But d l H H' → Deck kL H' d l → Dq K (newer G0 H') z dd → Sz 800 6 dd → Q z H'
def spAny12 (K : PySem.W.Frag) : Sp := fun vs H Q E => spAny K 2 vs H Q E ∨ spAny K 1 vs H Q E
theorem ok__law_any (T : Txt K mg) : FnOk P w K mg base CX0 (2 + 3) T.a__law_any T.d__law_any P__law_any (spAny12 K) :=
  ⟨fun vs H Q E h => h.elim ((ok_any2 (w := w) (base := base) T).len vs H Q E) ((ok_any1 (w := w) (base := base) T).len vs H Q E), fun A outer s H args us vs Q E hr he hb hv hs => hs.elim ((ok_any2 T).run A outer s H args us vs Q E hr he hb hv) (((ok_any1 T).mono (by decide)).run A outer s H args us vs Q E hr he hb hv)⟩
theorem ok__law_bent (T : Txt K mg) : FnOk P w K mg base CX0 6 T.a__law_bent T.d__law_bent P__law_bent (spBent K) := by
  refine T.F__law_bent.ok sc__law_bent (fun vs H Q E h => ?_) (fun cdv A outer s H vs Q E hr h => ?_)
  · obtain ⟨d, l, v, ns, G0, rfl, _⟩ := h
    rfl
  · obtain ⟨d, l, v, ns, G0, rfl, D0, b0, D, hv, hn, hs, k⟩ := h
    refine ⟨_, 
      (pss_cons (ps_set (i := 2) sc__law_bent.nd rfl (Or.inl rfl) (pe_call (ok__law_draw T) (hr.mono (by decide)) rfl T.m__law_draw T.F__law_draw.kp T.b__law_draw .nil pass0 (pa_cons (pv 0) (pa_cons pe_int pa_nil))))
      (pss_cons (ps_if (pt_cmpR op_eq (pv 2) pe_int (nomark _)) (pss_one (ps_ret (pe_callTy call_list_of (by rfl) T.m_list (by decide +kernel) (pa_cons (pv 1) pa_nil)))) pss_nil)
      (pss_cons (ps_if (pt_cmpR op_eq (pv 2) pe_int (nomark _)) (pss_one (ps_ret (pe_call (ok__law_any T) (hr.mono (by decide)) rfl T.m__law_any T.F__law_any.kp T.b__law_any .nil pass0 (pa_cons (pv 0) (pa_cons pe_int pa_nil))))) pss_nil)
      (pss_cons (ps_if (PW.pt (pw_or (pt_cmpR (op_eqD hr.units) (pv 1) (pe_tup pa_nil) (nomark _)) (pw_or1 (PW.pt (pw_and (pt_cmpR op_eq (pv 2) pe_int (nomark _)) (pw_and1 (pt_cmpR op_lt (pe_callB call_len_seq (by rfl) T.m_len (by decide +kernel) (pa_cons (pv 1) pa_nil)) pe_int (nomark _)))))))) (pss_one (ps_ret (pe_op op_catA (pv 1) (pe_tup (pa_cons (pe_call (ok__law_draw T) (hr.mono (by decide)) rfl T.m__law_draw T.F__law_draw.kp T.b__law_draw .nil pass0 (pa_cons (pv 0) (pa_cons pe_int pa_nil))) pa_nil))))) pss_nil)
      (pss_cons (ps_if (pt_cmpR (op_in_seq) (pv 2) (pe_tup (pa_cons pe_int (pa_cons pe_int pa_nil))) rfl) (pss_one (ps_ret (pe_slice sl_tupA (pv 1) (po_some pe_int) po_none))) pss_nil)
      (pss_cons (ps_set (i := 3) sc__law_bent.nd rfl (Or.inl rfl) (pe_call (ok__law_draw T) (hr.mono (by decide)) rfl T.m__law_draw T.F__law_draw.kp T.b__law_draw .nil pass0 (pa_cons (pv 0) (pa_cons (pe_callB call_len_seq (by rfl) T.m_len (by decide +kernel) (pa_cons (pv 1) pa_nil)) pa_nil))))
      (pss_cons (ps_set (i := 4) sc__law_bent.nd rfl (Or.inl rfl) (pe_lst (pa_cons pe_bl (pa_cons pe_bl (pa_cons (pe_un un_neg pe_int) (pa_cons pe_int (pa_cons pe_int (pa_cons pe_int (pa_cons pe_int (pa_cons pe_non (pa_cons pe_str (pa_cons (pe_tup (pa_cons pe_int pa_nil)) (pa_cons (pe_lst (pa_cons pe_int pa_nil)) (pa_cons (pe_op op_pow pe_int pe_int) pa_nil))))))))))))))
      (pss_one (ps_ret (pe_op op_catA (pe_op op_catA (pe_slice sl_tupA (pv 1) po_none (po_some (pv 3))) (pe_tup (pa_cons (pe_call (ok__law_pick T) (hr.mono (by decide)) rfl T.m__law_pick T.F__law_pick.kp T.b__law_pick .nil pass0 (pa_cons (pv 0) (pa_cons (pv 4) pa_nil))) pa_nil))) (pe_slice sl_tupA (pv 1) (po_some (pe_op op_add (pv 3) pe_int)) po_none))))))))))), ?_⟩
    obtain ⟨a, rfl, ha⟩ : ∃ a, v = .ref a ∧ SqT K (newer G0 H) a (ns.map V.int) := by
      cases hv with
      | @tup a xs _ h1 h2 =>
        have e : xs = ns.map V.int := by
          clear h1 hn hs k
          induction ns generalizing xs with
          | nil => cases h2; rfl
          | cons c r ih =>
            cases h2 with
            | cons h3 h4 =>
              cases h3
              rw [ih h4]
              rfl
        subst e
        exact ⟨a, rfl, h1⟩
    clear hv
    refine ⟨_, rfl, d, l, 6, rfl, by decide, by decide, D, fun way H1 w0 w1 e1 D1 => ?_⟩
    have b1 := b0.trans e1
    have a1 := sqT_same (newer_but D0 e1) ha
    refine ⟨_, rfl, rfl, _, rfl, ?_⟩
    rw [dec_int]
    refine ite2 (fun _ => ?_) (fun _ => ?_)
    · refine ⟨_, rfl, a, _, rfl, .inr (sqT_same newer_sub a1), fun p hp => ?_⟩
      obtain ⟨n1, n2⟩ := put_new (o := .lst (ns.map V.int)) b1 D1 hp
      exact k _ (.list (ns.map PyData.int)) _ (e1.same (same_upd hp)) (D1.same (same_upd hp)) (.lst (SqL.of n1) (dq_ints ns)) ((sz_lst (small_sz (k := 0) hn hs)).mono)
    refine ⟨_, rfl, rfl, _, rfl, ?_⟩
    rw [dec_int]
    refine ite2 (fun _ => ?_) (fun _ => ?_)
    · exact ⟨_, rfl, .inl ⟨d, l, rfl, D1, fun x dd H' e D' hx sx => k x dd H' (e1.trans e) D' (Dq.same (newer_mono fun p h => b1.free D1 h) _ _ hx) sx⟩⟩
    refine ⟨_, rfl, line_s (Nat.le_of_ble_eq_true rfl), fun p hp => ?_⟩
    have s2 := same_upd (o := .tup []) hp
    have D2 := D1.same s2
    have b2 := b1.same s2
    have a2 := sqT_same (newer_but D0 (But.of (d := d) (l := l) s2)) a1
    have e2 := e1.same s2
    have hp2 : (upd H1 p (.tup [])) p = some (.tup []) := upd_same
    generalize upd H1 p (.tup []) = H2 at D2 b2 a2 e2 hp2 ⊢
    clear s2
    refine ⟨.tuple (ns.map PyData.int), .tuple [], .tup (sqT_same newer_sub a2) (dp_ints ns), .tup (SqT.of hp2) .nil, tup_shaped ns, tup_shaped [], ?_⟩
    rw [eqv_tnil]
    refine ⟨ns.isEmpty, rfl, ?_⟩
    cases hne : ns.isEmpty with
    | true =>
      refine iteT ?_
      refine ⟨_, rfl, _, rfl, d, l, 2, rfl, by decide, by decide, D2, fun r H3 r0 r1 e3 D3 => ⟨line_s (Nat.le_of_ble_eq_true rfl), fun p3 hp3 => ?_⟩⟩
      have s4 := same_upd (o := .tup [.int r]) hp3
      have n4 := (put_new (o := .tup [.int r]) (b2.trans e3) D3 hp3)
      refine cat_new (b2.trans e3 |>.same s4) (D3.same s4) (sqT_same n4.2 (sqT_same (newer_but D0 e3) a2)) (dq_ints ns) (SqT.of n4.1) (dq_ints [r]) (by rw [List.length_map]; simp; omega) fun c H5 s5 hc hx => ?_
      refine k _ _ _ ((e2.trans e3).same (s4.trans s5)) (D3.same (s4.trans s5)) (.tup hc hx) ((sz_tup (k := 0) (szAll_app (small_sz hn hs) (small_sz (ns := [r]) (by simp) (fun c hc => by rw [List.mem_singleton.mp hc]; omega)))).mono)
    | false =>
      have n0 : 0 < ns.length := by
        cases ns with
        | nil => cases hne
        | cons c r => exact Nat.zero_lt_succ _
      refine iteF ⟨_, rfl, rfl, _, rfl, ?_⟩
      rw [dec_int]
      have rest : True := trivial
      by_cases c2 : way = 2 ∧ ns.length < 16
      · rw [decide_eq_true c2.1]
        refine iteT ⟨_, rfl, a, _, rfl, .inr (sqT_same newer_sub a2), _, _, rfl, rfl, _, rfl, ?_⟩
        rw [List.length_map, decide_eq_true (by omega)]
        refine iteT ?_
        refine ⟨_, rfl, _, rfl, d, l, 2, rfl, by decide, by decide, D2, fun r H3 r0 r1 e3 D3 => ⟨line_s (Nat.le_of_ble_eq_true rfl), fun p3 hp3 => ?_⟩⟩
        have s4 := same_upd (o := .tup [.int r]) hp3
        have n4 := (put_new (o := .tup [.int r]) (b2.trans e3) D3 hp3)
        refine cat_new (b2.trans e3 |>.same s4) (D3.same s4) (sqT_same n4.2 (sqT_same (newer_but D0 e3) a2)) (dq_ints ns) (SqT.of n4.1) (dq_ints [r]) (by rw [List.length_map]; simp; omega) fun c H5 s5 hc hx => ?_
        refine k _ _ _ ((e2.trans e3).same (s4.trans s5)) (D3.same (s4.trans s5)) (.tup hc hx) ((sz_tup (k := 0) (szAll_app (small_sz hn hs) (small_sz (ns := [r]) (by simp) (fun c hc => by rw [List.mem_singleton.mp hc]; omega)))).mono)
      by_cases c3 : way = 2
      · rw [decide_eq_true c3]
        refine iteT ⟨_, rfl, a, _, rfl, .inr (sqT_same newer_sub a2), _, _, rfl, rfl, _, rfl, ?_⟩
        rw [List.length_map, decide_eq_false (by omega)]
        refine iteF ⟨_, rfl, line_s (Nat.le_of_ble_eq_true rfl), fun p4 hp4 => ⟨p4, [.int 2, .int 3], rfl, .inr (SqT.of upd_same), rfl, rfl, _, rfl, ?_⟩⟩
        have s4 := same_upd (o := .tup [.int 2, .int 3]) hp4
        have D4 := D2.same s4
        have b4 := b2.same s4
        have e4 := e2.same s4
        have a4 := sqT_same (newer_but D0 (But.of (d := d) (l := l) s4)) a2
        generalize upd H2 p4 (.tup [.int 2, .int 3]) = H4 at D4 b4 e4 a4 ⊢
        clear s4
        refine ite2 (fun _ => ?_) (fun _ => ?_)
        · refine ⟨_, rfl, 1, rfl, slice_new b4 D4 a4 (dq_ints ns) fun c H5 s5 hc hx => ?_⟩
          obtain ⟨ms, em, lm, mm⟩ := cut_ints ns (some 1) none
          rw [em] at hx
          exact k _ _ _ (e4.same s5) (D4.same s5) (.tup hc hx) ((sz_tup (k := 0) (small_sz (Nat.le_trans lm hn) fun c hc => hs c (mm c hc))).mono)
        refine ⟨_, rfl, _, rfl, a, _, rfl, .inr (sqT_same newer_sub a4), d, l, _, rfl, by rw [List.length_map]; omega, small_bits (by omega) (by rw [List.length_map]; omega), D4, fun at_ H5 t0 t1 e5 D5 => ?_⟩
        have b5 := b4.trans e5
        have a5 := sqT_same (newer_but D0 e5) a4
        refine ⟨1, rfl, line_s (Nat.le_of_ble_eq_true rfl), fun p6 hp6 => ⟨line_s (Nat.le_of_ble_eq_true rfl), fun p7 hp7 => ⟨_, _, rfl, rfl, cp30, line_s (Nat.le_of_ble_eq_true rfl), fun p8 hp8 => ?_⟩⟩⟩
        have s6 := same_upd (o := .tup [.int 0]) hp6
        have D6 := D5.same s6
        have b6 := b5.same s6
        have n6 := put_new (o := .tup [.int 0]) b5 D5 hp6
        generalize upd H5 p6 (.tup [.int 0]) = H6 at s6 D6 b6 n6 hp7 hp8 ⊢
        have s7 := same_upd (o := .lst [.int 1]) hp7
        have D7 := D6.same s7
        have b7 := b6.same s7
        have n7 := put_new (o := .lst [.int 1]) b6 D6 hp7
        generalize upd H6 p7 (.lst [.int 1]) = H7 at s7 D7 b7 n7 hp8 ⊢
        have s8 := same_upd (o := .lst [.bl true, .bl false, .int (-1), .int 2, .int 3, .int 4, .int 5, .non, .str "0", .ref p6, .ref p7, .int ((10 : Int) ^ (30 : Int).toNat)]) hp8
        have D8 := D7.same s8
        have b8 := b7.same s8
        have n8 := put_new (o := .lst [.bl true, .bl false, .int (-1), .int 2, .int 3, .int 4, .int 5, .non, .str "0", .ref p6, .ref p7, .int ((10 : Int) ^ (30 : Int).toNat)]) b7 D7 hp8
        have L8 := D7.at_new (o := .lst [.bl true, .bl false, .int (-1), .int 2, .int 3, .int 4, .int 5, .non, .str "0", .ref p6, .ref p7, .int ((10 : Int) ^ (30 : Int).toNat)]) hp8
        generalize upd H7 p8 _ = H8 at s8 D8 b8 n8 L8 ⊢
        have a8 := sqT_same n8.2 (sqT_same n7.2 (sqT_same n6.2 a5))
        have e8 : But d l H H8 := ((e4.trans e5).same s6).same (s7.trans s8)
        have P6 := n8.2 _ _ (n7.2 _ _ n6.1)
        have P7 := n8.2 _ _ n7.1
        refine ⟨_, rfl, _, rfl, at_, rfl, slice_new b8 D8 a8 (dq_ints ns) fun c1 H9 s9 hc1 hx1 => ?_⟩
        obtain ⟨ms1, em1, lm1, mm1⟩ := cut_ints ns none (some at_)
        rw [em1] at hx1
        have D9 := D8.same s9
        have b9 := b8.same s9
        have m9 := newer_but D0 (But.of (d := d) (l := l) s9)
        have L9 := same_hide (d := d) (l := l) s9 _ _ L8
        refine ⟨_, rfl, _, rfl, d, l, p8, _, rfl, .inr (SqL.of L9), by simp, by simp, D9, fun x H10 hx e10 D10 => ⟨line_s (Nat.le_of_ble_eq_true rfl), fun p9 hp9 => ?_⟩⟩
        have b10 := b9.trans e10
        have m10 := newer_but D0 e10
        obtain ⟨dx, dqx, szx⟩ := strange (m10 _ _ (m9 _ _ P6)) (m10 _ _ (m9 _ _ P7)) hx
        have s11 := same_upd (o := .tup [x]) hp9
        have n11 := put_new (o := .tup [x]) b10 D10 hp9
        have D11 := D10.same s11
        have b11 := b10.same s11
        generalize upd H10 p9 (.tup [x]) = H11 at s11 n11 D11 b11 ⊢
        refine cat_new b11 D11 (sqT_same n11.2 (sqT_same m10 hc1)) (DqAll.same n11.2 _ _ (DqAll.same m10 _ _ hx1)) (SqT.of n11.1) (.cons (Dq.same n11.2 _ _ dqx) .nil) ?_ fun c2 H12 s12 hc2 hx2 => ?_
        · rw [hx1.length, List.length_map]
          simp only [List.length_cons, List.length_nil]
          omega
        have D12 := D11.same s12
        have b12 := b11.same s12
        have m12 := newer_but D0 (But.of (d := d) (l := l) s12)
        have a12 := sqT_same m12 (sqT_same n11.2 (sqT_same m10 (sqT_same m9 a8)))
        refine ⟨_, rfl, _, rfl, _, _, rfl, rfl, at_ + 1, rfl, ?_⟩
        dsimp only [tNoPart]
        refine slice_new (lo := some (at_ + 1)) (hi := none) b12 D12 a12 (dq_ints ns) fun c3 H13 s13 hc3 hx3 => ?_
        obtain ⟨ms2, em2, lm2, mm2⟩ := cut_ints ns (some (at_ + 1)) none
        rw [em2] at hx3
        have m13 := newer_but D0 (But.of (d := d) (l := l) s13)
        refine cat_new (b12.same s13) (D12.same s13) (sqT_same m13 hc2) (DqAll.same m13 _ _ hx2) hc3 hx3 ?_ fun c4 H14 s14 hc4 hx4 => ?_
        · rw [hx2.length, hx3.length, List.length_append, List.length_map, List.length_map]
          simp only [List.length_cons, List.length_nil]
          omega
        refine k _ _ _ (((((e8.same s9).trans e10).same s11).same s12).same (s13.trans s14)) (D12.same (s13.trans s14)) (.tup hc4 hx4) ?_
        exact (sz_tup (k := 3) (szAll_app (szAll_app (small_sz (Nat.le_trans lm1 hn) fun c hc => hs c (mm1 c hc)) (szAll_cons szx (szAll_nil (b := 0)))) (small_sz (Nat.le_trans lm2 hn) fun c hc => hs c (mm2 c hc)))).mono
      · rw [decide_eq_false c3]
        refine iteF ?_
        refine iteF ⟨_, rfl, line_s (Nat.le_of_ble_eq_true rfl), fun p4 hp4 => ⟨p4, [.int 2, .int 3], rfl, .inr (SqT.of upd_same), rfl, rfl, _, rfl, ?_⟩⟩
        have s4 := same_upd (o := .tup [.int 2, .int 3]) hp4
        have D4 := D2.same s4
        have b4 := b2.same s4
        have e4 := e2.same s4
        have a4 := sqT_same (newer_but D0 (But.of (d := d) (l := l) s4)) a2
        generalize upd H2 p4 (.tup [.int 2, .int 3]) = H4 at D4 b4 e4 a4 ⊢
        clear s4
        refine ite2 (fun _ => ?_) (fun _ => ?_)
        · refine ⟨_, rfl, 1, rfl, slice_new b4 D4 a4 (dq_ints ns) fun c H5 s5 hc hx => ?_⟩
          obtain ⟨ms, em, lm, mm⟩ := cut_ints ns (some 1) none
          rw [em] at hx
          exact k _ _ _ (e4.same s5) (D4.same s5) (.tup hc hx) ((sz_tup (k := 0) (small_sz (Nat.le_trans lm hn) fun c hc => hs c (mm c hc))).mono)
        refine ⟨_, rfl, _, rfl, a, _, rfl, .inr (sqT_same newer_sub a4), d, l, _, rfl, by rw [List.length_map]; omega, small_bits (by omega) (by rw [List.length_map]; omega), D4, fun at_ H5 t0 t1 e5 D5 => ?_⟩
        have b5 := b4.trans e5
        have a5 := sqT_same (newer_but D0 e5) a4
        refine ⟨1, rfl, line_s (Nat.le_of_ble_eq_true rfl), fun p6 hp6 => ⟨line_s (Nat.le_of_ble_eq_true rfl), fun p7 hp7 => ⟨_, _, rfl, rfl, cp30, line_s (Nat.le_of_ble_eq_true rfl), fun p8 hp8 => ?_⟩⟩⟩
        have s6 := same_upd (o := .tup [.int 0]) hp6
        have D6 := D5.same s6
        have b6 := b5.same s6
        have n6 := put_new (o := .tup [.int 0]) b5 D5 hp6
        generalize upd H5 p6 (.tup [.int 0]) = H6 at s6 D6 b6 n6 hp7 hp8 ⊢
        have s7 := same_upd (o := .lst [.int 1]) hp7
        have D7 := D6.same s7
        have b7 := b6.same s7
        have n7 := put_new (o := .lst [.int 1]) b6 D6 hp7
        generalize upd H6 p7 (.lst [.int 1]) = H7 at s7 D7 b7 n7 hp8 ⊢
        have s8 := same_upd (o := .lst [.bl true, .bl false, .int (-1), .int 2, .int 3, .int 4, .int 5, .non, .str "0", .ref p6, .ref p7, .int ((10 : Int) ^ (30 : Int).toNat)]) hp8
        have D8 := D7.same s8
        have b8 := b7.same s8
        have n8 := put_new (o := .lst [.bl true, .bl false, .int (-1), .int 2, .int 3, .int 4, .int 5, .non, .str "0", .ref p6, .ref p7, .int ((10 : Int) ^ (30 : Int).toNat)]) b7 D7 hp8
        have L8 := D7.at_new (o := .lst [.bl true, .bl false, .int (-1), .int 2, .int 3, .int 4, .int 5, .non, .str "0", .ref p6, .ref p7, .int ((10 : Int) ^ (30 : Int).toNat)]) hp8
        generalize upd H7 p8 _ = H8 at s8 D8 b8 n8 L8 ⊢
        have a8 := sqT_same n8.2 (sqT_same n7.2 (sqT_same n6.2 a5))
        have e8 : But d l H H8 := ((e4.trans e5).same s6).same (s7.trans s8)
        have P6 := n8.2 _ _ (n7.2 _ _ n6.1)
        have P7 := n8.2 _ _ n7.1
        refine ⟨_, rfl, _, rfl, at_, rfl, slice_new b8 D8 a8 (dq_ints ns) fun c1 H9 s9 hc1 hx1 => ?_⟩
        obtain ⟨ms1, em1, lm1, mm1⟩ := cut_ints ns none (some at_)
        rw [em1] at hx1
        have D9 := D8.same s9
        have b9 := b8.same s9
        have m9 := newer_but D0 (But.of (d := d) (l := l) s9)
        have L9 := same_hide (d := d) (l := l) s9 _ _ L8
        refine ⟨_, rfl, _, rfl, d, l, p8, _, rfl, .inr (SqL.of L9), by simp, by simp, D9, fun x H10 hx e10 D10 => ⟨line_s (Nat.le_of_ble_eq_true rfl), fun p9 hp9 => ?_⟩⟩
        have b10 := b9.trans e10
        have m10 := newer_but D0 e10
        obtain ⟨dx, dqx, szx⟩ := strange (m10 _ _ (m9 _ _ P6)) (m10 _ _ (m9 _ _ P7)) hx
        have s11 := same_upd (o := .tup [x]) hp9
        have n11 := put_new (o := .tup [x]) b10 D10 hp9
        have D11 := D10.same s11
        have b11 := b10.same s11
        generalize upd H10 p9 (.tup [x]) = H11 at s11 n11 D11 b11 ⊢
        refine cat_new b11 D11 (sqT_same n11.2 (sqT_same m10 hc1)) (DqAll.same n11.2 _ _ (DqAll.same m10 _ _ hx1)) (SqT.of n11.1) (.cons (Dq.same n11.2 _ _ dqx) .nil) ?_ fun c2 H12 s12 hc2 hx2 => ?_
        · rw [hx1.length, List.length_map]
          simp only [List.length_cons, List.length_nil]
          omega
        have D12 := D11.same s12
        have b12 := b11.same s12
        have m12 := newer_but D0 (But.of (d := d) (l := l) s12)
        have a12 := sqT_same m12 (sqT_same n11.2 (sqT_same m10 (sqT_same m9 a8)))
        refine ⟨_, rfl, _, rfl, _, _, rfl, rfl, at_ + 1, rfl, ?_⟩
        dsimp only [tNoPart]
        refine slice_new (lo := some (at_ + 1)) (hi := none) b12 D12 a12 (dq_ints ns) fun c3 H13 s13 hc3 hx3 => ?_
        obtain ⟨ms2, em2, lm2, mm2⟩ := cut_ints ns (some (at_ + 1)) none
        rw [em2] at hx3
        have m13 := newer_but D0 (But.of (d := d) (l := l) s13)
        refine cat_new (b12.same s13) (D12.same s13) (sqT_same m13 hc2) (DqAll.same m13 _ _ hx2) hc3 hx3 ?_ fun c4 H14 s14 hc4 hx4 => ?_
        · rw [hx2.length, hx3.length, List.length_append, List.length_map, List.length_map]
          simp only [List.length_cons, List.length_nil]
          omega
        refine k _ _ _ (((((e8.same s9).trans e10).same s11).same s12).same (s13.trans s14)) (D12.same (s13.trans s14)) (.tup hc4 hx4) ?_
        exact (sz_tup (k := 3) (szAll_app (szAll_app (small_sz (Nat.le_trans lm1 hn) fun c hc => hs c (mm1 c hc)) (szAll_cons szx (szAll_nil (b := 0)))) (small_sz (Nat.le_trans lm2 hn) fun c hc => hs c (mm2 c hc)))).mono
end
end K05
end
section
set_option maxRecDepth 100000
set_option maxHeartbeats 2000000
set_option exponentiation.threshold 9000
namespace K05
open PySem PySem.Spec PyProof.Rows L2 MB
open LamX hiding takes0
section
variable {w : World} {K : PySem.W.Frag} {mg : Str → Option Value} {base : Heap}
def Own (K : PySem.W.Frag) (d l : Addr) (H : Hp) (v : V) (dd : PyData) : Prop := ∃ G0, Deck kL G0 d l ∧ But d l G0 H ∧ Dq K (newer G0 H) v dd
theorem Own.but {d l : Addr} {H H' : Hp} {v : V} {dd : PyData} (h : Own K d l H v dd) (e : But d l H H') : Own K d l H' v dd :=
  let ⟨G0, D0, b0, h0⟩ := h
  ⟨G0, D0, b0.trans e, Dq.same (newer_but D0 e) _ _ h0⟩
theorem Own.dq {d l : Addr} {H : Hp} {v : V} {dd : PyData} (h : Own K d l H v dd) : Dq K H v dd :=
  let ⟨_, _, _, h0⟩ := h
  Dq.same newer_sub _ _ h0
theorem own_pure {d l : Addr} {H : Hp} {v : V} {dd : PyData} (D : Deck kL H d l) (h : ∀ G, Dq K G v dd) : Own K d l H v dd := ⟨H, D, But.refl, h _⟩
theorem own_int {d l : Addr} {H : Hp} (D : Deck kL H d l) (i : Int) : Own K d l H (.int i) (.int i) := own_pure D fun _ => .int i
theorem sz_sm {i : Int} (h : i.natAbs < 1000) : Sz 800 6 (.int i) := sz_int (by have h42 : (10 : Nat) ^ 42 > 1000 := by decide
                                                                                omega)
theorem zw {ns : List Int} (hl : ns.length ≤ 16) (hs : ∀ c ∈ ns, c.natAbs < 10) : Sz 800 6 (.tuple (ns.map PyData.int)) := (sz_tup (k := 0) (small_sz hl hs)).mono
theorem ok_law (T : Txt K mg) (sm : SM base) (tb__law_is_right : TabB base mg T.c__law_is_right T.tP__law_is_right) : FnG P w K mg base 11 T.a_law T.d_law P_law (spLaw K (TL T)) := by
  refine fnG T.F_law sc_law (fun vs H Q E h => ?_) (fun cdv A outer s H vs Q E hr hgu h => ?_)
  · obtain ⟨a, ns, rfl, _⟩ := h
    rfl
  · obtain ⟨a, ns, rfl, ha, hl, hT, q⟩ := h
    refine ⟨_, 
      (pss_cons (ps_set (i := 1) sc_law.nd rfl (Or.inl rfl) (pe_call (ok__law_deck T) (hr.mono (by decide)) rfl T.m__law_deck T.F__law_deck.kp T.b__law_deck .nil pass0 (pa_cons (pv 0) pa_nil)))
      (pss_cons (ps_for PassesOwn.never rfl (pi_range1 rfl T.m_range (pa_cons pe_int pa_nil)) (pg_name (i := 2) sc_law.nd rfl (Or.inl rfl)) (pss_cons (ps_par (i := 3) (j := 4) (by rfl) sc_law.nd rfl rfl (by decide) rfl rfl (pa_cons (pe_op op_add pe_int (pe_call (ok__law_draw T) (hr.mono (by decide)) rfl T.m__law_draw T.F__law_draw.kp T.b__law_draw .nil pass0 (pa_cons (pv 1) (pa_cons pe_int pa_nil)))) (pa_cons (pe_call (ok__law_pick T) (hr.mono (by decide)) rfl T.m__law_pick T.F__law_pick.kp T.b__law_pick .nil pass0 (pa_cons (pv 1) (pa_cons (pe_lst (pa_cons pe_int (pa_cons pe_int (pa_cons pe_int (pa_cons pe_int (pa_cons pe_int (pa_cons pe_int (pa_cons pe_int pa_nil)))))))) pa_nil))) pa_nil)) (by rfl))
      (pss_cons (ps_par3 (i := 5) (j := 6) (l := 7) (by rfl) sc_law.nd rfl rfl rfl (by decide) (by decide) (by decide) rfl rfl rfl (pa_cons (pe_call (ok__law_word T) (hr.mono (by decide)) rfl T.m__law_word T.F__law_word.kp T.b__law_word .nil pass0 (pa_cons (pv 1) (pa_cons (pv 3) (pa_cons (pv 4) pa_nil)))) (pa_cons (pe_call (ok__law_word T) (hr.mono (by decide)) rfl T.m__law_word T.F__law_word.kp T.b__law_word .nil pass0 (pa_cons (pv 1) (pa_cons (pv 3) (pa_cons (pv 4) pa_nil)))) (pa_cons (pe_call (ok__law_draw T) (hr.mono (by decide)) rfl T.m__law_draw T.F__law_draw.kp T.b__law_draw .nil pass0 (pa_cons (pv 1) (pa_cons (pv 3) pa_nil))) pa_nil))) (by rfl))
      (pss_cons (ps_set (i := 8) sc_law.nd rfl (Or.inl rfl) (pe_call (ok__law_draw T) (hr.mono (by decide)) rfl T.m__law_draw T.F__law_draw.kp T.b__law_draw .nil pass0 (pa_cons (pv 1) (pa_cons pe_int pa_nil))))
      (pss_cons (ps_if (pt_cmpR op_eq (pv 8) pe_int (nomark _)) (pss_one (ps_set (i := 5) sc_law.nd rfl (Or.inl rfl) (pe_call (ok__law_bent T) (hr.mono (by decide)) rfl T.m__law_bent T.F__law_bent.kp T.b__law_bent .nil pass0 (pa_cons (pv 1) (pa_cons (pv 5) pa_nil))))) pss_nil)
      (pss_cons (ps_if (pt_cmpR op_eq (pv 8) pe_int (nomark _)) (pss_one (ps_set (i := 6) sc_law.nd rfl (Or.inl rfl) (pe_call (ok__law_bent T) (hr.mono (by decide)) rfl T.m__law_bent T.F__law_bent.kp T.b__law_bent .nil pass0 (pa_cons (pv 1) (pa_cons (pv 6) pa_nil))))) pss_nil)
      (pss_cons (ps_if (pt_cmpR op_eq (pv 8) pe_int (nomark _)) (pss_one (ps_par3 (i := 5) (j := 6) (l := 7) (by rfl) sc_law.nd rfl rfl rfl (by decide) (by decide) (by decide) rfl rfl rfl (pa_cons (pe_call (ok__law_bent T) (hr.mono (by decide)) rfl T.m__law_bent T.F__law_bent.kp T.b__law_bent .nil pass0 (pa_cons (pv 1) (pa_cons (pv 5) pa_nil))) (pa_cons (pe_call (ok__law_bent T) (hr.mono (by decide)) rfl T.m__law_bent T.F__law_bent.kp T.b__law_bent .nil pass0 (pa_cons (pv 1) (pa_cons (pv 6) pa_nil))) (pa_cons (pe_call (ok__law_any T) (hr.mono (by decide)) rfl T.m__law_any T.F__law_any.kp T.b__law_any .nil pass0 (pa_cons (pv 1) (pa_cons pe_int pa_nil))) pa_nil))) (by rfl))) pss_nil)
      (pss_cons (ps_if (pt_cmpR op_eq (pv 8) pe_int (nomark _)) (pss_cons (ps_par (i := 3) (j := 7) (by rfl) sc_law.nd rfl rfl (by decide) rfl rfl (pa_cons (pe_call (ok__law_any T) (hr.mono (by decide)) rfl T.m__law_any T.F__law_any.kp T.b__law_any .nil pass0 (pa_cons (pv 1) (pa_cons pe_int pa_nil))) (pa_cons (pe_call (ok__law_pick T) (hr.mono (by decide)) rfl T.m__law_pick T.F__law_pick.kp T.b__law_pick .nil pass0 (pa_cons (pv 1) (pa_cons (pe_lst (pa_cons (pv 7) (pa_cons pe_bl (pa_cons (pv 3) (pa_cons (pe_un un_neg pe_int) pa_nil))))) pa_nil))) pa_nil)) (by rfl))
      (pss_one (ps_set (i := 5) sc_law.nd rfl (Or.inl rfl) (pe_ifExp (pt_cmpR op_eq (pe_call (ok__law_draw T) (hr.mono (by decide)) rfl T.m__law_draw T.F__law_draw.kp T.b__law_draw .nil pass0 (pa_cons (pv 1) (pa_cons pe_int pa_nil))) pe_int (nomark _)) (pe_call (ok__law_bent T) (hr.mono (by decide)) rfl T.m__law_bent T.F__law_bent.kp T.b__law_bent .nil pass0 (pa_cons (pv 1) (pa_cons (pv 5) pa_nil))) (pv 5))))) pss_nil)
      (pss_cons (ps_if (pt_cmpR op_eq (pv 8) pe_int (nomark _)) (pss_one (ps_set (i := 7) sc_law.nd rfl (Or.inl rfl) (pe_call (ok__law_pick T) (hr.mono (by decide)) rfl T.m__law_pick T.F__law_pick.kp T.b__law_pick .nil pass0 (pa_cons (pv 1) (pa_cons (pe_lst (pa_cons (pv 3) (pa_cons (pe_op op_add (pv 3) pe_int) (pa_cons (pe_un un_neg pe_int) (pa_cons pe_bl (pa_cons pe_bl (pa_cons pe_non (pa_cons pe_str (pa_cons (pe_tup (pa_cons pe_int pa_nil)) (pa_cons (pe_lst (pa_cons pe_int pa_nil)) pa_nil)))))))))) pa_nil))))) pss_nil)
      (pss_one (ps_if (pt_not (pt_val (pe_callG (ok__law_is_right T sm tb__law_is_right) (hr.mono (by decide)) hgu rfl T.m__law_is_right T.F__law_is_right.kp T.b__law_is_right (pa_cons (pv 3) (pa_cons (pv 7) (pa_cons (pv 5) (pa_cons (pv 6) pa_nil))))))) (pss_one (ps_ret pe_bl)) pss_nil)))))))))))
      (pss_one (ps_ret pe_bl)))), ?_⟩
    refine ⟨_, rfl, a, ns, rfl, ha, hl, fun d l H1 s1 D1 => ?_⟩
    have T1 := hT.ext s1
    refine ⟨_, rfl, by decide, by decide, for_range (lo := 0) (n := 10)
      (fun i σ H' => ∃ o2 o3 o4 o5 o6 o7 o8, σ = [some (.ref a), some (.ref d), o2, o3, o4, o5, o6, o7, o8] ∧ Deck kL H' d l ∧ Tabs (TL T) H')
      ⟨none, none, none, none, none, none, none, rfl, D1, T1⟩ ?_ ?_⟩
    case refine_2 =>
      rintro _ H2 ⟨o2, o3, o4, o5, o6, o7, o8, rfl, D2, T2⟩
      exact q _
    rintro i _ H4 hi ⟨o2, o3, o4, o5, o6, o7, o8, rfl, D4, T4⟩
    refine ⟨_, rfl, d, l, 4, rfl, by decide, by decide, D4, fun r H5 r0 r1 e5 D5 => ⟨_, _, rfl, rfl, _, rfl, line_s (Nat.le_of_ble_eq_true rfl), fun p hp => ?_⟩⟩
    have s6 := same_upd (o := .lst [.int 0, .int 1, .int 2, .int 3, .int 5, .int 8, .int 16]) hp
    have D6 := D5.same s6
    refine ⟨d, l, p, [.int 0, .int 1, .int 2, .int 3, .int 5, .int 8, .int 16], rfl, .inr (SqL.of (D5.at_new hp)), by simp, by simp, D6, fun x H7 hx e7 D7 => ?_⟩
    obtain ⟨m, rfl, hm⟩ : ∃ m : Nat, x = .int (m : Int) ∧ m ≤ 16 := by
      simp only [List.mem_cons, List.not_mem_nil, or_false] at hx
      rcases hx with rfl | rfl | rfl | rfl | rfl | rfl | rfl
      · exact ⟨0, rfl, by decide⟩
      · exact ⟨1, rfl, by decide⟩
      · exact ⟨2, rfl, by decide⟩
      · exact ⟨3, rfl, by decide⟩
      · exact ⟨5, rfl, by decide⟩
      · exact ⟨8, rfl, by decide⟩
      · exact ⟨16, rfl, by decide⟩
    have T7 := tabs_but D6 e7 ((tabs_but D4 e5 T4).ext s6)
    have lq : LetQ (2 + r) := ⟨by omega, by omega⟩
    refine ⟨_, _, rfl, ?_⟩
    refine ⟨_, rfl, _, rfl, _, rfl, d, l, 2 + r, m, rfl, lq, hm, D7, fun v1 ns1 H8 e8 D8 hv1 hn1 hs1 => ?_⟩
    refine ⟨_, rfl, _, rfl, _, rfl, d, l, 2 + r, m, rfl, lq, hm, D8, fun v2 ns2 H9 e9 D9 hv2 hn2 hs2 => ?_⟩
    refine ⟨_, rfl, _, rfl, d, l, 2 + r, rfl, by omega, small_bits (by omega) (by omega), D9, fun c H10 c0 c1 e10 D10 => ⟨_, _, _, rfl, ?_⟩⟩
    refine ⟨_, rfl, d, l, 6, rfl, by decide, by decide, D10, fun way H11 y0 y1 e11 D11 => ?_⟩
    have T11 := tabs_but D10 e11 (tabs_but D9 e10 (tabs_but D8 e9 (tabs_but D7 e8 T7)))
    have w1 : Own K d l H11 v1 (.tuple (ns1.map PyData.int)) := (((show Own K d l H8 v1 _ from ⟨H7, D7, e8, hv1⟩).but e9).but e10).but e11
    have w2 : Own K d l H11 v2 (.tuple (ns2.map PyData.int)) := ((show Own K d l H9 v2 _ from ⟨H8, D8, e9, hv2⟩).but e10).but e11
    obtain ⟨G1, DG1, bG1, hG1⟩ := id w1
    obtain ⟨G2, DG2, bG2, hG2⟩ := id w2
    have ways : way = 0 ∨ way = 1 ∨ way = 2 ∨ way = 3 ∨ way = 4 ∨ way = 5 := by omega
    rcases ways with rfl | rfl | rfl | rfl | rfl | rfl
    · refine ⟨_, rfl, rfl, _, rfl, ?_⟩
      rw [dec_int, decide_eq_false (by decide)]
      refine iteF ?_
      refine ⟨_, rfl, rfl, _, rfl, ?_⟩
      rw [dec_int, decide_eq_false (by decide)]
      refine iteF ?_
      refine ⟨_, rfl, rfl, _, rfl, ?_⟩
      rw [dec_int, decide_eq_false (by decide)]
      refine iteF ?_
      refine ⟨_, rfl, rfl, _, rfl, ?_⟩
      rw [dec_int, decide_eq_false (by decide)]
      refine iteF ?_
      refine ⟨_, rfl, rfl, _, rfl, ?_⟩
      rw [dec_int, decide_eq_false (by decide)]
      refine iteF ?_
      refine ⟨_, rfl, _, rfl, _, rfl, _, rfl, _, _, _, _, _, _, _, _, rfl, (own_int D11 (2 + r)).dq, (own_int D11 c).dq, (w1).dq, (w2).dq, sz_sm (by omega), sz_sm (by omega), zw hn1 hs1, zw hn2 hs2, T11, fun H' e T' => ⟨true, rfl, iteF ?_⟩⟩
      exact ⟨_, _, _, _, _, _, _, rfl, D11.extN e, T'⟩
    · refine ⟨_, rfl, rfl, _, rfl, ?_⟩
      rw [dec_int, decide_eq_true (by decide)]
      refine iteT ?_
      refine ⟨_, rfl, _, rfl, d, l, v1, ns1, G1, rfl, DG1, bG1, D11, hG1, hn1, hs1, fun z1 dd1 H12 e12 D12 hz1 sz1 => ?_⟩
      have w1' : Own K d l H12 z1 dd1 := ⟨G1, DG1, bG1.trans e12, hz1⟩
      have T12 := tabs_but D11 e12 T11
      refine ⟨_, rfl, rfl, _, rfl, ?_⟩
      rw [dec_int, decide_eq_false (by decide)]
      refine iteF ?_
      refine ⟨_, rfl, rfl, _, rfl, ?_⟩
      rw [dec_int, decide_eq_false (by decide)]
      refine iteF ?_
      refine ⟨_, rfl, rfl, _, rfl, ?_⟩
      rw [dec_int, decide_eq_false (by decide)]
      refine iteF ?_
      refine ⟨_, rfl, rfl, _, rfl, ?_⟩
      rw [dec_int, decide_eq_false (by decide)]
      refine iteF ?_
      refine ⟨_, rfl, _, rfl, _, rfl, _, rfl, _, _, _, _, _, _, _, _, rfl, (own_int D12 (2 + r)).dq, (own_int D12 c).dq, (w1').dq, (w2.but e12).dq, sz_sm (by omega), sz_sm (by omega), sz1, zw hn2 hs2, T12, fun H' e T' => ⟨true, rfl, iteF ?_⟩⟩
      exact ⟨_, _, _, _, _, _, _, rfl, D12.extN e, T'⟩
    · refine ⟨_, rfl, rfl, _, rfl, ?_⟩
      rw [dec_int, decide_eq_false (by decide)]
      refine iteF ?_
      refine ⟨_, rfl, rfl, _, rfl, ?_⟩
      rw [dec_int, decide_eq_true (by decide)]
      refine iteT ?_
      refine ⟨_, rfl, _, rfl, d, l, v2, ns2, G2, rfl, DG2, bG2, D11, hG2, hn2, hs2, fun z2 dd2 H12 e12 D12 hz2 sz2 => ?_⟩
      have w2' : Own K d l H12 z2 dd2 := ⟨G2, DG2, bG2.trans e12, hz2⟩
      have T12 := tabs_but D11 e12 T11
      refine ⟨_, rfl, rfl, _, rfl, ?_⟩
      rw [dec_int, decide_eq_false (by decide)]
      refine iteF ?_
      refine ⟨_, rfl, rfl, _, rfl, ?_⟩
      rw [dec_int, decide_eq_false (by decide)]
      refine iteF ?_
      refine ⟨_, rfl, rfl, _, rfl, ?_⟩
      rw [dec_int, decide_eq_false (by decide)]
      refine iteF ?_
      refine ⟨_, rfl, _, rfl, _, rfl, _, rfl, _, _, _, _, _, _, _, _, rfl, (own_int D12 (2 + r)).dq, (own_int D12 c).dq, (w1.but e12).dq, (w2').dq, sz_sm (by omega), sz_sm (by omega), zw hn1 hs1, sz2, T12, fun H' e T' => ⟨true, rfl, iteF ?_⟩⟩
      exact ⟨_, _, _, _, _, _, _, rfl, D12.extN e, T'⟩
    · refine ⟨_, rfl, rfl, _, rfl, ?_⟩
      rw [dec_int, decide_eq_false (by decide)]
      refine iteF ?_
      refine ⟨_, rfl, rfl, _, rfl, ?_⟩
      rw [dec_int, decide_eq_false (by decide)]
      refine iteF ?_
      refine ⟨_, rfl, rfl, _, rfl, ?_⟩
      rw [dec_int, decide_eq_true (by decide)]
      refine iteT ?_
      refine ⟨_, rfl, _, rfl, d, l, v1, ns1, G1, rfl, DG1, bG1, D11, hG1, hn1, hs1, fun z1 dd1 H12 e12 D12 hz1 sz1 => ⟨_, rfl, _, rfl, d, l, v2, ns2, G2, rfl, DG2, bG2.trans e12, D12, Dq.same (newer_but DG2 e12) _ _ hG2, hn2, hs2, fun z2 dd2 H13 e13 D13 hz2 sz2 => ⟨_, rfl, .inr ⟨d, l, rfl, D13, fun x3 dd3 H14 e14 D14 hx3 sx3 => ⟨_, _, _, rfl, ?_⟩⟩⟩⟩⟩
      have w1' : Own K d l H12 z1 dd1 := ⟨G1, DG1, bG1.trans e12, hz1⟩
      have w2' : Own K d l H13 z2 dd2 := ⟨G2, DG2, (bG2.trans e12).trans e13, hz2⟩
      have w3' : Own K d l H14 x3 dd3 := ⟨H13, D13, e14, hx3⟩
      have T14 := tabs_but D13 e14 (tabs_but D12 e13 (tabs_but D11 e12 T11))
      refine ⟨_, rfl, rfl, _, rfl, ?_⟩
      rw [dec_int, decide_eq_false (by decide)]
      refine iteF ?_
      refine ⟨_, rfl, rfl, _, rfl, ?_⟩
      rw [dec_int, decide_eq_false (by decide)]
      refine iteF ?_
      refine ⟨_, rfl, _, rfl, _, rfl, _, rfl, _, _, _, _, _, _, _, _, rfl, (own_int D14 (2 + r)).dq, (w3').dq, ((w1'.but e13).but e14).dq, (w2'.but e14).dq, sz_sm (by omega), sx3.mono, sz1, sz2, T14, fun H' e T' => ⟨true, rfl, iteF ?_⟩⟩
      exact ⟨_, _, _, _, _, _, _, rfl, D14.extN e, T'⟩
    · refine ⟨_, rfl, rfl, _, rfl, ?_⟩
      rw [dec_int, decide_eq_false (by decide)]
      refine iteF ?_
      refine ⟨_, rfl, rfl, _, rfl, ?_⟩
      rw [dec_int, decide_eq_false (by decide)]
      refine iteF ?_
      refine ⟨_, rfl, rfl, _, rfl, ?_⟩
      rw [dec_int, decide_eq_false (by decide)]
      refine iteF ?_
      refine ⟨_, rfl, rfl, _, rfl, ?_⟩
      rw [dec_int, decide_eq_true (by decide)]
      refine iteT ?_
      refine ⟨_, rfl, .inl ⟨d, l, rfl, D11, fun xq dq H12 e12 D12 hxq sxq => ⟨_, rfl, _, rfl, _, rfl, 1, rfl, line_s (Nat.le_of_ble_eq_true rfl), fun p hp => ?_⟩⟩⟩
      have s13 := same_upd (o := .lst [.int c, .bl true, .int (2 + r), .int (-1)]) hp
      have D13 := D12.same s13
      refine ⟨d, l, p, [.int c, .bl true, .int (2 + r), .int (-1)], rfl, .inr (SqL.of (D12.at_new hp)), by simp, by simp, D13, fun xl H14 hxl e14 D14 => ⟨_, _, rfl, ?_⟩⟩
      have e13 : But d l H12 H14 := (But.of s13).trans e14
      have wq : Own K d l H14 xq dq := (show Own K d l H12 xq dq from ⟨H11, D11, e12, hxq⟩).but e13
      have T14 := tabs_but D12 e13 (tabs_but D11 e12 T11)
      obtain ⟨dl, wl, zl⟩ : ∃ dl, (∀ G, Dq K G xl dl) ∧ Sz 800 6 dl := by
        simp only [List.mem_cons, List.not_mem_nil, or_false] at hxl
        rcases hxl with rfl | rfl | rfl | rfl
        · exact ⟨_, fun _ => .int _, sz_sm (by omega)⟩
        · exact ⟨_, fun _ => .bl _, sz_bool⟩
        · exact ⟨_, fun _ => .int _, sz_sm (by omega)⟩
        · exact ⟨_, fun _ => .int _, sz_sm (by decide)⟩
      refine ⟨_, rfl, d, l, 2, rfl, by decide, by decide, D14, fun y H15 y0 y1 e15 D15 => ⟨rfl, _, rfl, ?_⟩⟩
      have T15 := tabs_but D14 e15 T14
      refine ite2 (fun _ => ?_) (fun _ => ?_)
      · refine ⟨_, rfl, _, rfl, d, l, v1, ns1, G1, rfl, DG1, ((bG1.trans e12).trans e13).trans e15, D15, Dq.same (newer_but DG1 ((e12.trans e13).trans e15)) _ _ hG1, hn1, hs1, fun z1 dd1 H16 e16 D16 hz1 sz1 => ?_⟩
        have w1' : Own K d l H16 z1 dd1 := ⟨G1, DG1, (((bG1.trans e12).trans e13).trans e15).trans e16, hz1⟩
        have T16 := tabs_but D15 e16 T15
        refine ⟨_, rfl, rfl, _, rfl, ?_⟩
        rw [dec_int, decide_eq_false (by decide)]
        refine iteF ?_
        refine ⟨_, rfl, _, rfl, _, rfl, _, rfl, _, _, _, _, _, _, _, _, rfl, ((wq.but e15).but e16).dq, (own_pure D16 wl).dq, (w1').dq, ((((w2.but e12).but e13).but e15).but e16).dq, sxq, zl, sz1, zw hn2 hs2, T16, fun H' e T' => ⟨true, rfl, iteF ?_⟩⟩
        exact ⟨_, _, _, _, _, _, _, rfl, D16.extN e, T'⟩
      · refine ⟨_, rfl, ?_⟩
        refine ⟨_, rfl, rfl, _, rfl, ?_⟩
        rw [dec_int, decide_eq_false (by decide)]
        refine iteF ?_
        refine ⟨_, rfl, _, rfl, _, rfl, _, rfl, _, _, _, _, _, _, _, _, rfl, (wq.but e15).dq, (own_pure D15 wl).dq, (((w1.but e12).but e13).but e15).dq, (((w2.but e12).but e13).but e15).dq, sxq, zl, zw hn1 hs1, zw hn2 hs2, T15, fun H' e T' => ⟨true, rfl, iteF ?_⟩⟩
        exact ⟨_, _, _, _, _, _, _, rfl, D15.extN e, T'⟩
    · refine ⟨_, rfl, rfl, _, rfl, ?_⟩
      rw [dec_int, decide_eq_false (by decide)]
      refine iteF ?_
      refine ⟨_, rfl, rfl, _, rfl, ?_⟩
      rw [dec_int, decide_eq_false (by decide)]
      refine iteF ?_
      refine ⟨_, rfl, rfl, _, rfl, ?_⟩
      rw [dec_int, decide_eq_false (by decide)]
      refine iteF ?_
      refine ⟨_, rfl, rfl, _, rfl, ?_⟩
      rw [dec_int, decide_eq_false (by decide)]
      refine iteF ?_
      refine ⟨_, rfl, rfl, _, rfl, ?_⟩
      rw [dec_int, decide_eq_true (by decide)]
      refine iteT ?_
      refine ⟨_, rfl, _, rfl, _, rfl, _, _, rfl, rfl, 1, rfl, line_s (Nat.le_of_ble_eq_true rfl), fun p6 hp6 => ⟨line_s (Nat.le_of_ble_eq_true rfl), fun p7 hp7 => ⟨line_s (Nat.le_of_ble_eq_true rfl), fun p8 hp8 => ?_⟩⟩⟩
      have s6 := same_upd (o := .tup [.int 1]) hp6
      have D6' := D11.same s6
      have n6 := put_new (o := .tup [.int 1]) (But.refl (d := d) (l := l)) D11 hp6
      generalize upd H11 p6 (.tup [.int 1]) = H6' at s6 D6' n6 hp7 hp8 ⊢
      have s7 := same_upd (o := .lst [.int 0]) hp7
      have D7' := D6'.same s7
      have n7 := put_new (o := .lst [.int 0]) ((But.refl (d := d) (l := l)).same s6) D6' hp7
      generalize upd H6' p7 (.lst [.int 0]) = H7' at s7 D7' n7 hp8 ⊢
      have s8 := same_upd (o := .lst [.int (2 + r), .int (2 + r + 1), .int (-1), .bl true, .bl false, .non, .str "1", .ref p6, .ref p7]) hp8
      have D8' := D7'.same s8
      have n8 := put_new (o := .lst [.int (2 + r), .int (2 + r + 1), .int (-1), .bl true, .bl false, .non, .str "1", .ref p6, .ref p7]) ((But.refl (d := d) (l := l)).same (s6.trans s7)) D7' hp8
      refine ⟨d, l, p8, [.int (2 + r), .int (2 + r + 1), .int (-1), .bl true, .bl false, .non, .str "1", .ref p6, .ref p7], rfl, .inr (SqL.of (D7'.at_new hp8)), by simp, by simp, D8', fun xl H14 hxl e14 D14 => ?_⟩
      have e13 : But d l H11 H14 := (But.of (s6.trans (s7.trans s8))).trans e14
      have m14 := newer_but D11 e14
      have P6 := m14 _ _ (n8.2 _ _ (n7.2 _ _ n6.1))
      have P7 := m14 _ _ (n8.2 _ _ n7.1)
      have T14 := tabs_but D11 e13 T11
      obtain ⟨dl, wl0, zl⟩ : ∃ dl, Dq K (newer H11 H14) xl dl ∧ Sz 800 6 dl := by
        simp only [List.mem_cons, List.not_mem_nil, or_false] at hxl
        rcases hxl with rfl | rfl | rfl | rfl | rfl | rfl | rfl | rfl | rfl
        · exact ⟨_, .int _, sz_sm (by omega)⟩
        · exact ⟨_, .int _, sz_sm (by omega)⟩
        · exact ⟨_, .int _, sz_sm (by decide)⟩
        · exact ⟨_, .bl _, sz_bool⟩
        · exact ⟨_, .bl _, sz_bool⟩
        · exact ⟨_, .non, sz_none⟩
        · exact ⟨_, .str _, sz_text (s := "1") (by decide)⟩
        · exact ⟨.tuple [.int 1], .tup (SqT.of P6) (.cons (.int 1) .nil), (sz_tup (k := 0) (small_sz (ns := [1]) (by decide) (by decide))).mono⟩
        · exact ⟨.list [.int 0], .lst (SqL.of P7) (.cons (.int 0) .nil), (sz_lst (k := 0) (small_sz (ns := [0]) (by decide) (by decide))).mono⟩
      have wl : Own K d l H14 xl dl := ⟨H11, D11, e13, wl0⟩
      refine ⟨_, rfl, _, rfl, _, rfl, _, rfl, _, _, _, _, _, _, _, _, rfl, (own_int D14 (2 + r)).dq, (wl).dq, (w1.but e13).dq, (w2.but e13).dq, sz_sm (by omega), zl, zw hn1 hs1, zw hn2 hs2, T14, fun H' e T' => ⟨true, rfl, iteF ?_⟩⟩
      exact ⟨_, _, _, _, _, _, _, rfl, D14.extN e, T'⟩
end
end K05
end
section
set_option maxRecDepth 100000
set_option maxHeartbeats 4000000
namespace K05
open PySem PySem.Spec PyProof.Rows L2 MB
open LamX hiding takes0
theorem tabIn_of {K : PySem.W.Frag} {x : Str} {f c Pt : Addr} {oc cc : Value} {od cd : Option Addr} {fd : FuncData} {sl cs : Array (Option Value)} {vs : Array Value} (a : PySem.W.nsIn K mainGlobals x = some (some (.ref f)))
    (l : K.lookup f = some ⟨oc, od, .func fd, sl⟩) (hc : fd.code = .ref c) (lc : K.lookup c = some ⟨cc, cd, .fields vs, cs⟩) (hv : (vs[11]? : Option Value) = some (.ref Pt)) : PySem.W.tabIn K x = some (c, Pt) := by
  unfold PySem.W.tabIn
  rw [a]
  dsimp only
  rw [l]
  dsimp only
  rw [hc]
  dsimp only
  rw [lc]
  dsimp only
  rw [hv]
theorem kit_sub {K : PySem.W.Frag} {C : Addr} {T : String} {r : Bool} (m : PySem.W.kitMeta T = true) (h : PySem.W.subIn K (.ref C) (.type T) = some r) : PySem.W.kitOne K (.ref C) (.type T) = some r := by
  unfold PySem.W.kitOne
  rw [if_neg (by intro z; cases (eq_of_beq z))]
  show (if PySem.W.kitMeta T = true then PySem.W.subIn K (.ref C) (.type T) else none) = some r
  rw [if_pos m]
  exact h
theorem four_mk {K : PySem.W.Frag} {t r0 r1 r2 r3 : Addr} {d d0 d1 d2 d3 : Option Addr} {n n0 n1 n2 n3 : Nat} {sl sl0 sl1 sl2 sl3 : Array (Option Value)}
    {a0 a1 a2 a3 b0 b1 b2 b3 c0 c1 c2 c3 e0 e1 e2 e3 : Tok}
    (lt : K.lookup t = some ⟨.type "tuple", d, .seq #[.ref r0, .ref r1, .ref r2, .ref r3] n, sl⟩)
    (l0 : K.lookup r0 = some ⟨.type "tuple", d0, .seq #[.int 0 a0, .int 0 a1, .int 0 a2, .int 0 a3] n0, sl0⟩)
    (l1 : K.lookup r1 = some ⟨.type "tuple", d1, .seq #[.int 0 b0, .int 1 b1, .int 2 b2, .int 3 b3] n1, sl1⟩)
    (l2 : K.lookup r2 = some ⟨.type "tuple", d2, .seq #[.int 0 c0, .int 2 c1, .int 3 c2, .int 1 c3] n2, sl2⟩)
    (l3 : K.lookup r3 = some ⟨.type "tuple", d3, .seq #[.int 0 e0, .int 3 e1, .int 1 e2, .int 2 e3] n3, sl3⟩) : FourTab K t := by
  refine ⟨[r0, r1, r2, r3], rfl, fun H => .inr ⟨_, _, _, lt, rfl, rfl, by rw [sizeLine_eq]; exact (by decide : 4 ≤ 16777216), .cons rfl (.cons rfl (.cons rfl (.cons rfl .nil)))⟩, fun i r H e => ?_⟩
  have z : (4 : Nat) ≤ sizeLine := by rw [sizeLine_eq]; decide
  match i, e with
  | 0, e =>
    cases e
    exact .inr ⟨_, _, _, l0, rfl, rfl, z, .cons ⟨_, rfl⟩ (.cons ⟨_, rfl⟩ (.cons ⟨_, rfl⟩ (.cons ⟨_, rfl⟩ .nil)))⟩
  | 1, e =>
    cases e
    exact .inr ⟨_, _, _, l1, rfl, rfl, z, .cons ⟨_, rfl⟩ (.cons ⟨_, rfl⟩ (.cons ⟨_, rfl⟩ (.cons ⟨_, rfl⟩ .nil)))⟩
  | 2, e =>
    cases e
    exact .inr ⟨_, _, _, l2, rfl, rfl, z, .cons ⟨_, rfl⟩ (.cons ⟨_, rfl⟩ (.cons ⟨_, rfl⟩ (.cons ⟨_, rfl⟩ .nil)))⟩
  | 3, e =>
    cases e
    exact .inr ⟨_, _, _, l3, rfl, rfl, z, .cons ⟨_, rfl⟩ (.cons ⟨_, rfl⟩ (.cons ⟨_, rfl⟩ (.cons ⟨_, rfl⟩ .nil)))⟩
theorem all_mk {w : World} {K : PySem.W.Frag} {h : Heap} {mg : Str → Option Value} {fa : Addr} (X : K.In h) (G : h.Ns mainGlobals mg) (hfa : mg "law" = some (.ref fa))
    {q : Program} (tq : ∀ (x : Str) (r : DefRec) (c P : Addr), (recsOf q).find? (fun e => e.name == x) = some r → PySem.W.tabIn K x = some (c, P) → PySem.W.CodeHd h c P ∧ h.get? P = some (PySem.W.tabObj #[])) (nK : PySem.W.noTabs K = true)
    {f0 : Addr} {od0 an0 : Option Addr} {sl0 : Array (Option Value)} {oc0 kV0 dc0 pm0 cd0 ct0 : Value}
    {f1 : Addr} {od1 an1 : Option Addr} {sl1 : Array (Option Value)} {oc1 kV1 dc1 pm1 cd1 ct1 : Value}
    {f2 : Addr} {od2 an2 : Option Addr} {sl2 : Array (Option Value)} {oc2 kV2 dc2 pm2 cd2 ct2 : Value}
    {f3 : Addr} {od3 an3 : Option Addr} {sl3 : Array (Option Value)} {oc3 kV3 dc3 pm3 cd3 ct3 : Value}
    {f4 : Addr} {od4 an4 : Option Addr} {sl4 : Array (Option Value)} {oc4 kV4 dc4 pm4 cd4 ct4 : Value}
    {f5 : Addr} {od5 an5 : Option Addr} {sl5 : Array (Option Value)} {oc5 kV5 dc5 pm5 cd5 ct5 : Value}
    {f6 : Addr} {od6 an6 : Option Addr} {sl6 : Array (Option Value)} {oc6 kV6 dc6 pm6 cd6 ct6 : Value}
    {f7 : Addr} {od7 an7 : Option Addr} {sl7 : Array (Option Value)} {oc7 kV7 dc7 pm7 cd7 ct7 : Value}
    {f8 : Addr} {od8 an8 : Option Addr} {sl8 : Array (Option Value)} {oc8 kV8 dc8 pm8 cd8 ct8 : Value}
    {f9 : Addr} {od9 an9 : Option Addr} {sl9 : Array (Option Value)} {oc9 kV9 dc9 pm9 cd9 ct9 : Value}
    {f10 : Addr} {od10 an10 : Option Addr} {sl10 : Array (Option Value)} {oc10 kV10 dc10 pm10 cd10 ct10 : Value}
    {f11 : Addr} {od11 an11 : Option Addr} {sl11 : Array (Option Value)} {oc11 kV11 dc11 pm11 cd11 ct11 : Value}
    {f12 : Addr} {od12 an12 : Option Addr} {sl12 : Array (Option Value)} {oc12 kV12 dc12 pm12 cd12 ct12 : Value}
    {f13 : Addr} {od13 an13 : Option Addr} {sl13 : Array (Option Value)} {oc13 kV13 dc13 pm13 cd13 ct13 : Value}
    {f14 : Addr} {od14 an14 : Option Addr} {sl14 : Array (Option Value)} {oc14 kV14 dc14 pm14 cd14 ct14 : Value}
    {f15 : Addr} {od15 an15 : Option Addr} {sl15 : Array (Option Value)} {oc15 kV15 dc15 pm15 cd15 ct15 : Value}
    {f16 : Addr} {od16 an16 : Option Addr} {sl16 : Array (Option Value)} {oc16 kV16 dc16 pm16 cd16 ct16 : Value}
    {f17 : Addr} {od17 an17 : Option Addr} {sl17 : Array (Option Value)} {oc17 kV17 dc17 pm17 cd17 ct17 : Value}
    {f18 : Addr} {od18 an18 : Option Addr} {sl18 : Array (Option Value)} {oc18 kV18 dc18 pm18 cd18 ct18 : Value}
    {f19 : Addr} {od19 an19 : Option Addr} {sl19 : Array (Option Value)} {oc19 kV19 dc19 pm19 cd19 ct19 : Value}
    {f20 : Addr} {od20 an20 : Option Addr} {sl20 : Array (Option Value)} {oc20 kV20 dc20 pm20 cd20 ct20 : Value}
    {f21 : Addr} {od21 an21 : Option Addr} {sl21 : Array (Option Value)} {oc21 kV21 dc21 pm21 cd21 ct21 : Value}
    {f22 : Addr} {od22 an22 : Option Addr} {sl22 : Array (Option Value)} {oc22 kV22 dc22 pm22 cd22 ct22 : Value}
    {f23 : Addr} {od23 an23 : Option Addr} {sl23 : Array (Option Value)} {oc23 kV23 dc23 pm23 cd23 ct23 : Value}
    {f24 : Addr} {od24 an24 : Option Addr} {sl24 : Array (Option Value)} {oc24 kV24 dc24 pm24 cd24 ct24 : Value}
    {f25 : Addr} {od25 an25 : Option Addr} {sl25 : Array (Option Value)} {oc25 kV25 dc25 pm25 cd25 ct25 : Value}
    {f26 : Addr} {od26 an26 : Option Addr} {sl26 : Array (Option Value)} {oc26 kV26 dc26 pm26 cd26 ct26 : Value}
    {f27 : Addr} {od27 an27 : Option Addr} {sl27 : Array (Option Value)} {oc27 kV27 dc27 pm27 cd27 ct27 : Value}
    {f28 : Addr} {od28 an28 : Option Addr} {sl28 : Array (Option Value)} {oc28 kV28 dc28 pm28 cd28 ct28 : Value}
    {f29 : Addr} {od29 an29 : Option Addr} {sl29 : Array (Option Value)} {oc29 kV29 dc29 pm29 cd29 ct29 : Value}
    {f30 : Addr} {od30 an30 : Option Addr} {sl30 : Array (Option Value)} {oc30 kV30 dc30 pm30 cd30 ct30 : Value}
    {f31 : Addr} {od31 an31 : Option Addr} {sl31 : Array (Option Value)} {oc31 kV31 dc31 pm31 cd31 ct31 : Value}
    {f32 : Addr} {od32 an32 : Option Addr} {sl32 : Array (Option Value)} {oc32 kV32 dc32 pm32 ct32 : Value}
    {f33 : Addr} {od33 an33 : Option Addr} {sl33 : Array (Option Value)} {oc33 kV33 dc33 pm33 cd33 ct33 : Value}
    {c__law_is_right tP__law_is_right : Addr}
    {B0 : Addr} (gB : PySem.W.nsIn K mainGlobals "BookError" = some (some (.ref B0)))
    {C_BadField I_BadField : Addr} (e_BadField : Er.Txt P K mg B0 C_BadField I_BadField "BadField" "thing")
    {C_BadLetter I_BadLetter : Addr} (e_BadLetter : Er.Txt P K mg B0 C_BadLetter I_BadLetter "BadLetter" "thing")
    {C_BadWord I_BadWord : Addr} (e_BadWord : Er.Txt P K mg B0 C_BadWord I_BadWord "BadWord" "thing")
    (a0 : PySem.W.nsIn K mainGlobals "letter_sum" = some (some (.ref f0))) (l0 : K.lookup f0 = some ⟨oc0, od0, .func (PySem.W.fnOf "letter_sum" "letter_sum" (defArgs s_letter_sum) (defBody s_letter_sum) (defScope s_letter_sum) .none kV0 dc0 pm0 an0 cd0 ct0), sl0⟩) (c0 : PySem.W.codeIn K cd0 "letter_sum" = true) (k0 : PySem.W.keepIn K (.ref f0) = true)
    (a1 : PySem.W.nsIn K mainGlobals "letter_times" = some (some (.ref f1))) (l1 : K.lookup f1 = some ⟨oc1, od1, .func (PySem.W.fnOf "letter_times" "letter_times" (defArgs s_letter_times) (defBody s_letter_times) (defScope s_letter_times) .none kV1 dc1 pm1 an1 cd1 ct1), sl1⟩) (c1 : PySem.W.codeIn K cd1 "letter_times" = true) (k1 : PySem.W.keepIn K (.ref f1) = true)
    (a2 : PySem.W.nsIn K mainGlobals "row_sum" = some (some (.ref f2))) (l2 : K.lookup f2 = some ⟨oc2, od2, .func (PySem.W.fnOf "row_sum" "row_sum" (defArgs s_row_sum) (defBody s_row_sum) (defScope s_row_sum) .none kV2 dc2 pm2 an2 cd2 ct2), sl2⟩) (c2 : PySem.W.codeIn K cd2 "row_sum" = true) (k2 : PySem.W.keepIn K (.ref f2) = true)
    (a3 : PySem.W.nsIn K mainGlobals "row_times" = some (some (.ref f3))) (l3 : K.lookup f3 = some ⟨oc3, od3, .func (PySem.W.fnOf "row_times" "row_times" (defArgs s_row_times) (defBody s_row_times) (defScope s_row_times) .none kV3 dc3 pm3 an3 cd3 ct3), sl3⟩) (c3 : PySem.W.codeIn K cd3 "row_times" = true) (k3 : PySem.W.keepIn K (.ref f3) = true)
    (a4 : PySem.W.nsIn K mainGlobals "row_product" = some (some (.ref f4))) (l4 : K.lookup f4 = some ⟨oc4, od4, .func (PySem.W.fnOf "row_product" "row_product" (defArgs s_row_product) (defBody s_row_product) (defScope s_row_product) .none kV4 dc4 pm4 an4 cd4 ct4), sl4⟩) (c4 : PySem.W.codeIn K cd4 "row_product" = true) (k4 : PySem.W.keepIn K (.ref f4) = true)
    (a5 : PySem.W.nsIn K mainGlobals "row_support" = some (some (.ref f5))) (l5 : K.lookup f5 = some ⟨oc5, od5, .func (PySem.W.fnOf "row_support" "row_support" (defArgs s_row_support) (defBody s_row_support) (defScope s_row_support) .none kV5 dc5 pm5 an5 cd5 ct5), sl5⟩) (c5 : PySem.W.codeIn K cd5 "row_support" = true) (k5 : PySem.W.keepIn K (.ref f5) = true)
    (a6 : PySem.W.nsIn K mainGlobals "is_integer" = some (some (.ref f6))) (l6 : K.lookup f6 = some ⟨oc6, od6, .func (PySem.W.fnOf "is_integer" "is_integer" (defArgs s_is_integer) (defBody s_is_integer) (defScope s_is_integer) .none kV6 dc6 pm6 an6 cd6 ct6), sl6⟩) (c6 : PySem.W.codeIn K cd6 "is_integer" = true) (k6 : PySem.W.keepIn K (.ref f6) = true)
    (a7 : PySem.W.nsIn K mainGlobals "is_integer_from" = some (some (.ref f7))) (l7 : K.lookup f7 = some ⟨oc7, od7, .func (PySem.W.fnOf "is_integer_from" "is_integer_from" (defArgs s_is_integer_from) (defBody s_is_integer_from) (defScope s_is_integer_from) .none kV7 dc7 pm7 an7 cd7 ct7), sl7⟩) (c7 : PySem.W.codeIn K cd7 "is_integer_from" = true) (k7 : PySem.W.keepIn K (.ref f7) = true)
    (a8 : PySem.W.nsIn K mainGlobals "are_integers_from" = some (some (.ref f8))) (l8 : K.lookup f8 = some ⟨oc8, od8, .func (PySem.W.fnOf "are_integers_from" "are_integers_from" (defArgs s_are_integers_from) (defBody s_are_integers_from) (defScope s_are_integers_from) .none kV8 dc8 pm8 an8 cd8 ct8), sl8⟩) (c8 : PySem.W.codeIn K cd8 "are_integers_from" = true) (k8 : PySem.W.keepIn K (.ref f8) = true)
    (a9 : PySem.W.nsIn K mainGlobals "are_letters" = some (some (.ref f9))) (l9 : K.lookup f9 = some ⟨oc9, od9, .func (PySem.W.fnOf "are_letters" "are_letters" (defArgs s_are_letters) (defBody s_are_letters) (defScope s_are_letters) .none kV9 dc9 pm9 an9 cd9 ct9), sl9⟩) (c9 : PySem.W.codeIn K cd9 "are_letters" = true) (k9 : PySem.W.keepIn K (.ref f9) = true)
    (a10 : PySem.W.nsIn K mainGlobals "check_field" = some (some (.ref f10))) (l10 : K.lookup f10 = some ⟨oc10, od10, .func (PySem.W.fnOf "check_field" "check_field" (defArgs s_check_field) (defBody s_check_field) (defScope s_check_field) .none kV10 dc10 pm10 an10 cd10 ct10), sl10⟩) (c10 : PySem.W.codeIn K cd10 "check_field" = true) (k10 : PySem.W.keepIn K (.ref f10) = true)
    (a11 : PySem.W.nsIn K mainGlobals "check_letter" = some (some (.ref f11))) (l11 : K.lookup f11 = some ⟨oc11, od11, .func (PySem.W.fnOf "check_letter" "check_letter" (defArgs s_check_letter) (defBody s_check_letter) (defScope s_check_letter) .none kV11 dc11 pm11 an11 cd11 ct11), sl11⟩) (c11 : PySem.W.codeIn K cd11 "check_letter" = true) (k11 : PySem.W.keepIn K (.ref f11) = true)
    (a12 : PySem.W.nsIn K mainGlobals "check_word" = some (some (.ref f12))) (l12 : K.lookup f12 = some ⟨oc12, od12, .func (PySem.W.fnOf "check_word" "check_word" (defArgs s_check_word) (defBody s_check_word) (defScope s_check_word) .none kV12 dc12 pm12 an12 cd12 ct12), sl12⟩) (c12 : PySem.W.codeIn K cd12 "check_word" = true) (k12 : PySem.W.keepIn K (.ref f12) = true)
    (a13 : PySem.W.nsIn K mainGlobals "check_two_words" = some (some (.ref f13))) (l13 : K.lookup f13 = some ⟨oc13, od13, .func (PySem.W.fnOf "check_two_words" "check_two_words" (defArgs s_check_two_words) (defBody s_check_two_words) (defScope s_check_two_words) .none kV13 dc13 pm13 an13 cd13 ct13), sl13⟩) (c13 : PySem.W.codeIn K cd13 "check_two_words" = true) (k13 : PySem.W.keepIn K (.ref f13) = true)
    (a14 : PySem.W.nsIn K mainGlobals "word_sum" = some (some (.ref f14))) (l14 : K.lookup f14 = some ⟨oc14, od14, .func (PySem.W.fnOf "word_sum" "word_sum" (defArgs s_word_sum) (defBody s_word_sum) (defScope s_word_sum) .none kV14 dc14 pm14 an14 cd14 ct14), sl14⟩) (c14 : PySem.W.codeIn K cd14 "word_sum" = true) (k14 : PySem.W.keepIn K (.ref f14) = true)
    (a15 : PySem.W.nsIn K mainGlobals "word_times" = some (some (.ref f15))) (l15 : K.lookup f15 = some ⟨oc15, od15, .func (PySem.W.fnOf "word_times" "word_times" (defArgs s_word_times) (defBody s_word_times) (defScope s_word_times) .none kV15 dc15 pm15 an15 cd15 ct15), sl15⟩) (c15 : PySem.W.codeIn K cd15 "word_times" = true) (k15 : PySem.W.keepIn K (.ref f15) = true)
    (a16 : PySem.W.nsIn K mainGlobals "product" = some (some (.ref f16))) (l16 : K.lookup f16 = some ⟨oc16, od16, .func (PySem.W.fnOf "product" "product" (defArgs s_product) (defBody s_product) (defScope s_product) .none kV16 dc16 pm16 an16 cd16 ct16), sl16⟩) (c16 : PySem.W.codeIn K cd16 "product" = true) (k16 : PySem.W.keepIn K (.ref f16) = true)
    (a17 : PySem.W.nsIn K mainGlobals "support" = some (some (.ref f17))) (l17 : K.lookup f17 = some ⟨oc17, od17, .func (PySem.W.fnOf "support" "support" (defArgs s_support) (defBody s_support) (defScope s_support) .none kV17 dc17 pm17 an17 cd17 ct17), sl17⟩) (c17 : PySem.W.codeIn K cd17 "support" = true) (k17 : PySem.W.keepIn K (.ref f17) = true)
    (a18 : PySem.W.nsIn K mainGlobals "weight" = some (some (.ref f18))) (l18 : K.lookup f18 = some ⟨oc18, od18, .func (PySem.W.fnOf "weight" "weight" (defArgs s_weight) (defBody s_weight) (defScope s_weight) .none kV18 dc18 pm18 an18 cd18 ct18), sl18⟩) (c18 : PySem.W.codeIn K cd18 "weight" = true) (k18 : PySem.W.keepIn K (.ref f18) = true)
    (a19 : PySem.W.nsIn K mainGlobals "_law_deck" = some (some (.ref f19))) (l19 : K.lookup f19 = some ⟨oc19, od19, .func (PySem.W.fnOf "_law_deck" "_law_deck" (defArgs s__law_deck) (defBody s__law_deck) (defScope s__law_deck) .none kV19 dc19 pm19 an19 cd19 ct19), sl19⟩) (c19 : PySem.W.codeIn K cd19 "_law_deck" = true) (k19 : PySem.W.keepIn K (.ref f19) = true)
    (a20 : PySem.W.nsIn K mainGlobals "_law_draw" = some (some (.ref f20))) (l20 : K.lookup f20 = some ⟨oc20, od20, .func (PySem.W.fnOf "_law_draw" "_law_draw" (defArgs s__law_draw) (defBody s__law_draw) (defScope s__law_draw) .none kV20 dc20 pm20 an20 cd20 ct20), sl20⟩) (c20 : PySem.W.codeIn K cd20 "_law_draw" = true) (k20 : PySem.W.keepIn K (.ref f20) = true)
    (a21 : PySem.W.nsIn K mainGlobals "_law_pick" = some (some (.ref f21))) (l21 : K.lookup f21 = some ⟨oc21, od21, .func (PySem.W.fnOf "_law_pick" "_law_pick" (defArgs s__law_pick) (defBody s__law_pick) (defScope s__law_pick) .none kV21 dc21 pm21 an21 cd21 ct21), sl21⟩) (c21 : PySem.W.codeIn K cd21 "_law_pick" = true) (k21 : PySem.W.keepIn K (.ref f21) = true)
    (a22 : PySem.W.nsIn K mainGlobals "_law_any" = some (some (.ref f22))) (l22 : K.lookup f22 = some ⟨oc22, od22, .func (PySem.W.fnOf "_law_any" "_law_any" (defArgs s__law_any) (defBody s__law_any) (defScope s__law_any) .none kV22 dc22 pm22 an22 cd22 ct22), sl22⟩) (c22 : PySem.W.codeIn K cd22 "_law_any" = true) (k22 : PySem.W.keepIn K (.ref f22) = true)
    (a23 : PySem.W.nsIn K mainGlobals "_law_is_letter" = some (some (.ref f23))) (l23 : K.lookup f23 = some ⟨oc23, od23, .func (PySem.W.fnOf "_law_is_letter" "_law_is_letter" (defArgs s__law_is_letter) (defBody s__law_is_letter) (defScope s__law_is_letter) .none kV23 dc23 pm23 an23 cd23 ct23), sl23⟩) (c23 : PySem.W.codeIn K cd23 "_law_is_letter" = true) (k23 : PySem.W.keepIn K (.ref f23) = true)
    (a24 : PySem.W.nsIn K mainGlobals "_law_is_word" = some (some (.ref f24))) (l24 : K.lookup f24 = some ⟨oc24, od24, .func (PySem.W.fnOf "_law_is_word" "_law_is_word" (defArgs s__law_is_word) (defBody s__law_is_word) (defScope s__law_is_word) .none kV24 dc24 pm24 an24 cd24 ct24), sl24⟩) (c24 : PySem.W.codeIn K cd24 "_law_is_word" = true) (k24 : PySem.W.keepIn K (.ref f24) = true)
    (a25 : PySem.W.nsIn K mainGlobals "_law_by" = some (some (.ref f25))) (l25 : K.lookup f25 = some ⟨oc25, od25, .func (PySem.W.fnOf "_law_by" "_law_by" (defArgs s__law_by) (defBody s__law_by) (defScope s__law_by) .none kV25 dc25 pm25 an25 cd25 ct25), sl25⟩) (c25 : PySem.W.codeIn K cd25 "_law_by" = true) (k25 : PySem.W.keepIn K (.ref f25) = true)
    (a26 : PySem.W.nsIn K mainGlobals "_law_plus" = some (some (.ref f26))) (l26 : K.lookup f26 = some ⟨oc26, od26, .func (PySem.W.fnOf "_law_plus" "_law_plus" (defArgs s__law_plus) (defBody s__law_plus) (defScope s__law_plus) .none kV26 dc26 pm26 an26 cd26 ct26), sl26⟩) (c26 : PySem.W.codeIn K cd26 "_law_plus" = true) (k26 : PySem.W.keepIn K (.ref f26) = true)
    (a27 : PySem.W.nsIn K mainGlobals "_law_told" = some (some (.ref f27))) (l27 : K.lookup f27 = some ⟨oc27, od27, .func (PySem.W.fnOf "_law_told" "_law_told" (defArgs s__law_told) (defBody s__law_told) (defScope s__law_told) .none kV27 dc27 pm27 an27 cd27 ct27), sl27⟩) (c27 : PySem.W.codeIn K cd27 "_law_told" = true) (k27 : PySem.W.keepIn K (.ref f27) = true)
    (a28 : PySem.W.nsIn K mainGlobals "_law_wrong" = some (some (.ref f28))) (l28 : K.lookup f28 = some ⟨oc28, od28, .func (PySem.W.fnOf "_law_wrong" "_law_wrong" (defArgs s__law_wrong) (defBody s__law_wrong) (defScope s__law_wrong) .none kV28 dc28 pm28 an28 cd28 ct28), sl28⟩) (c28 : PySem.W.codeIn K cd28 "_law_wrong" = true) (k28 : PySem.W.keepIn K (.ref f28) = true)
    (a29 : PySem.W.nsIn K mainGlobals "_law_product" = some (some (.ref f29))) (l29 : K.lookup f29 = some ⟨oc29, od29, .func (PySem.W.fnOf "_law_product" "_law_product" (defArgs s__law_product) (defBody s__law_product) (defScope s__law_product) .none kV29 dc29 pm29 an29 cd29 ct29), sl29⟩) (c29 : PySem.W.codeIn K cd29 "_law_product" = true) (k29 : PySem.W.keepIn K (.ref f29) = true)
    (a30 : PySem.W.nsIn K mainGlobals "_law_word" = some (some (.ref f30))) (l30 : K.lookup f30 = some ⟨oc30, od30, .func (PySem.W.fnOf "_law_word" "_law_word" (defArgs s__law_word) (defBody s__law_word) (defScope s__law_word) .none kV30 dc30 pm30 an30 cd30 ct30), sl30⟩) (c30 : PySem.W.codeIn K cd30 "_law_word" = true) (k30 : PySem.W.keepIn K (.ref f30) = true)
    (a31 : PySem.W.nsIn K mainGlobals "_law_bent" = some (some (.ref f31))) (l31 : K.lookup f31 = some ⟨oc31, od31, .func (PySem.W.fnOf "_law_bent" "_law_bent" (defArgs s__law_bent) (defBody s__law_bent) (defScope s__law_bent) .none kV31 dc31 pm31 an31 cd31 ct31), sl31⟩) (c31 : PySem.W.codeIn K cd31 "_law_bent" = true) (k31 : PySem.W.keepIn K (.ref f31) = true)
    (a32 : PySem.W.nsIn K mainGlobals "_law_is_right" = some (some (.ref f32))) (l32 : K.lookup f32 = some ⟨oc32, od32, .func (PySem.W.fnOf "_law_is_right" "_law_is_right" (defArgs s__law_is_right) (defBody s__law_is_right) (defScope s__law_is_right) .none kV32 dc32 pm32 an32 (.ref c__law_is_right) ct32), sl32⟩) (c32 : PySem.W.codeIn K (.ref c__law_is_right) "_law_is_right" = true) (k32 : PySem.W.keepIn K (.ref f32) = true) {occ__law_is_right : Value} {ocd__law_is_right : Option Addr} {vsc__law_is_right : Array Value} {ocs__law_is_right : Array (Option Value)} (lc__law_is_right : K.lookup c__law_is_right = some ⟨occ__law_is_right, ocd__law_is_right, .fields vsc__law_is_right, ocs__law_is_right⟩) (vp__law_is_right : (vsc__law_is_right[11]? : Option Value) = some (.ref tP__law_is_right)) (rc__law_is_right : ((recsOf q).find? (fun e => e.name == ("_law_is_right" : Str))).isSome = true)
    (a33 : PySem.W.nsIn K mainGlobals "law" = some (some (.ref f33))) (l33 : K.lookup f33 = some ⟨oc33, od33, .func (PySem.W.fnOf "law" "law" (defArgs s_law) (defBody s_law) (defScope s_law) .none kV33 dc33 pm33 an33 cd33 ct33), sl33⟩) (c33 : PySem.W.codeIn K cd33 "law" = true) (k33 : PySem.W.keepIn K (.ref f33) = true)
    {t_four : Addr} (aF : PySem.W.nsIn K mainGlobals "FOUR_TIMES" = some (some (.ref t_four))) (fF : FourTab K t_four)
    (xLF : PySem.W.subIn K (.ref C_BadLetter) (.ref C_BadField) = some false)
    (xWF : PySem.W.subIn K (.ref C_BadWord) (.ref C_BadField) = some false) (xWL : PySem.W.subIn K (.ref C_BadWord) (.ref C_BadLetter) = some false)
    (z_all : PySem.W.nsIn K mainGlobals "all" = some none)
    (z_bool : PySem.W.nsIn K mainGlobals "bool" = some none)
    (z_enumerate : PySem.W.nsIn K mainGlobals "enumerate" = some none)
    (z_int : PySem.W.nsIn K mainGlobals "int" = some none)
    (z_isinstance : PySem.W.nsIn K mainGlobals "isinstance" = some none)
    (z_len : PySem.W.nsIn K mainGlobals "len" = some none)
    (z_list : PySem.W.nsIn K mainGlobals "list" = some none)
    (z_max : PySem.W.nsIn K mainGlobals "max" = some none)
    (z_range : PySem.W.nsIn K mainGlobals "range" = some none)
    (z_repr : PySem.W.nsIn K mainGlobals "repr" = some none)
    (z_tuple : PySem.W.nsIn K mainGlobals "tuple" = some none)
    (z_zip : PySem.W.nsIn K mainGlobals "zip" = some none) :
    ∃ (fd : FuncData) (tabs : List Tb), (∀ t ∈ tabs, TabAt h t) ∧ PySem.W.noTabs K = true ∧ (∀ (s : Shared) (v : Value), BindsTo s fd ⟨[v], []⟩ [("_law_script", v)]) ∧ ∀ base : Heap, K.In base → base.Ns mainGlobals mg → SM base → (∀ t ∈ tabs, TabB base mg t.1 t.2.1) → FnG P w K mg base 11 fa fd ["_law_script"] (spLaw K (tbs tabs)) := by
  obtain rfl : f33 = fa := PySem.Value.ref.inj (Option.some.inj ((PySem.W.mg_of X G a33).symm.trans hfa))
  have F0 := fun_mk (st := s_letter_sum) l0 c0 k0
  have F1 := fun_mk (st := s_letter_times) l1 c1 k1
  have F2 := fun_mk (st := s_row_sum) l2 c2 k2
  have F3 := fun_mk (st := s_row_times) l3 c3 k3
  have F4 := fun_mk (st := s_row_product) l4 c4 k4
  have F5 := fun_mk (st := s_row_support) l5 c5 k5
  have F6 := fun_mk (st := s_is_integer) l6 c6 k6
  have F7 := fun_mk (st := s_is_integer_from) l7 c7 k7
  have F8 := fun_mk (st := s_are_integers_from) l8 c8 k8
  have F9 := fun_mk (st := s_are_letters) l9 c9 k9
  have F10 := fun_mk (st := s_check_field) l10 c10 k10
  have F11 := fun_mk (st := s_check_letter) l11 c11 k11
  have F12 := fun_mk (st := s_check_word) l12 c12 k12
  have F13 := fun_mk (st := s_check_two_words) l13 c13 k13
  have F14 := fun_mk (st := s_word_sum) l14 c14 k14
  have F15 := fun_mk (st := s_word_times) l15 c15 k15
  have F16 := fun_mk (st := s_product) l16 c16 k16
  have F17 := fun_mk (st := s_support) l17 c17 k17
  have F18 := fun_mk (st := s_weight) l18 c18 k18
  have F19 := fun_mk (st := s__law_deck) l19 c19 k19
  have F20 := fun_mk (st := s__law_draw) l20 c20 k20
  have F21 := fun_mk (st := s__law_pick) l21 c21 k21
  have F22 := fun_mk (st := s__law_any) l22 c22 k22
  have F23 := fun_mk (st := s__law_is_letter) l23 c23 k23
  have F24 := fun_mk (st := s__law_is_word) l24 c24 k24
  have F25 := fun_mk (st := s__law_by) l25 c25 k25
  have F26 := fun_mk (st := s__law_plus) l26 c26 k26
  have F27 := fun_mk (st := s__law_told) l27 c27 k27
  have F28 := fun_mk (st := s__law_wrong) l28 c28 k28
  have F29 := fun_mk (st := s__law_product) l29 c29 k29
  have F30 := fun_mk (st := s__law_word) l30 c30 k30
  have F31 := fun_mk (st := s__law_bent) l31 c31 k31
  have F32 := funL_mk (st := s__law_is_right) l32 c32 k32
  have F33 := fun_mk (st := s_law) l33 c33 k33
  let T : Txt K mg := {
    a_letter_sum := f0, d_letter_sum := _, F_letter_sum := F0, m_letter_sum := PySem.W.mg_of X G a0,
    b_letter_sum := F0.binds (ps := P_letter_sum) fun _ _ _ _ _ _ us hl => match us, hl with | [_, _, _], _ => rfl,
    a_letter_times := f1, d_letter_times := _, F_letter_times := F1, m_letter_times := PySem.W.mg_of X G a1,
    b_letter_times := F1.binds (ps := P_letter_times) fun _ _ _ _ _ _ us hl => match us, hl with | [_, _, _], _ => rfl,
    a_row_sum := f2, d_row_sum := _, F_row_sum := F2, m_row_sum := PySem.W.mg_of X G a2,
    b_row_sum := F2.binds (ps := P_row_sum) fun _ _ _ _ _ _ us hl => match us, hl with | [_, _, _], _ => rfl,
    a_row_times := f3, d_row_times := _, F_row_times := F3, m_row_times := PySem.W.mg_of X G a3,
    b_row_times := F3.binds (ps := P_row_times) fun _ _ _ _ _ _ us hl => match us, hl with | [_, _, _], _ => rfl,
    a_row_product := f4, d_row_product := _, F_row_product := F4, m_row_product := PySem.W.mg_of X G a4,
    b_row_product := F4.binds (ps := P_row_product) fun _ _ _ _ _ _ us hl => match us, hl with | [_, _, _], _ => rfl,
    a_row_support := f5, d_row_support := _, F_row_support := F5, m_row_support := PySem.W.mg_of X G a5,
    b_row_support := F5.binds (ps := P_row_support) fun _ _ _ _ _ _ us hl => match us, hl with | [_], _ => rfl,
    a_is_integer := f6, d_is_integer := _, F_is_integer := F6, m_is_integer := PySem.W.mg_of X G a6,
    b_is_integer := F6.binds (ps := P_is_integer) fun _ _ _ _ _ _ us hl => match us, hl with | [_], _ => rfl,
    a_is_integer_from := f7, d_is_integer_from := _, F_is_integer_from := F7, m_is_integer_from := PySem.W.mg_of X G a7,
    b_is_integer_from := F7.binds (ps := P_is_integer_from) fun _ _ _ _ _ _ us hl => match us, hl with | [_, _, _], _ => rfl,
    a_are_integers_from := f8, d_are_integers_from := _, F_are_integers_from := F8, m_are_integers_from := PySem.W.mg_of X G a8,
    b_are_integers_from := F8.binds (ps := P_are_integers_from) fun _ _ _ _ _ _ us hl => match us, hl with | [_, _, _], _ => rfl,
    a_are_letters := f9, d_are_letters := _, F_are_letters := F9, m_are_letters := PySem.W.mg_of X G a9,
    b_are_letters := F9.binds (ps := P_are_letters) fun _ _ _ _ _ _ us hl => match us, hl with | [_, _], _ => rfl,
    a_check_field := f10, d_check_field := _, F_check_field := F10, m_check_field := PySem.W.mg_of X G a10,
    b_check_field := F10.binds (ps := P_check_field) fun _ _ _ _ _ _ us hl => match us, hl with | [_], _ => rfl,
    a_check_letter := f11, d_check_letter := _, F_check_letter := F11, m_check_letter := PySem.W.mg_of X G a11,
    b_check_letter := F11.binds (ps := P_check_letter) fun _ _ _ _ _ _ us hl => match us, hl with | [_, _], _ => rfl,
    a_check_word := f12, d_check_word := _, F_check_word := F12, m_check_word := PySem.W.mg_of X G a12,
    b_check_word := F12.binds (ps := P_check_word) fun _ _ _ _ _ _ us hl => match us, hl with | [_, _], _ => rfl,
    a_check_two_words := f13, d_check_two_words := _, F_check_two_words := F13, m_check_two_words := PySem.W.mg_of X G a13,
    b_check_two_words := F13.binds (ps := P_check_two_words) fun _ _ _ _ _ _ us hl => match us, hl with | [_, _, _], _ => rfl,
    a_word_sum := f14, d_word_sum := _, F_word_sum := F14, m_word_sum := PySem.W.mg_of X G a14,
    b_word_sum := F14.binds (ps := P_word_sum) fun _ _ _ _ _ _ us hl => match us, hl with | [_, _, _], _ => rfl,
    q_word_sum_other_q_one := kbca3 fun _ _ _ => rfl,
    a_word_times := f15, d_word_times := _, F_word_times := F15, m_word_times := PySem.W.mg_of X G a15,
    b_word_times := F15.binds (ps := P_word_times) fun _ _ _ _ _ _ us hl => match us, hl with | [_, _, _], _ => rfl,
    q_word_times_word_letter_q := kcba3 fun _ _ _ => rfl,
    a_product := f16, d_product := _, F_product := F16, m_product := PySem.W.mg_of X G a16,
    b_product := F16.binds (ps := P_product) fun _ _ _ _ _ _ us hl => match us, hl with | [_, _, _], _ => rfl,
    q_product_one_q_other := kbac3 fun _ _ _ => rfl,
    a_support := f17, d_support := _, F_support := F17, m_support := PySem.W.mg_of X G a17,
    b_support := F17.binds (ps := P_support) fun _ _ _ _ _ _ us hl => match us, hl with | [_, _], _ => rfl,
    q_support_word_q := kb2s fun _ _ => rfl,
    a_weight := f18, d_weight := _, F_weight := F18, m_weight := PySem.W.mg_of X G a18,
    b_weight := F18.binds (ps := P_weight) fun _ _ _ _ _ _ us hl => match us, hl with | [_, _], _ => rfl,
    q_weight_word_q := kb2s fun _ _ => rfl,
    a__law_deck := f19, d__law_deck := _, F__law_deck := F19, m__law_deck := PySem.W.mg_of X G a19,
    b__law_deck := F19.binds (ps := P__law_deck) fun _ _ _ _ _ _ us hl => match us, hl with | [_], _ => rfl,
    a__law_draw := f20, d__law_draw := _, F__law_draw := F20, m__law_draw := PySem.W.mg_of X G a20,
    b__law_draw := F20.binds (ps := P__law_draw) fun _ _ _ _ _ _ us hl => match us, hl with | [_, _], _ => rfl,
    a__law_pick := f21, d__law_pick := _, F__law_pick := F21, m__law_pick := PySem.W.mg_of X G a21,
    b__law_pick := F21.binds (ps := P__law_pick) fun _ _ _ _ _ _ us hl => match us, hl with | [_, _], _ => rfl,
    a__law_any := f22, d__law_any := _, F__law_any := F22, m__law_any := PySem.W.mg_of X G a22,
    b__law_any := F22.binds (ps := P__law_any) fun _ _ _ _ _ _ us hl => match us, hl with | [_, _], _ => rfl,
    a__law_is_letter := f23, d__law_is_letter := _, F__law_is_letter := F23, m__law_is_letter := PySem.W.mg_of X G a23,
    b__law_is_letter := F23.binds (ps := P__law_is_letter) fun _ _ _ _ _ _ us hl => match us, hl with | [_, _], _ => rfl,
    a__law_is_word := f24, d__law_is_word := _, F__law_is_word := F24, m__law_is_word := PySem.W.mg_of X G a24,
    b__law_is_word := F24.binds (ps := P__law_is_word) fun _ _ _ _ _ _ us hl => match us, hl with | [_, _], _ => rfl,
    a__law_by := f25, d__law_by := _, F__law_by := F25, m__law_by := PySem.W.mg_of X G a25,
    b__law_by := F25.binds (ps := P__law_by) fun _ _ _ _ _ _ us hl => match us, hl with | [_, _, _], _ => rfl,
    a__law_plus := f26, d__law_plus := _, F__law_plus := F26, m__law_plus := PySem.W.mg_of X G a26,
    b__law_plus := F26.binds (ps := P__law_plus) fun _ _ _ _ _ _ us hl => match us, hl with | [_, _, _], _ => rfl,
    a__law_told := f27, d__law_told := _, F__law_told := F27, m__law_told := PySem.W.mg_of X G a27,
    b__law_told := F27.binds (ps := P__law_told) fun _ _ _ _ _ _ us hl => match us, hl with | [_], _ => rfl,
    a__law_wrong := f28, d__law_wrong := _, F__law_wrong := F28, m__law_wrong := PySem.W.mg_of X G a28,
    b__law_wrong := F28.binds (ps := P__law_wrong) fun _ _ _ _ _ _ us hl => match us, hl with | [_, _, _], _ => rfl,
    a__law_product := f29, d__law_product := _, F__law_product := F29, m__law_product := PySem.W.mg_of X G a29,
    b__law_product := F29.binds (ps := P__law_product) fun _ _ _ _ _ _ us hl => match us, hl with | [_, _, _], _ => rfl,
    a__law_word := f30, d__law_word := _, F__law_word := F30, m__law_word := PySem.W.mg_of X G a30,
    b__law_word := F30.binds (ps := P__law_word) fun _ _ _ _ _ _ us hl => match us, hl with | [_, _, _], _ => rfl,
    a__law_bent := f31, d__law_bent := _, F__law_bent := F31, m__law_bent := PySem.W.mg_of X G a31,
    b__law_bent := F31.binds (ps := P__law_bent) fun _ _ _ _ _ _ us hl => match us, hl with | [_, _], _ => rfl,
    c__law_is_right := c__law_is_right, tP__law_is_right := tP__law_is_right,
    a__law_is_right := f32, d__law_is_right := _, F__law_is_right := F32, m__law_is_right := PySem.W.mg_of X G a32,
    b__law_is_right := F32.bindsL (ps := P__law_is_right) fun _ _ _ _ _ _ us hl => match us, hl with | [_, _, _, _], _ => rfl,
    a_law := f33, d_law := _, F_law := F33, m_law := PySem.W.mg_of X G a33,
    b_law := F33.binds (ps := P_law) fun _ _ _ _ _ _ us hl => match us, hl with | [_], _ => rfl,
    B0 := B0, gB := PySem.W.mg_of X G gB,
    C_BadField := C_BadField, I_BadField := I_BadField, e_BadField := e_BadField,
    C_BadLetter := C_BadLetter, I_BadLetter := I_BadLetter, e_BadLetter := e_BadLetter,
    C_BadWord := C_BadWord, I_BadWord := I_BadWord, e_BadWord := e_BadWord,
    t_four := t_four, m_four := PySem.W.mg_of X G aF, four := fF,
    x_lf := xLF,
    x_wf := xWF, x_wl := xWL,
    m_all := PySem.W.mg_none_of X G z_all,
    m_bool := PySem.W.mg_none_of X G z_bool,
    m_enumerate := PySem.W.mg_none_of X G z_enumerate,
    m_int := PySem.W.mg_none_of X G z_int,
    m_isinstance := PySem.W.mg_none_of X G z_isinstance,
    m_len := PySem.W.mg_none_of X G z_len,
    m_list := PySem.W.mg_none_of X G z_list,
    m_max := PySem.W.mg_none_of X G z_max,
    m_range := PySem.W.mg_none_of X G z_range,
    m_repr := PySem.W.mg_none_of X G z_repr,
    m_tuple := PySem.W.mg_none_of X G z_tuple,
    m_zip := PySem.W.mg_none_of X G z_zip }
  obtain ⟨r__law_is_right, hr__law_is_right⟩ := Option.isSome_iff_exists.mp rc__law_is_right
  have ta__law_is_right := tq _ _ _ _ hr__law_is_right (tabIn_of a32 l32 rfl lc__law_is_right vp__law_is_right)
  exact ⟨_, [(c__law_is_right, tP__law_is_right, qL__law_is_right)], fun t ht => ((List.mem_cons.mp ht).elim (fun e => by rw [e]; exact ⟨ta__law_is_right.1, ta__law_is_right.2⟩) fun ht => (nomatch ht)), nK, fun s v => .of_eq rfl, fun base _ _ sm hTB => ok_law T sm (hTB _ (.head _))⟩
end K05
end
section
set_option maxRecDepth 100000
open PySem PySem.W PyProof.Rows in
set_option maxRecDepth 100000 in
set_option maxHeartbeats 0 in
theorem PySem.Challenge.cw_mirrorbook_k05_words_and_their_products_holds : PySem.Challenge.rw_mirrorbook_k05_words_and_their_products.Holds := by
  w_on; o_law; k_head; (case hw => w_witness2)
  k_fill
  refine MB.walkT (l := PySem.Challenge.rw_mirrorbook_k05_words_and_their_products) (n := 63) (k := 11) (x := "_law_script") (sp := K05.spLaw) rfl (by decide) rfl (by decide +kernel) ⟨rfl, by decide, by decide⟩ (fun w h Y => PySem.W.km_in_of Y) ?F ?S
  case S =>
    exact fun K H a ns _ hl hT hS => ⟨a, ns, rfl, hS, hl, hT, fun _ => rfl⟩
  case F =>
    intro w mg fa h KX G tq hmg
    refine' K05.all_mk KX G hmg tq ?nK ?gB ?e_BadField ?e_BadLetter ?e_BadWord ?a0 ?l0 ?c0 ?k0 ?a1 ?l1 ?c1 ?k1 ?a2 ?l2 ?c2 ?k2 ?a3 ?l3 ?c3 ?k3 ?a4 ?l4 ?c4 ?k4 ?a5 ?l5 ?c5 ?k5 ?a6 ?l6 ?c6 ?k6 ?a7 ?l7 ?c7 ?k7 ?a8 ?l8 ?c8 ?k8 ?a9 ?l9 ?c9 ?k9 ?a10 ?l10 ?c10 ?k10 ?a11 ?l11 ?c11 ?k11 ?a12 ?l12 ?c12 ?k12 ?a13 ?l13 ?c13 ?k13 ?a14 ?l14 ?c14 ?k14 ?a15 ?l15 ?c15 ?k15 ?a16 ?l16 ?c16 ?k16 ?a17 ?l17 ?c17 ?k17 ?a18 ?l18 ?c18 ?k18 ?a19 ?l19 ?c19 ?k19 ?a20 ?l20 ?c20 ?k20 ?a21 ?l21 ?c21 ?k21 ?a22 ?l22 ?c22 ?k22 ?a23 ?l23 ?c23 ?k23 ?a24 ?l24 ?c24 ?k24 ?a25 ?l25 ?c25 ?k25 ?a26 ?l26 ?c26 ?k26 ?a27 ?l27 ?c27 ?k27 ?a28 ?l28 ?c28 ?k28 ?a29 ?l29 ?c29 ?k29 ?a30 ?l30 ?c30 ?k30 ?a31 ?l31 ?c31 ?k31 ?a32 ?l32 ?c32 ?k32 ?lc__law_is_right ?vp__law_is_right ?rc__law_is_right ?a33 ?l33 ?c33 ?k33 ?aF ?fF ?xLF ?xWF ?xWL ?z_all ?z_bool ?z_enumerate ?z_int ?z_isinstance ?z_len ?z_list ?z_max ?z_range ?z_repr ?z_tuple ?z_zip
    (case nK => rfl)
    (case gB => k_is)
    (case e_BadField =>
      refine' MB.Er.of KX G ?aC ?lB ?fB ?lC ?sa ?ga ?gg ?noF ?iC ?tC ?kC ?exC ?exE ?suC ?ssC ?isC ?tyC ?hdC ?op ?su ?lI ?cI ?lc ?lcc ?top ?line ?fl ?fi ?fok ?bi
      (case aC => k_is)
      (case iC => k_is)
      (case lC => k_is)
      (case lB => k_is)
      (case fB => k_is)
      (case sa => k_is)
      (case ga => k_is)
      (case gg => k_is)
      (case noF => k_is)
      (case tC => k_is)
      (case kC => k_is)
      (case exC => k_is)
      (case exE => k_is)
      (case suC => k_is)
      (case ssC => k_is)
      (case isC => k_is)
      (case tyC => k_is)
      (case hdC => k_is)
      (case op => k_is)
      (case su => k_is)
      (case lI => k_is)
      (case cI => k_is)
      (case lc => k_is)
      (case lcc => k_is)
      (case top => rfl)
      (case line => rfl)
      (case fl => rfl)
      (case fi => rfl)
      (case fok => exact ⟨by decide, by decide, by decide, by decide⟩)
      (case bi => exact fun s a b => .of_eq rfl))
    (case e_BadLetter =>
      refine' MB.Er.of KX G ?aC ?lB ?fB ?lC ?sa ?ga ?gg ?noF ?iC ?tC ?kC ?exC ?exE ?suC ?ssC ?isC ?tyC ?hdC ?op ?su ?lI ?cI ?lc ?lcc ?top ?line ?fl ?fi ?fok ?bi
      (case aC => k_is)
      (case iC => k_is)
      (case lC => k_is)
      (case lB => k_is)
      (case fB => k_is)
      (case sa => k_is)
      (case ga => k_is)
      (case gg => k_is)
      (case noF => k_is)
      (case tC => k_is)
      (case kC => k_is)
      (case exC => k_is)
      (case exE => k_is)
      (case suC => k_is)
      (case ssC => k_is)
      (case isC => k_is)
      (case tyC => k_is)
      (case hdC => k_is)
      (case op => k_is)
      (case su => k_is)
      (case lI => k_is)
      (case cI => k_is)
      (case lc => k_is)
      (case lcc => k_is)
      (case top => rfl)
      (case line => rfl)
      (case fl => rfl)
      (case fi => rfl)
      (case fok => exact ⟨by decide, by decide, by decide, by decide⟩)
      (case bi => exact fun s a b => .of_eq rfl))
    (case e_BadWord =>
      refine' MB.Er.of KX G ?aC ?lB ?fB ?lC ?sa ?ga ?gg ?noF ?iC ?tC ?kC ?exC ?exE ?suC ?ssC ?isC ?tyC ?hdC ?op ?su ?lI ?cI ?lc ?lcc ?top ?line ?fl ?fi ?fok ?bi
      (case aC => k_is)
      (case iC => k_is)
      (case lC => k_is)
      (case lB => k_is)
      (case fB => k_is)
      (case sa => k_is)
      (case ga => k_is)
      (case gg => k_is)
      (case noF => k_is)
      (case tC => k_is)
      (case kC => k_is)
      (case exC => k_is)
      (case exE => k_is)
      (case suC => k_is)
      (case ssC => k_is)
      (case isC => k_is)
      (case tyC => k_is)
      (case hdC => k_is)
      (case op => k_is)
      (case su => k_is)
      (case lI => k_is)
      (case cI => k_is)
      (case lc => k_is)
      (case lcc => k_is)
      (case top => rfl)
      (case line => rfl)
      (case fl => rfl)
      (case fi => rfl)
      (case fok => exact ⟨by decide, by decide, by decide, by decide⟩)
      (case bi => exact fun s a b => .of_eq rfl))
    (case a0 => k_is)
    (case l0 => k_is)
    (case c0 => k_is)
    (case k0 => k_is)
    (case a1 => k_is)
    (case l1 => k_is)
    (case c1 => k_is)
    (case k1 => k_is)
    (case a2 => k_is)
    (case l2 => k_is)
    (case c2 => k_is)
    (case k2 => k_is)
    (case a3 => k_is)
    (case l3 => k_is)
    (case c3 => k_is)
    (case k3 => k_is)
    (case a4 => k_is)
    (case l4 => k_is)
    (case c4 => k_is)
    (case k4 => k_is)
    (case a5 => k_is)
    (case l5 => k_is)
    (case c5 => k_is)
    (case k5 => k_is)
    (case a6 => k_is)
    (case l6 => k_is)
    (case c6 => k_is)
    (case k6 => k_is)
    (case a7 => k_is)
    (case l7 => k_is)
    (case c7 => k_is)
    (case k7 => k_is)
    (case a8 => k_is)
    (case l8 => k_is)
    (case c8 => k_is)
    (case k8 => k_is)
    (case a9 => k_is)
    (case l9 => k_is)
    (case c9 => k_is)
    (case k9 => k_is)
    (case a10 => k_is)
    (case l10 => k_is)
    (case c10 => k_is)
    (case k10 => k_is)
    (case a11 => k_is)
    (case l11 => k_is)
    (case c11 => k_is)
    (case k11 => k_is)
    (case a12 => k_is)
    (case l12 => k_is)
    (case c12 => k_is)
    (case k12 => k_is)
    (case a13 => k_is)
    (case l13 => k_is)
    (case c13 => k_is)
    (case k13 => k_is)
    (case a14 => k_is)
    (case l14 => k_is)
    (case c14 => k_is)
    (case k14 => k_is)
    (case a15 => k_is)
    (case l15 => k_is)
    (case c15 => k_is)
    (case k15 => k_is)
    (case a16 => k_is)
    (case l16 => k_is)
    (case c16 => k_is)
    (case k16 => k_is)
    (case a17 => k_is)
    (case l17 => k_is)
    (case c17 => k_is)
    (case k17 => k_is)
    (case a18 => k_is)
    (case l18 => k_is)
    (case c18 => k_is)
    (case k18 => k_is)
    (case a19 => k_is)
    (case l19 => k_is)
    (case c19 => k_is)
    (case k19 => k_is)
    (case a20 => k_is)
    (case l20 => k_is)
    (case c20 => k_is)
    (case k20 => k_is)
    (case a21 => k_is)
    (case l21 => k_is)
    (case c21 => k_is)
    (case k21 => k_is)
    (case a22 => k_is)
    (case l22 => k_is)
    (case c22 => k_is)
    (case k22 => k_is)
    (case a23 => k_is)
    (case l23 => k_is)
    (case c23 => k_is)
    (case k23 => k_is)
    (case a24 => k_is)
    (case l24 => k_is)
    (case c24 => k_is)
    (case k24 => k_is)
    (case a25 => k_is)
    (case l25 => k_is)
    (case c25 => k_is)
    (case k25 => k_is)
    (case a26 => k_is)
    (case l26 => k_is)
    (case c26 => k_is)
    (case k26 => k_is)
    (case a27 => k_is)
    (case l27 => k_is)
    (case c27 => k_is)
    (case k27 => k_is)
    (case a28 => k_is)
    (case l28 => k_is)
    (case c28 => k_is)
    (case k28 => k_is)
    (case a29 => k_is)
    (case l29 => k_is)
    (case c29 => k_is)
    (case k29 => k_is)
    (case a30 => k_is)
    (case l30 => k_is)
    (case c30 => k_is)
    (case k30 => k_is)
    (case a31 => k_is)
    (case l31 => k_is)
    (case c31 => k_is)
    (case k31 => k_is)
    (case a32 => k_is)
    (case l32 => k_is)
    (case c32 => k_is)
    (case k32 => k_is)
    (case lc__law_is_right => k_is)
    (case vp__law_is_right => rfl)
    (case rc__law_is_right => rfl)
    (case a33 => k_is)
    (case l33 => k_is)
    (case c33 => k_is)
    (case k33 => k_is)
    (case aF => k_is)
    (case fF => 
      refine' K05.four_mk ?lt ?lr0 ?lr1 ?lr2 ?lr3
      (case lt => k_is)
      (case lr0 => k_is)
      (case lr1 => k_is)
      (case lr2 => k_is)
      (case lr3 => k_is))
    (case xLF => k_is)
    (case xWF => k_is)
    (case xWL => k_is)
    (case z_all => k_is)
    (case z_bool => k_is)
    (case z_enumerate => k_is)
    (case z_int => k_is)
    (case z_isinstance => k_is)
    (case z_len => k_is)
    (case z_list => k_is)
    (case z_max => k_is)
    (case z_range => k_is)
    (case z_repr => k_is)
    (case z_tuple => k_is)
    (case z_zip => k_is)
end
