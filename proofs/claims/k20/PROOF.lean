import PyProof.Rows.All
import Wide.All
import OpenK.AllK
import Wide.FinOn
import HandS.ForMost
import KE.GoesEnum
import HandS.Style
import KE.KRevSl
import PyProof.ReprRoads
import HandS.OwnEq
import PyProof.InstNe
import HandS.TupSets
import HandS.IsInst
import HandS.Walk
import HandS.Zip
import HandS.TupAny
import HandS.Deep
import HandS.Conv
import HandS.More
import HandS.Wide
import HandS.HeadHook1
import HandS.Head2
import HandS.SortRule
import HandS.SortOrd
import KE.KDictSum
import KE.KDictPairs
import PyProof.ReprBulk
import HandS.Strs
import HandS.RaiseMore
import HandS.Flow
import HandS.SortInts
import HandS.TupMul
import HandS.Rev
import HandS.Dict
import HandS.WordsDict
import HandS.SetBool
import KE.DataMinMax
import HandS.NamedTupSort
import KE.KDictZip
import KE.KItemsList
import KE.GoesMore
import HandS.ListItems
import PyProof.DictUpdate
import HandS.Iter
import HandS.SetKeys
import HandS.WideBits
import PySem.Challenge.RW_ringvouch_k20_spans_and_doublings
set_option Elab.async false
set_option linter.all false
set_option maxRecDepth 100000
namespace RV
open PySem PySem.Spec PyProof.Rows L2
set_option maxHeartbeats 4000000 in
theorem meets_en1 {val : Value} {ob : Obj} {HH : Heap → Prop} (B : Begins val ob HH) :
    Meets (Builtin.«enumerate.__new__» ⟨[.type "enumerate", val], []⟩) (fun _ R st => HH st.heap ∧
      R (.ok (.ret (.ref (st.heap.push ob).objs.size)))
        { st with heap := (st.heap.push ob).push { cls := .type "enumerate", data := .fields #[.none, .bool false, .ref st.heap.objs.size, rawInt 0, .none, .none] } }) :=
  .of_wp fun prog w A R st hyp => by
    obtain ⟨hp, gs, dr, tk, os⟩ := st
    obtain ⟨hyp1, hyp2⟩ := hyp
    have hsub := sub_enumerate
    have it1 : ∀ {A' : Around} {E : Value → Shared → Prop} {Q : Value → Shared → Prop}, Q (.ref hp.objs.size) ⟨hp.push ob, gs, dr, tk, os⟩ →
        wpAny (model prog w) A' (pyIter val) Q E ⟨hp, gs, dr, tk, os⟩ := fun q => B.iter prog w _ _ ⟨hp, gs, dr, tk, os⟩ _ hyp1 q
    wp_walk using it1
    refine wpAny_stack_any fun sk => wpAny_pure ?_
    split
    · rename_i cc _ _ _ _ _
      cases (cc == Value.type "enumerate") <;> (wp_walk using it1; exact ⟨_, rfl, hyp2⟩)
    · wp_walk using it1
      exact ⟨_, rfl, hyp2⟩
section
variable {prog : Program} {w : World} {A : Around} {E : Value → Shared → Prop} {s : Shared}
theorem call_en1 {val : Value} {ob : Obj} {HH : Heap → Prop} {Q : Value → Shared → Prop} (B : Begins val ob HH) (hh : HH s.heap)
    (k : ∀ h', IsEnum h' (s.heap.objs.size + 1) s.heap.objs.size 0 .none → h'.get? s.heap.objs.size = some ob → h'.objs.size = s.heap.objs.size + 2 →
      (∀ b o, s.heap.get? b = some o → h'.get? b = some o) → Q (.ref (s.heap.objs.size + 1)) { s with heap := h' }) :
    wpAny (model prog w) A (call (.type "enumerate") [val]) Q E s := by
  refine callType_new F.called_enumerate (by decide) (F.typeCall_enumerate_1 _) (F.newCall_enumerate_1 _) (fun oo => F.args_object_init_2 oo _) F.entry_enumerate_new (meets_en1 B) ⟨hh, ?_⟩
  have z1 : (s.heap.push ob).objs.size = s.heap.objs.size + 1 := Heap.size_push ..
  show _ ∧ _
  rw [z1]
  have z2 : IsEnum ((s.heap.push ob).push { cls := .type "enumerate", data := .fields #[.none, .bool false, .ref s.heap.objs.size, rawInt 0, .none, .none] }) (s.heap.objs.size + 1) s.heap.objs.size 0 .none := by
    have z3 := Heap.get?_push_size (s.heap.push ob) (o := { cls := .type "enumerate", data := .fields #[.none, .bool false, .ref s.heap.objs.size, rawInt 0, .none, .none] }) rfl
    rw [z1] at z3; exact z3
  refine ⟨⟨_, z2, rfl⟩, k _ z2 (Heap.get?_push_of_some _ (Heap.get?_push_size _ B.free)) (by rw [Heap.size_push, z1]) fun b o x => ?_⟩
  exact Heap.get?_push_of_some _ (Heap.get?_push_of_some _ x)
end
/-- enumerate of a tuple: the items in new pairs -/
def IteT (K : PySem.W.Frag) (a : Addr) : It where
  go i H := ∃ (xs : List V) (x : V), SqT K H a xs ∧ xs[i]? = some x
  yld i H v H' := ∃ T x, v = .ref T ∧ H T = none ∧ H' = upd H T (.tup [.int (i : Nat), x]) ∧ ∀ xs, SqT K H a xs → xs[i]? = some x
  stop i H := ∃ xs : List V, SqT K H a xs ∧ xs.length ≤ i
theorem turn_enT {P : Program} {w : World} {K : PySem.W.Frag} {elts : List Expr} {kk : Nat} {tpos : Pos} (a e it : Addr) :
    Turn P w K (.Tuple elts kk tpos) (IteT K a) [e, it] e (fun i h => (∃ old, IsEnum h e it ((i : Nat) : Int) old) ∧ h.IsTupleIter it a i ∧ e ≠ it ∧ a ≠ it ∧ a ≠ e) where
  mem := by simp
  obj := fun i h st b hb => by
    obtain ⟨⟨old, he⟩, ⟨o, ho, hc, hd⟩, _, _⟩ := st
    have eb : b = e ∨ b = it := by simpa using hb
    rcases eb with rfl | rfl
    · exact ⟨_, he, fun v q => nomatch q⟩
    · exact ⟨o, ho, fun v q => by rw [hd] at q; cases q⟩
  keep := fun i h h' st k => let ⟨⟨old, he⟩, hi, hne⟩ := st; ⟨⟨old, k e (by simp) _ he⟩, hi.at fun o q => k it (by simp) o q, hne⟩
  item := by
    intro X hP hw hK hc i pins s σ H E I hf st hg
    subst hP hw hK
    obtain ⟨⟨old, he⟩, hit, hne, hai, hae⟩ := st
    obtain ⟨xs, x, hq, hx⟩ := hg
    obtain ⟨its, rv, p, hz⟩ := I.tuple hq
    obtain ⟨u, hu, ru⟩ := rv.get hx
    have hel : e < s.heap.objs.size := Heap.lt_size he
    have hil : it < s.heap.objs.size := by obtain ⟨_, q, _⟩ := hit; exact Heap.lt_size q
    have hi : i < its.toArray.size := by
      have := (List.getElem?_eq_some_iff.mp hu).1
      simpa using this
    refine wpAny_pyNext_enum_itemD (A := X.A) (Draws.tuple (A := X.A.in1) (show X.A.in1.handled = none from I.ok.hd hc) it a hai its.toArray) he ⟨hit, p⟩ hi hne (by simp [hne, Ne.symm hae]) fun y h' tk hy ho hst hT hsz hk => ?_
    have hyu : y = u := by
      have e1 : its[i]? = some y := by simpa using hy
      rw [hu] at e1
      exact (Option.some.inj e1).symm
    subst hyu
    refine ⟨_, rfl, wpAny_letOwnedTupleGo_enum (s := { s with heap := h', toks := tk + 1 }) ho fun h'' he' sb => ?_⟩
    have hT2 : h''.get? s.heap.objs.size = some { cls := .type "tuple", data := .seq #[.int i tk, y] } := (sb.2 _ (Nat.ne_of_gt hel)).trans hT
    have new : ObjOk X.prog X.w (upd H s.heap.objs.size (.tup [.int (i : Nat), x])) h'' s.heap.objs.size (.tup [.int (i : Nat), x]) :=
      ⟨by show 2 ≤ sizeLine; decide, [.int i tk, y], .cons ⟨_, rfl⟩ (.cons ru .nil), ⟨_, hT2, rfl, _, rfl⟩⟩
    have I1 : Inv X pins σ (upd H s.heap.objs.size (.tup [.int (i : Nat), x])) { s with heap := h'', toks := tk + 1 } := by
      refine I.turnedNew (ch := [e, it]) (fun b ob hb q => ?_) hf (Nat.le_refl _) new
      exact (sb.2 b (fun z => hb (by simp [z]))).trans (hk b ob (fun z => hb (by simp [z])) (fun z => hb (by simp [z])) q)
    refine ⟨.ref s.heap.objs.size, _, I1, rfl, ⟨_, x, rfl, I.hok.fresh (Nat.le_refl _), rfl, fun ys hy => ?_⟩, ⟨⟨y, ?_⟩, hst.1.at fun o q => (sb.2 it (Ne.symm hne)).trans q, hne, hai, hae⟩, fun b hb => ?_⟩
    · rw [I.tuple_inj hy hq]; exact hx
    · rw [show ((i + 1 : Nat) : Int) = (i : Int) + 1 by omega]; exact he'
    · have eb : b = e ∨ b = it := by simpa using hb
      have hb' : b < s.heap.objs.size := by
        rcases eb with z | z <;> rw [z] <;> assumption
      rw [upd_ne (Nat.ne_of_lt hb')]
      exact (hf b hb).1
  done := by
    intro X hP hw hK hc i pins s σ H E I hf st hg
    subst hP hw hK
    obtain ⟨⟨old, he⟩, hit, hne, hai, hae⟩ := st
    obtain ⟨xs, hq, hx⟩ := hg
    obtain ⟨its, rv, p, hz⟩ := I.tuple hq
    obtain ⟨f0, f1, f2, f3, f4, f5⟩ := hf it (by simp)
    have hl := rv.length
    have hT : s.TypeIs (.ref e) "enumerate" := ⟨_, he, rfl⟩
    unfold pyNext
    refine wpAny_bind (wpAny_attempt (wpAny_callSpecial?_slot (name := Str.ofString "__next__") hT F.slot_enumerate_next (wpAny_call_entry F.slot_enumerate_next hT F.entry_enumerate_next ?_ (F.args_enumerate_next_1 _))))
    show wpAny _ _ (field (.ref e) 2 >>= _) _ _ _
    refine wpAny_bind (wpAny_field he rfl (x := .ref it) rfl ?_)
    refine wpAny_bind (wpAny_nextOf_tuple_end (I.ok.hd hc) hit p (by simp; omega) fun h' x he' hx' => ?_)
    obtain ⟨o, ho, hco⟩ := hx'
    refine wpAny_bind (wpAny_isInstance (T := "StopIteration") (b := true) ⟨o, ho, hco⟩ isSubtype_stop ?_)
    exact wpAny_pure ⟨rfl, I.turned (t' := s.toks) (fun b o hb q => he' b o hb q) f0 f1 f3 f4 f5⟩
  self := fun A i s Q E st h => let ⟨⟨_, he⟩, _⟩ := st; wpAny_pyIter_enum he h
def iEnT (K : PySem.W.Frag) (ta : TA) : TI := fun σ H R => ta σ H fun vs H1 => ∃ a xs, vs = [.ref a] ∧ SqT K H1 a xs ∧ R (IteT K a) H1
theorem pi_enT {X : Cx} {e : Expr} {ta : TA} {p pos tpos : Pos} {elts : List Expr} {kk : Nat} (hg : Gl X "enumerate") (hm : X.mg "enumerate" = none) (ha : PA X [e] ta)
    (hs : starEach [e] X.env = [(false, eval e X.env)] := by rfl) : PI X (.Tuple elts kk tpos) (.Call (.Name "enumerate" p) [e] [] pos) (iEnT X.K ta) := by
  refine ⟨fun pins s σ H R I h => Call_ (ld_blt I hg hm boot_enumerate (PyProof.Rows.callWith_type1 (thn (ha.run pos pins s σ H _ I h) fun us s1 ⟨vs, H1, I1, r1, q1⟩ => ?_) hs rfl))⟩
  obtain ⟨a, xs, ex, hq, q⟩ := q1
  subst ex
  cases r1 with
  | cons r rr =>
    cases rr
    cases r
    obtain ⟨its, rv, p', hz⟩ := I1.tuple hq
    have ha0 : a < s1.heap.objs.size := by
      obtain ⟨o, ho, _⟩ := p'
      exact Heap.lt_size ho
    refine call_en1 (begins_tuple a its.toArray) p' fun h' he hit hsz hk => wpAny_pyIter_enum he ?_
    have I2 : Inv X pins σ H1 { s1 with heap := h' } := I1.kept (t' := s1.toks) hk
    refine ⟨s1.heap.objs.size + 1, [s1.heap.objs.size + 1, s1.heap.objs.size], _, _, H1, rfl, I2, turn_enT a (s1.heap.objs.size + 1) s1.heap.objs.size,
      ⟨⟨.none, he⟩, ⟨_, hit, rfl, rfl⟩, Nat.succ_ne_self _, Nat.ne_of_lt ha0, Nat.ne_of_lt (Nat.lt_succ_of_lt ha0)⟩, fun b hb => ?_, q⟩
    have eb : b = s1.heap.objs.size + 1 ∨ b = s1.heap.objs.size := by simpa using hb
    have hle : s1.heap.objs.size ≤ b := by
      rcases eb with z | z
      · rw [z]; exact Nat.le_add_right _ _
      · rw [z]; exact Nat.le_refl _
    exact I1.fpOk hle (I1.hok.fresh hle)
end RV
set_option maxHeartbeats 4000000
namespace RV
open PySem PySem.Spec PyProof.Rows L2 HT
theorem back_places (n : Nat) : Builtin.Slice.slicePlaces ((n : Int) - 1) (-1) (-1) = n := by
  unfold Builtin.Slice.slicePlaces
  rw [if_neg (show ¬ ((-1 : Int) > 0) by decide)]
  by_cases hn : (n : Int) - 1 > -1
  · rw [if_pos hn, show (- -1 : Int) = 1 from rfl, Int.ediv_one]; omega
  · rw [if_neg hn]; omega
theorem back_pick (xs : Array Value) : ((List.range xs.size).filterMap fun (m : Nat) => xs[((xs.size : Int) - 1 + (m : Int) * (-1)).toNat]?).toArray = xs.toList.reverse.toArray := by
  have e0 : ∀ (l : List Nat), (∀ m ∈ l, m < xs.size) → l.filterMap (fun (m : Nat) => xs[((xs.size : Int) - 1 + (m : Int) * (-1)).toNat]?) = (l.map fun k => xs.size - 1 - k).filterMap (xs[·]?) := by
    intro l
    induction l with
    | nil => intro _; rfl
    | cons m r ih =>
      intro hm
      have h1 := hm m (List.mem_cons_self ..)
      have h2 := ih fun z hz => hm z (List.mem_cons_of_mem _ hz)
      rw [List.map_cons, List.filterMap_cons, List.filterMap_cons, h2, show ((xs.size : Int) - 1 + (m : Int) * (-1)).toNat = xs.size - 1 - m by omega]
  have e1 := e0 (List.range xs.size) fun m hm => List.mem_range.mp hm
  rw [e1, PySem.W.krv_range, List.filterMap_reverse, PySem.W.krv_all]
section
variable {prog : Program} {w : World} {A : Around} {E : Value → Shared → Prop} {s : Shared}
theorem applied_back {sl : Addr} {vl vu vs : Value} {n : Nat} {Q : Int × Int × Nat → Shared → Prop} (hs : s.heap.IsSliceOf sl vl vu vs) (pl : IsPart vl none) (pu : IsPart vu none) (ps : IsPart vs (some (-1)))
    (k : Q ((n : Int) - 1, -1, n) s) : wpAny (model prog w) A (Builtin.Slice.sliceApplied (.ref sl) (pure (n : Int))) Q E s := by
  obtain ⟨os, o1, o2, o3⟩ := id hs
  unfold Builtin.Slice.sliceApplied Builtin.Slice.sliceFields
  refine wpAny_bind (wpAny_bind (wpAny_field o1 o3 (x := vl) rfl (wpAny_bind (wpAny_field o1 o3 (x := vu) rfl (wpAny_bind (wpAny_field o1 o3 (x := vs) rfl (wpAny_pure ?_)))))))
  refine wpAny_bind (slicePart_ ps ?_)
  show wpAny _ _ (if ((-1 : Int) == 0) = true then _ else _) _ _ s
  rw [if_neg (by decide)]
  refine wpAny_bind (slicePart_ pl (wpAny_bind (slicePart_ pu (wpAny_bind (wpAny_pure ?_)))))
  show wpAny _ _ (pure ((n : Int) - 1, (-1 : Int), Builtin.Slice.slicePlaces ((n : Int) - 1) (-1) (-1))) _ _ s
  rw [back_places]
  exact wpAny_pure k
theorem item_back {t sl : Addr} {items : Array Value} {vl vu vs : Value} {Q : Value → Shared → Prop} (ht : IsTup s.heap t items) (hs : s.heap.IsSliceOf sl vl vu vs) (pl : IsPart vl none) (pu : IsPart vu none) (ps : IsPart vs (some (-1)))
    (k : Q (.ref s.heap.objs.size) { s with heap := s.heap.push { cls := .type "tuple", data := .seq items.toList.reverse.toArray } })
    (hsz : items.size ≤ sizeLine) : wpAny (model prog w) A (getItem (.ref t) (.ref sl)) Q E s := by
  have hok : sizeOk (.seq items.toList.reverse.toArray) := by
    show items.toList.reverse.toArray.size ≤ sizeLine
    simpa using hsz
  obtain ⟨os, o1, o2, o3⟩ := id hs
  have hTs : s.TypeIs (.ref sl) "slice" := ⟨os, o1, o2⟩
  unfold getItem
  try with_reducible refine wpAny_holding ?_
  first | refine wpAny_bind (wpAny_pure ?_) | skip
  refine wpAny_bind (wpAny_sequenceKey ht.typeIs (by decide) ?_)
  refine wpAny_bind (wpAny_callSpecial?_slot (name := Str.ofString "__getitem__") ht.typeIs PyProof.Rows.slot_tuple_getitem (wpAny_call_entry PyProof.Rows.slot_tuple_getitem ht.typeIs entry_tuple_getitem ?_ (args_tuple_getitem _ _)))
  show wpAny _ _ (Builtin.Tuple.tupleItemsOf (.ref t) >>= _) _ _ s
  refine wpAny_bind (tupleItemsOf_ ht (wpAny_bind (wpAny_typeOf hTs ?_)))
  rw [if_pos (by decide)]
  refine wpAny_bind (applied_back hs pl pu ps ?_)
  show wpAny _ _ (if (((items.size : Int) - 1) == 0 && (-1 : Int) == 1 && items.size == items.size) = true then _ else _) _ _ s
  rw [if_neg (by simp), back_pick]
  first
    | exact wpAny_bind (m := Builtin.Tuple.tupleExact _) (wpAny_newObj_type (wpAny_pure ⟨_, rfl, wpAny_pure k⟩) hok)
    | exact wpAny_bind (wpAny_bind (m := Builtin.Tuple.tupleExact _) (wpAny_newObj_type (wpAny_pure (wpAny_pure ⟨_, rfl, wpAny_pure k⟩)) hok))
    | exact wpAny_bind (wpAny_bind (m := Builtin.Tuple.tupleExact _) (wpAny_newObj_type (wpAny_pure ⟨_, rfl, wpAny_pure k⟩) hok))
    | exact wpAny_bind (m := Builtin.Tuple.tupleExact _) (wpAny_newObj_type (wpAny_bind (wpAny_pure (wpAny_pure ⟨_, rfl, wpAny_pure k⟩))) hok)
end
section
variable {X : Cx}
/-- t[::-1] of a tuple -/
def tBackT (K : PySem.W.Frag) (te : TE) : TE := fun σ H Q => te σ H fun x H1 => ∃ a xs, x = .ref a ∧ SqT K H1 a xs ∧ ∀ p, H1 p = none → Q (.ref p) (upd H1 p (.tup xs.reverse))
theorem pe_backT {e : Expr} {te : TE} {k : Nat} {p1 p2 p3 pos : Pos} (he : PE X e te) : PE X (.Subscript e (.Slice none none (some (.UnaryOp .USub (.Constant (.int 1) k p1) p2)) p3) pos) (tBackT X.K te) := by
  refine ⟨fun pins s σ H Q I h => Subscript_ (thn (he.run pins s σ H _ I h) fun v s1 ⟨x, H1, I1, r1, q1⟩ => ?_)⟩
  obtain ⟨a, xs, ex, hx, q⟩ := q1
  subst ex
  cases r1
  have hst : PO X (some (.UnaryOp .USub (.Constant (.int 1) k p1) p2)) (tPart (tUn (rU fun i => .int (-i)) (tC (.int 1)))) := po_some (pe_un un_neg pe_int)
  refine wpAny_Slice (thn (po_none.run pins s1 σ H1 (fun o H2 => o = none ∧ H2 = H1) I1 ⟨rfl, rfl⟩) fun vl s2 ⟨l, H2, I2, pl, el, e2⟩ => ?_)
  subst el e2
  refine thn (po_none.run pins s2 σ H2 (fun o H3 => o = none ∧ H3 = H2) I2 ⟨rfl, rfl⟩) fun vu s3 ⟨u, H3, I3, pu, eu, e3⟩ => ?_
  subst eu e3
  refine thn (hst.run pins s3 σ H3 (fun o H4 => o = some (-1) ∧ H4 = H3) I3 ⟨1, rfl, -1, rfl, rfl, rfl⟩) fun vs s4 ⟨o, H4, I4, ps, eo, e4⟩ => ?_
  subst eo e4
  have I5 : Inv X pins σ H4 { s4 with heap := s4.heap.push { cls := .type "slice", data := .fields #[vl, vu, vs] } } := I4.kept (t' := s4.toks) fun b ob q => Heap.get?_push_of_some _ q
  obtain ⟨its, r, ht, hz⟩ := I5.tuple hx
  have hlen := r.length
  show wpAny (model X.prog X.w) X.A (subscriptTail e _ (.ref a) (.ref s4.heap.objs.size)) (EP X pins σ Q) X.xe { s4 with heap := s4.heap.push { cls := .type "slice", data := .fields #[vl, vu, vs] } }
  refine tail_any (ops := [.ref a, .ref s4.heap.objs.size]) ht.typeIs (PyProof.Rows.slot_tuple_getitem.lookup) ?_ (by with_unfolding_all rfl)
  refine item_back ht (Heap.IsSliceOf.new _ vl vu vs) pl pu ps ?_ (by rw [List.size_toArray]; omega)
  refine ⟨.ref _, _, I5.laid (t' := s4.toks) (o := .tup xs.reverse) (fun b ob q => Heap.get?_push_of_some _ q) (Nat.le_refl _) ?_, rfl, q _ (I5.hok.fresh (Nat.le_refl _))⟩
  exact ⟨by rw [List.length_reverse]; exact hz, its.reverse, r.reverse, IsTup.new _ _⟩
end
end RV
set_option maxHeartbeats 4000000
namespace RV
open PySem PySem.Spec PyProof.Rows L2
/-- as the layer's promise of a def, where no repr runs around -/
structure FnG (P : Program) (w : World) (K : PySem.W.Frag) (mg : Str → Option Value) (base : Heap) (CX : CXT) (k : Nat) (f : Addr) (fd : FuncData) (ps : List Str) (sp : Sp) : Prop where
  many : ∀ vs H Q E, sp vs H Q E → vs.length = ps.length
  goes : ∀ (A : Around) (outer : List Env) (s : Shared) (H : Hp) (args : Args) (us : List Value) (vs : List V) (Q : VK) (E : XK), A.guards = some [] → Room k A → Env0 P w K mg base A outer s H →
    BindsTo s fd args (ps.zip us) → Vals vs us → sp vs H Q E → codeAny (model P w) A (.call (.ref f) args) (CR CX outer P w H s Q E) s
section
variable {P : Program} {w : World} {K : PySem.W.Frag} {mg : Str → Option Value} {base : Heap} {CX : CXT} {k : Nat} {f : Addr} {fd : FuncData} {N ps : List Str} {sp : Sp} {x qual : Str} {st : Stmt}
theorem okG (F : Fun K x qual st f fd) (S : FnScope N ps (defScope st)) (len : ∀ vs H Q E, sp vs H Q E → vs.length = ps.length)
    (body : ∀ (cdv : Value) (A : Around) (outer : List Env) (s : Shared) (H : Hp) (vs : List V) (Q : VK) (E : XK), A.guards = some [] → Room k (A.deeper (envOfC qual (defScope st) s.heap.objs.size f cdv)) → sp vs H Q E →
      ∃ t, PSs (cxOf CX0 P w K mg base N qual (defScope st) f cdv A outer s H E).nox (defBody st) t ∧ t { nx := fun _ H' => Q .non H', rt := Q } (start N vs) H) : FnG P w K mg base CX0 (k + 1) f fd ps sp := by
  obtain ⟨oc, od, kV, doc, pm, an, cdv, ct, osl, rfl, lk, hcd⟩ := F.ex
  refine ⟨len, fun A outer s H args us vs Q E gd hr e0 hb r hsp => ?_⟩
  have KX : K.In s.heap := e0.mod.kin.keeps fun b o z => (e0.bs b o z).1
  have lim : s.heap.NoLimit := e0.mod.nolimit.keeps fun b o z => (e0.bs b o z).1
  have kinds : ∀ y ∈ ps.zip us, (defScope st).names.lookup y.1 = some .local ∨ ((defScope st).names.lookup y.1 = some .cell ∧ ((cellsFrom (s.heap.objs.size + 1) (defScope st).names []).lookup y.1).isSome = true) := by
    rintro ⟨n, v⟩ hy
    exact (S.par n (List.of_mem_zip hy).1).imp id fun q => ⟨q, PySem.W.cellsFrom_some _ _ _ (.inl q)⟩
  refine codeAny_call_function hr.depth (KX _ _ lk) rfl S.co S.gen rfl (PySem.W.codeRec_of KX hcd) (hb _ _ _ _ (wpAny_newFunctionEnv_cells S.kind kinds fun env he s1 z => ?_))
  subst he
  refine ⟨lim.keeps z.toInCall.keep, codeAny_func ?_⟩
  obtain ⟨t, ht, hq⟩ := body cdv A outer s H vs Q E gd (hr.deeper _) hsp
  have I : Inv (cxOf CX0 P w K mg base N qual (defScope st) f cdv A outer s H E) [] (start N vs) H s1 := inv_start S hr.hd e0 (len _ _ _ _ hsp) r z
  refine wpAny_mono (ht.nox.run [] s1 (start N vs) H _ I hq) (fun fl s' hs => ?_) fun e s' hs => hs
  cases fl with
  | ret u =>
    obtain ⟨v, σ', H', J, rv, q⟩ := hs
    exact ⟨v, H', J.os, J.bare, J.base, J.hok, rv, q⟩
  | next =>
    obtain ⟨σ', H', J, q⟩ := hs
    exact ⟨V.non, H', J.os, J.bare, J.base, J.hok, rfl, q⟩
  | brk => exact hs.elim fun _ z => z.elim fun _ y => False.elim y.2
  | cont => exact hs.elim fun _ z => z.elim fun _ y => False.elim y.2
end
section
variable {X : Cx} {CX : CXT} {k : Nat} {f : Addr} {fd : FuncData} {ps : List Str} {sp : Sp} {dvs : List V} {ds : List Value} {E : XK} {x : Str} {p pos : Pos} {e : Expr} {es : List Expr} {t : TA}
/-- f(e, ..) of such a def -/
theorem pe_callG (F : FnG X.prog X.w X.K X.mg X.base CX k f fd ps sp) (gd : X.A.guards = some []) (hr : Room k X.A) (hg : Gl X x) (hm : X.mg x = some (.ref f)) (hk : PySem.W.keepIn X.K (.ref f) = true) (hb : Binds X.K fd ps ds) (hd : Vals dvs ds) (hx : Passes CX X E)
    (ha : PA X (e :: es) t) (hdb : (x == ("__debug__" : Str)) = false := by decide) (he : starEach (e :: es) X.env = (false, eval e X.env) :: starEach es X.env := by rfl) (hpl : (backTo pos (starEach es X.env)).any (·.1) = false := by rfl) :
    PE X (.Call (.Name x p) (e :: es) [] pos) (tCall sp dvs E t) := by
  refine ⟨fun pins s σ H Q I h => wpAny_Call_Name_kw (ld_glob I hg hm ?_ hdb)⟩
  refine PySem.W.callWith_K (h₀ := X.base) I.ok.mod.kin hk (thn (ha.run pos pins s σ H _ I h) fun us s1 ⟨vs, H1, I1, r, q⟩ => ⟨I1.kIn, ?_⟩) he hpl
  have r2 : Vals (vs ++ dvs) (us ++ ds) := r.append hd
  have hl : (us ++ ds).length = ps.length := r2.length ▸ F.many _ _ _ _ q
  refine wpAny_call (codeAny_mono (F.goes X.A X.stack s1 H1 ⟨us, []⟩ (us ++ ds) (vs ++ dvs) Q E gd hr I1.env0 (hb s1 us I1.kIn hl) r2 q) fun rr s' hq => ?_)
  cases rr with
  | error ee => exact hx pins σ H1 s1 ee s' I1 hq
  | ok fl => cases fl <;> first | exact I1.after hq | exact False.elim hq
/-- repr(x), x an object read as data -/
theorem call_reprD (gd : X.A.guards = some []) (hu : X.A.units + 65 < cLine) : CallR X (.builtin "repr") (fun xs H Q => ∃ (a : Addr) (d : PyData), xs = [.ref a] ∧ Dp X.K H (.ref a) d ∧ d.showable = true ∧ d.hasDict = false ∧ d.depth ≤ 64 ∧ d.shown.length ≤ sizeLine ∧ Q (.str d.shown) H) := by
  intro pins s σ H xs us Q I r h
  obtain ⟨a, d, rfl, hd, h1, h2, h3, h4, q⟩ := h
  obtain ⟨u, rfl, ru⟩ := vals1 r
  cases ru
  obtain ⟨as, rd⟩ := Dp.reads I d (.ref a) (.ref a) hd rfl
  refine repr_of_reads' rd h1 (fun z => by rw [h2] at z; cases z) gd (by omega) (fun _ _ z => z) (fun h' uu tk k => ?_) h4
  exact ⟨.str d.shown, H, I.kept k, ⟨uu, rfl⟩, q⟩
end
section
/-- the law's call, from such a promise -/
theorem law_callG {P : Program} {w : World} {K : PySem.W.Frag} {mg mb : Str → Option Value} {k : Nat} {fa a : Addr} {fd : FuncData} {x : Str} {sp : Sp} {st : Shared} {vs : List Value} {ns : List Int}
    (KX : K.In st.heap) (n1 : st.heap.Ns mainGlobals mg) (n2 : st.heap.Ns builtinsNs mb) (n3 : ∀ x : Str, x ≠ "__name__" → mb x = bootBuiltins x) (n4 : st.heap.NoLimit) (n5 : st.gens = #[])
    (ha : st.heap.get? a = some { cls := .type "list", data := .seq vs.toArray }) (hi : IntsAre vs ns) (hl : ns.length ≤ sizeLine) (hr : Room k callerA)
    (F : ∀ base : Heap, K.In base → base.Ns mainGlobals mg → FnG P w K mg base CX0 k fa fd [x] sp) (bnd : ∀ (s : Shared) (u : Value), BindsTo s fd ⟨[u], []⟩ [(x, u)])
    (hsp : ∀ H : Hp, Only H → SqL K H a (ns.map V.int) → sp [.ref a] H (fun v _ => v = .bl true) fun _ _ _ => False) :
    codeAny (model P w) callerA (.call (.ref fa) ⟨[.ref a], []⟩) (fun r s' => r = .ok (.ret (.bool true)) ∧ OldK st.heap s'.heap ∧ s'.os = st.os ∧ AllBare s'.gens) st := by
  have rv := vals_ints hi
  have lv := hi.length
  have key : ∀ H : Hp, Only H → SqL K H a (ns.map V.int) → HOk P w H st.heap → (∀ b, H b ≠ none → b = a) → (H a ≠ none → K.lookup a = none) →
      codeAny (model P w) callerA (.call (.ref fa) ⟨[.ref a], []⟩) (fun r s' => r = .ok (.ret (.bool true)) ∧ OldK st.heap s'.heap ∧ s'.os = st.os ∧ AllBare s'.gens) st := by
    intro H hO hS hok hA hK
    have noA : ∀ {b : Addr} {o : Obj} {es : Array DictEntry} {ep : Nat}, st.heap.get? b = some o → o.data = .dict es ep → H b = none := by
      intro b o es ep e d
      cases q : H b with
      | none => rfl
      | some u =>
        obtain rfl : b = a := hA b (by rw [q]; simp)
        rw [ha] at e
        cases e
        cases (show Data.seq vs.toArray _ = Data.dict es ep from d)
    have nsK : ∀ {b : Addr} {m : Str → Option Value}, st.heap.Ns b m → (hidT st.heap H).Ns b m := fun {b m} ⟨o, es, ep, e, d, r⟩ => ⟨o, es, ep, hidT_get e (noA e d), d, r⟩
    have kb : K.In (hidT st.heap H) := fun b o e => hidT_get (KX b o e) (by
      cases q : H b with
      | none => rfl
      | some u =>
        obtain rfl : b = a := hA b (by rw [q]; simp)
        rw [hK (by rw [q]; simp)] at e
        cases e)
    obtain ⟨mc, l1, l2⟩ := n4
    have e0 : Env0 P w K mg (hidT st.heap H) callerA [] st H :=
      ⟨rfl, ⟨kb, nsK n1, ⟨mb, nsK n2, n3⟩, ⟨mc, nsK l1, l2⟩⟩, fun b o e => of_hidT e, Nat.le_of_eq (hidT_size _ _), trivial, fun b hb => absurd (show b ∈ ([] : List Addr) from hb) (by simp), hok, .of_eq n5⟩
    refine codeAny_mono ((F _ kb (nsK n1)).goes callerA [] st H ⟨[.ref a], []⟩ [.ref a] [.ref a] _ _ rfl hr e0 (bnd st (.ref a)) (.cons rfl .nil) (hsp H hO hS)) fun r s' h => ?_
    cases r with
    | error e => exact False.elim h
    | ok fl =>
      cases fl with
      | next => exact False.elim h
      | brk => exact False.elim h
      | cont => exact False.elim h
      | ret u =>
        obtain ⟨v, H', os, bare, un, hok', r', q⟩ := h
        obtain rfl : v = .bl true := q
        obtain rfl : u = Value.bool true := r'
        refine ⟨rfl, OldK.of_keep fun b o e => ?_, os, bare⟩
        rcases hO b with z | ⟨ob, xs, z⟩
        · exact un.keep b o e z (fun y => absurd (show b ∈ ([] : List Addr) from y) (by simp)) (by simp)
        · have z2 := un.frzs b ob _ z
          obtain ⟨e1, _⟩ := hok b _ z
          obtain ⟨e2, _⟩ := hok' b _ z2
          rw [e] at e1
          cases e1
          exact e2
  cases hk : K.lookup a with
  | some o =>
    have e := KX a o hk
    rw [ha] at e
    cases e
    exact key (fun _ => none) (fun _ => .inl rfl) (.inr ⟨_, vs.toArray, _, hk, rfl, rfl, rfl, by rw [List.size_toArray, lv]; exact hl, by simpa using rv⟩)
      (fun b u z => by cases (show (none : Option HO) = some u from z)) (fun b z => absurd rfl z) fun z => absurd rfl z
  | none =>
    refine key (fun b => if b = a then some (.frz { cls := .type "list", data := .seq vs.toArray } (.lst (ns.map V.int))) else none) (fun b => ?_) (.inl (.inr ⟨{ cls := .type "list", data := .seq vs.toArray }, if_pos rfl⟩)) (fun b u z => ?_) (fun b z => ?_) fun _ => hk
    · by_cases hb : b = a
      · exact .inr ⟨_, _, if_pos hb⟩
      · exact .inl (if_neg hb)
    · by_cases hb : b = a
      · cases (if_pos hb).symm.trans z
        subst hb
        exact ⟨ha, by rw [List.length_map]; exact hl, vs, _, rv, ha⟩
      · cases (if_neg hb).symm.trans z
    · exact Classical.byContradiction fun hb => z (if_neg hb)
theorem walk_G {l : PySem.W.OpenLaw} {n k : Nat} {q : Program} {loose : List Str} {XP : (Str → Option Value) → Heap → Prop} {YP : World → Heap → Prop} {d : DefRec} {K : Params → PySem.W.Frag} {sp : World → Sp} {x : Str}
    (hn : l.most = some n) (hn2 : n ≤ sizeLine) (hdf : d.params.defaults = []) (hr : Room k callerA) (hY : ∀ (w : World) (h : Heap), YP w h → (K w.params).In h)
    (F : ∀ (w : World) (mg : Str → Option Value) (fa : Addr) (h : Heap), (K w.params).In h → h.Ns mainGlobals mg → mg d.name = some (.ref fa) →
      ∃ fd : FuncData, (∀ (s : Shared) (u : Value), BindsTo s fd ⟨[u], []⟩ [(x, u)]) ∧ ∀ base : Heap, (K w.params).In base → base.Ns mainGlobals mg → FnG l.prog w (K w.params) mg base CX0 k fa fd [x] (sp w))
    (hsp : ∀ (w : World) (H : Hp) (a : Addr) (ns : List Int), ns.length ≤ n → Only H → SqL (K w.params) H a (ns.map V.int) → sp w [.ref a] H (fun v _ => v = .bl true) fun _ _ _ => False) :
    PySem.W.WalkO q loose XP YP l.row.toRowW d [] (fun f vs => PySem.call f vs) := by
  refine Att.attach_call hn hdf fun w s₀ st mg mb fa o pm cd doc a vs ns G Y ho hd hcd hmg hobj hints hlen hg => ?_
  obtain ⟨fd, hb, hF⟩ := F w mg fa _ (hY w _ Y) G.T.g hmg
  exact law_callG (hY w _ Y) G.T.g G.T.b G.T.builtins G.T.nolimit hg hobj hints (Nat.le_trans hlen hn2) hr hF hb fun H hO hS => hsp w H a ns hlen hO hS
end
end RV
set_option maxHeartbeats 4000000
namespace RV
open PySem PySem.Spec PyProof.Rows L2 PySem.W
section
variable {prog : Program} {w : World} {A : Around} {E : Value → Shared → Prop} {s : Shared} {K : Frag} {x C L f : Addr} {h₀ : Heap} {m : Str → Option Value} {ox : Obj} {od : Option Obj} {b tb : Value}
theorem ne_bound {Q : Option Value → Shared → Prop} (X : K.In s.heap) (I : InstAt s.heap x ox C od) (hs : findIn K (.ref C) "__ne__" = some (some (.builtin "object.__ne__")))
    (h : wpAny (model prog w) A (call (.builtin "object.__ne__") [.ref x, b]) (fun v => Q (some v)) E s) : wpAny (model prog w) A (callSpecialIfBound? (.ref x) "__ne__" [b]) Q E s := by
  simp only [callSpecialIfBound?, bindSpecialIfBound?]
  refine wpAny_holding (wpAny_bind (wpAny_bind (wpAny_bind (I.type.here ((looks_findIn X hs).here ?_)))))
  refine wpAny_bind (wpAny_askSetting (wpAny_ite ?_))
  have fin : wpAny (model prog w) A (call (.builtin "object.__ne__") ([.ref x] ++ [b]) >>= fun v => pure (some v)) Q E s :=
    wpAny_bind (wpAny_mono h (fun v s' z => wpAny_pure z) fun _ _ z => z)
  split
  · rw [F.cmp_object.ne.bind]
    exact wpAny_bind (wpAny_pure (wpAny_pure fin))
  · rw [F.cmp_object.ne.bind]
    exact wpAny_tryCatch (wpAny_bind (wpAny_pure (wpAny_pure fin)))
theorem obj_ne {Q : Fin → Shared → Prop} (X : K.In s.heap) (hu : A.units < cLine) (I : InstAt s.heap x ox C od) (hs : findIn K (.ref C) "__eq__" = some (some (.ref f))) (hf : isFn K (.ref f) = true)
    (h : wpAny (model prog w) A (call (.ref f) [.ref x, b]) (fun v s' => ∃ c, v = .bool c ∧ Q (.done (.ret (.bool (!c)))) s') E s) :
    wpAny (model prog w) A (Builtin.«object.__ne__» ⟨[.ref x, b], []⟩) Q E s := by
  unfold Builtin.«object.__ne__»
  repeat (first
    | with_reducible refine wpAny_cRoomFor hu ?_
    | (refine wpAny_bind (m := callSpecialIfBound? (.ref x) (Str.ofString "__eq__") [b])
        (ifBound_K X I hs hf (wpAny_mono h (fun r s' hr => by
          obtain ⟨c, rfl, hq⟩ := hr
          repeat (first | exact hq | exact wpAny_pure hq | exact wpAny_truthy_bool hq | (refine wpAny_bind (m := truthy (.bool _)) (wpAny_truthy_bool ?_)) | wp_step)) fun _ _ z => z)))
    | wp_step)
theorem cmp_ne {Q : Value → Shared → Prop} (hu : A.units + 1 < cLine) (F0 : Fr h₀ L s.heap m) (X₀ : K.In h₀) (I : InstAt s.heap x ox C od) (hb : Looks (model prog w) s.heap (typeOf b) (.ref C))
    (hn : findIn K (.ref C) "__ne__" = some (some (.builtin "object.__ne__"))) (hm : mroIn K C (.type "object") = some true)
    (hs : findIn K (.ref C) "__eq__" = some (some (.ref f))) (hf : isFn K (.ref f) = true)
    (h : wpAny (model prog w) A.in1 (call (.ref f) [.ref x, b]) (fun v s' => ∃ c, v = .bool c ∧ Q (.bool (!c)) s') E s) : wpAny (model prog w) A (richCompare .NotEq (.ref x) b) Q E s := by
  have X := X₀.keeps F0.keep
  have one : wpAny (model prog w) A (tryCompare (.ref x) "__ne__" b) (fun r s' => ∃ v, r = some v ∧ Q v s') E s := by
    unfold tryCompare
    refine wpAny_bind (ne_bound X I hn (wpAny_call (codeAny_call_builtin F.cmp_object.ne.plain F.cmpEntry_ne ?_)))
    refine check_slot F.cmpKind_ne F.cmpSplit_ne ?_ (F.cmpArgs_ne _ _) ?_
    · exact I.type.andThen (looks_mroIn X hm)
    · refine obj_ne (A := A.in1) X hu I hs hf (wpAny_mono h (fun v s' hv => ?_) fun _ _ z => z)
      obtain ⟨c, rfl, hq⟩ := hv
      exact ⟨c, rfl, wpAny_pure ⟨_, rfl, hq⟩⟩
  unfold richCompare
  simp only [oneThing_ref]
  refine wpAny_holding (wpAny_bind (wpAny_cRoomFor (Nat.lt_of_succ_lt hu) ?_))
  rw [cmpInfo_NotEq]
  dsimp only
  refine wpAny_bind (I.type.here (wpAny_bind (hb.here ?_)))
  rw [show (Value.ref C != Value.ref C) = false from by simp]
  simp only [Bool.false_eq_true, if_false]
  refine wpAny_bind (wpAny_pure ?_)
  simp only [Bool.false_eq_true, if_false]
  refine wpAny_bind (wpAny_mono one (fun r s' z => ?_) fun _ _ z => z)
  obtain ⟨v, rfl, hq⟩ := z
  exact wpAny_pure hq
end
section
variable {X : Cx} {CX : CXT} {n : Nat} {C f : Addr} {fd : FuncData} {ps : List Str} {sp : Sp} {E : XK}
/-- x != y, instances of the class at C, by the text's own == -/
def rNeI (C : Addr) (sp : Sp) (E : XK) : R2 := fun x y H Q => ∃ a b dx dy fs gs, x = .ref a ∧ y = .ref b ∧ H a = some (.ins C dx fs) ∧ H b = some (.ins C dy gs) ∧ sp [.ref a, .ref b] H (fun v H' => ∃ c, v = .bl c ∧ Q (.bl (!c)) H') E
def rEqI (C : Addr) (sp : Sp) (E : XK) : R2 := fun x y H Q => ∃ a b dx dy fs gs, x = .ref a ∧ y = .ref b ∧ H a = some (.ins C dx fs) ∧ H b = some (.ins C dy gs) ∧ sp [.ref a, .ref b] H (fun v H' => ∃ c, v = .bl c ∧ Q (.bl c) H') E
theorem op_neI (G : FnOk X.prog X.w X.K X.mg X.base CX n f fd ps sp) (hr : Room (n + 1) X.A) (hn : findIn X.K (.ref C) "__ne__" = some (some (.builtin "object.__ne__"))) (hm : mroIn X.K C (.type "object") = some true)
    (hs : findIn X.K (.ref C) "__eq__" = some (some (.ref f))) (hf : isFn X.K (.ref f) = true) (hb : Binds X.K fd ps []) (hx : Passes CX X E) : OpR X (compareOp .NotEq) (rNeI C sp E) := by
  intro pins s σ H x y v u Q I rx ry hq
  obtain ⟨a, b, dx, dy, fs, gs, rfl, rfl, ha, hb', q⟩ := hq
  cases rx
  cases ry
  obtain ⟨mA, J, _⟩ := ins_get I.hok ha
  obtain ⟨mB, J', _⟩ := ins_get I.hok hb'
  obtain ⟨od, J, _⟩ := J.look
  obtain ⟨od', J', _⟩ := J'.look
  obtain ⟨m, hF⟩ := I.fr
  show wpAny (model X.prog X.w) X.A (richCompare .NotEq (.ref a) (.ref b)) (EP X pins σ Q) X.xe s
  refine cmp_ne (by have := hr.un; omega) hF I.ok.mod.kin J J'.type hn hm hs hf ?_
  have hl := G.len _ _ _ _ q
  have r2 : Vals [V.ref a, V.ref b] [Value.ref a, Value.ref b] := .cons rfl (.cons rfl .nil)
  refine wpAny_call (codeAny_mono (G.run X.A.in1 X.stack s H ⟨[.ref a, .ref b], []⟩ [.ref a, .ref b] [.ref a, .ref b] _ E hr.in1 I.env0.in1 (by simpa using hb s [.ref a, .ref b] I.kIn (by simpa using hl)) r2 q) fun r s' hq => ?_)
  cases r with
  | error e => exact hx pins σ H s e s' I hq
  | ok fl =>
    cases fl with
    | ret w =>
      obtain ⟨z, H', I', rz, c, ez, ex⟩ := I.after hq
      subst ez
      cases rz
      exact ⟨c, rfl, .bl (!c), H', I', rfl, ex⟩
    | next => exact False.elim hq
    | brk => exact False.elim hq
    | cont => exact False.elim hq
theorem op_eqI (G : FnOk X.prog X.w X.K X.mg X.base CX n f fd ps sp) (hr : Room n X.A)
    (hs : findIn X.K (.ref C) "__eq__" = some (some (.ref f))) (hf : isFn X.K (.ref f) = true) (hb : Binds X.K fd ps []) (hx : Passes CX X E) : OpR X (compareOp .Eq) (rEqI C sp E) := by
  intro pins s σ H x y v u Q I rx ry hq
  obtain ⟨a, b, dx, dy, fs, gs, rfl, rfl, ha, hb', q⟩ := hq
  cases rx
  cases ry
  obtain ⟨mA, J, _⟩ := ins_get I.hok ha
  obtain ⟨mB, J', _⟩ := ins_get I.hok hb'
  obtain ⟨od, J, _⟩ := J.look
  obtain ⟨od', J', _⟩ := J'.look
  obtain ⟨m, hF⟩ := I.fr
  show wpAny (model X.prog X.w) X.A (richCompare .Eq (.ref a) (.ref b)) (EP X pins σ Q) X.xe s
  refine PySem.W.cmp_K (op := .Eq) (tb := .ref C) hr.units0 hF I.ok.mod.kin J J'.type (by simp [PySem.W.notFirst]) hs hf ?_
  have hl := G.len _ _ _ _ q
  have r2 : Vals [V.ref a, V.ref b] [Value.ref a, Value.ref b] := .cons rfl (.cons rfl .nil)
  refine wpAny_call (codeAny_mono (G.run X.A X.stack s H ⟨[.ref a, .ref b], []⟩ [.ref a, .ref b] [.ref a, .ref b] _ E hr I.env0 (by simpa using hb s [.ref a, .ref b] I.kIn (by simpa using hl)) r2 q) fun r s' hq => ?_)
  cases r with
  | error e => exact hx pins σ H s e s' I hq
  | ok fl =>
    cases fl with
    | ret w =>
      obtain ⟨z, H', I', rz, c, ez, ex⟩ := I.after hq
      subst ez
      cases rz
      exact ⟨.bl c, H', I', rfl, ex⟩
    | next => exact False.elim hq
    | brk => exact False.elim hq
    | cont => exact False.elim hq
end
end RV
set_option maxHeartbeats 4000000
/-! set(xs) of tuples of ints, xs of any length, where few of them are unlike -/
namespace RV
open PySem PySem.Spec PyProof.Rows L2
/-- fewer than 63 unlike ones -/
def FewUnlike (ks : List (Addr × List Int)) : Prop := ∀ L : List (Addr × List Int), (L.map (·.2)).Nodup → (∀ p ∈ L, p ∈ ks) → L.length + 1 < 64
abbrev noneYet (w : World) : Obj := { cls := .type "set", dict := none, data := .set #[] 0 (.fresh 0 0 (!w.params.followText "set-order")) }
section
variable {P : Program} {w : World} {A : Around} {E : Value → Shared → Prop} {s : Shared}
theorem setN_loop {R : Result → Shared → Prop} (hh : A.in1.handled = none) (S l it : Addr) (hSl : S ≠ l) (hSi : S ≠ it) (hli : l ≠ it) (items : Array Value) (ks : List (Addr × List Int)) (few : FewUnlike ks)
    (refs : ∀ (i : Nat) (p : Addr × List Int), ks[i]? = some p → items[i]? = some (Value.ref p.1)) (size : items.size = ks.length) (old : Heap) (tups : ∀ p ∈ ks, IsT P w old p.2 p.1) (o1 : old.get? S = none) (o2 : old.get? it = none) (hu : A.in1.units < cLine) :
    ∀ (k i : Nat) (s : Shared), ks.length - i = k → i ≤ ks.length → s.heap.IsListIter it l i → s.heap.IsList l items → (∀ b o, old.get? b = some o → s.heap.get? b = some o) → (∃ L es ep t, SetTR P w s.heap S L es ep t ∧ Got ks i L) →
      (∀ h' tk L es ep t, SetTR P w h' S L es ep t → Got ks ks.length L → (∀ b o, old.get? b = some o → h'.get? b = some o) → R (.ok (.ret .none)) { s with heap := h', toks := tk }) →
      codeAny (model P w) A (.builtin "set.update.loop" ⟨[.ref S, .ref it], []⟩) R s
  | 0, i, s, hk, hi, hit, hl, keep, ⟨L, es, ep, t, hS, got⟩, fin => by
    obtain rfl : i = ks.length := by omega
    refine codeAny_builtin F.entry_set_update_loop ?_
    rw [Around.under_plainId F.plain_set_update_loop _]
    show wpAny _ A.in1 (pyNext (.ref it) >>= _) _ _ s
    refine wpAny_bind (wpAny_pyNext_list_end hh hit hl (by simp [size]) fun h' ext => ?_)
    have keep' : ∀ b o, old.get? b = some o → h'.get? b = some o := fun b o e => ext b o (fun z => by rw [z, o2] at e; cases e) (keep b o e)
    exact wpAny_pure (fin h' s.toks L es ep t (hS.keep (fun o e => ext S o hSi e) fun p hp => isT_keep (tups p (List.mem_of_mem_take (got.sub p hp))) keep') got keep')
  | k + 1, i, s, hk, hi, hit, hl, keep, ⟨L, es, ep, t, hS, got⟩, fin => by
    obtain ⟨p, hp⟩ : ∃ p, ks[i]? = some p := ⟨_, List.getElem?_eq_getElem (by omega)⟩
    refine codeAny_builtin F.entry_set_update_loop ?_
    rw [Around.under_plainId F.plain_set_update_loop _]
    show wpAny _ A.in1 (pyNext (.ref it) >>= _) _ _ s
    refine wpAny_bind (wpAny_pyNext_list_item hit hl (refs i p hp) fun h1 hit1 sb1 => ?_)
    have keep1 : ∀ b o, old.get? b = some o → h1.get? b = some o := fun b o e => (sb1.2 b fun z => by rw [z, o2] at e; cases e).trans (keep b o e)
    have inKs : ∀ q ∈ L, q ∈ ks := fun q hq => List.mem_of_mem_take (got.sub q hq)
    have hS1 : SetTR P w h1 S L es ep t := hS.keep (fun o e => (sb1.2 S hSi).trans e) fun q hq => isT_keep (tups q (inKs q hq)) keep1
    have hT : IsT P w h1 p.2 p.1 := isT_keep (tups p (List.mem_of_getElem? hp)) keep1
    show wpAny _ A.in1 (holding [Value.ref p.1] (setAdd S (.ref p.1)) >>= _) _ _ _
    refine wpAny_bind (wpAny_holding ?_)
    unfold setAdd
    refine wpAny_holding (wpAny_bind (wpAny_pyHash_tuple hu hT ?_))
    refine add_at (s := { s with heap := h1, toks := s.toks + (p.2.length + 1) }) hS1 hT hu (few L hS1.nd inKs) fun b h2 L2 es2 ep2 t2 sb2 hS2 yes no => ?_
    have got2 : Got ks (i + 1) L2 := by
      by_cases c : p.2 ∈ L.map (·.2)
      · rw [yes c]; exact got.same hp c
      · exact got.more hp (no c)
    have keep2 : ∀ b o, old.get? b = some o → h2.get? b = some o := fun b o e => (sb2.2 b fun z => by rw [z, o1] at e; cases e).trans (keep1 b o e)
    refine wpAny_pure ⟨plainId_quiet F.plain_set_update_loop _, setN_loop hh S l it hSl hSi hli items ks few refs size old tups o1 o2 hu k (i + 1) _ (by omega) (by omega)
      (hit1.at fun o e => (sb2.2 it (Ne.symm hSi)).trans e) ((hl.at fun o e => (sb1.2 l hli).trans e).at fun o e => (sb2.2 l (Ne.symm hSl)).trans e) keep2 ⟨L2, es2, ep2, t2, hS2, got2⟩ fun h' tk L' es' ep' t' z1 z2 z3 => ?_⟩
    exact fin h' tk L' es' ep' t' z1 z2 z3
set_option maxHeartbeats 8000000 in
theorem call_setN {l : Addr} {items : Array Value} (ks : List (Addr × List Int)) {Q : Value → Shared → Prop} (hh : A.handled = none) (hl : s.heap.IsList l items) (refs : items.toList = ks.map fun p => Value.ref p.1)
    (tups : ∀ p ∈ ks, IsT P w s.heap p.2 p.1) (few : FewUnlike ks) (hu : A.units + 3 < cLine)
    (k : ∀ (h' : Heap) (tk : Nat) L es ep t, SetTR P w h' s.heap.objs.size L es ep t → Got ks ks.length L → (∀ b o, s.heap.get? b = some o → h'.get? b = some o) → Q (.ref s.heap.objs.size) { s with heap := h', toks := tk }) :
    wpAny (model P w) A (call (.type "set") [.ref l]) Q E s := by
  have size : items.size = ks.length := by simpa using congrArg List.length refs
  have refs' : ∀ (i : Nat) (p : Addr × List Int), ks[i]? = some p → items[i]? = some (Value.ref p.1) := fun i p e => by
    rw [← Array.getElem?_toList, refs, List.getElem?_map, e]; rfl
  obtain ⟨c, tl, hm⟩ := F.called_set.mro
  have a1 := F.called_set.made
  have a2 := F.called_set.sub
  have a3 := F.called_set.notType
  have a4 := F.called_set.canCreate
  have a5 := F.typeCall_set_1 (.ref l)
  refine wpAny_call (codeAny_of_tree ?_)
  show wpAny _ _ (callAny (.type "set") _) _ _ _
  refine wpAny_pure ⟨Code.quiet_builtin _ (by decide +kernel), codeAny_builtin F.entry_type_call ?_⟩
  rw [Around.under_plain (weight_type_call_type "set" [.ref l] []) rfl]
  repeat (any_goals (first | assumption | wp_step))
  refine codeAny_mono (code_set_led1 (.ref l) (E := E) (Q₁ := fun obj s₁ => obj = .ref s.heap.objs.size ∧ s₁ = { s with heap := s.heap.push (noneYet w) }) ⟨rfl, rfl⟩) fun r s₁ hr => ?_
  match r, hr with
  | .error e, hr => exact hr
  | .ok .next, hr => exact hr.elim
  | .ok .brk, hr => exact hr.elim
  | .ok .cont, hr => exact hr.elim
  | .ok (.ret obj), hr =>
    obtain ⟨rfl, rfl⟩ := hr
    have hS : (s.heap.push (noneYet w)).get? s.heap.objs.size = some (noneYet w) := Heap.get?_push_size _ rfl
    have hT : Shared.TypeIs { s with heap := s.heap.push (noneYet w) } (.ref s.heap.objs.size) "set" := ⟨_, hS, rfl⟩
    have b1 := F.called_set.init.lookup
    have b2 := F.called_set.init.bind (.ref s.heap.objs.size)
    repeat (any_goals (first | assumption | wp_step))
    refine codeAny_mono (codeAny_call_builtin (R := wants (fun r s₂ => r = .none ∧ ∃ h' tk L es ep t, s₂ = { s with heap := h', toks := tk } ∧ SetTR P w h' s.heap.objs.size L es ep t ∧ Got ks ks.length L ∧
        (∀ b o, s.heap.get? b = some o → h'.get? b = some o)) E) F.called_set.init.plain F.entry_set_init (check_set_init_1 hT ?_)) fun r₂ s₂ hr₂ => ?_
    · obtain ⟨⟨oc, od, dt, os⟩, g1, g2, nl, g3⟩ := hl
      simp only at g2 g3
      subst g2 g3
      have g4 : (s.heap.push (noneYet w)).get? l = some { cls := .type "list", dict := od, data := .seq items nl, slots := os } := Heap.get?_push_of_some _ g1
      have c1 := F.sub_list_set
      have c2 := F.sub_list_frozenset
      have c3 : (Value.type "list" == Value.type "dict") = false := by decide
      have isl : (s.heap.push (noneYet w)).IsList l items := ⟨_, g4, rfl, nl, rfl⟩
      unfold Builtin.«set.__init__» noKeywords Builtin.Frozenset.updateFrom
      generalize hpi : pyIter = pI
      wp_walk
      subst hpi
      refine wpAny_pyIter_list isl (wpAny_bind (wpAny_runValue ?_))
      have lt : l < s.heap.objs.size := Heap.lt_size g1
      have z1 : (s.heap.push (noneYet w)).objs.size = s.heap.objs.size + 1 := Heap.size_push ..
      have none1 : ∀ b, s.heap.objs.size ≤ b → s.heap.get? b = none := fun b hb => by
        cases q : s.heap.get? b with
        | none => rfl
        | some o => exact absurd (Nat.lt_of_lt_of_le (Heap.lt_size q) hb) (Nat.lt_irrefl _)
      refine setN_loop (A := A.in1.in1) (by simp [hh]) s.heap.objs.size l (s.heap.push (noneYet w)).objs.size (Nat.ne_of_gt lt) (by rw [z1]; exact Nat.ne_of_lt (Nat.lt_succ_self _)) (by rw [z1]; exact Nat.ne_of_lt (Nat.lt_succ_of_lt lt)) items ks few refs' size s.heap tups (none1 _ (Nat.le_refl _)) (none1 _ (by rw [z1]; exact Nat.le_succ _)) hu (ks.length - 0) 0 _ rfl (Nat.zero_le _)
        ⟨_, Heap.get?_push_size _ rfl, rfl, rfl⟩ (isl.push _) (fun b o e => Heap.get?_push_of_some _ (Heap.get?_push_of_some _ e)) ⟨[], #[], 0, _, setTR_fresh (Heap.get?_push_of_some _ hS), Got.zero ks⟩ fun h' tk L es ep t q1 q2 q3 => ?_
      show wpAny _ _ _ _ _ _
      refine wpAny_pure ?_
      show wpAny _ _ (ret Value.none) _ _ _
      exact wpAny_pure ⟨rfl, h', tk, L, es, ep, t, rfl, q1, q2, q3⟩
    · match r₂, hr₂ with
      | .error e, hr₂ => exact hr₂
      | .ok .next, hr₂ => exact hr₂.elim
      | .ok .brk, hr₂ => exact hr₂.elim
      | .ok .cont, hr₂ => exact hr₂.elim
      | .ok (.ret r), hr₂ =>
        obtain ⟨rfl, h', tk, L, es, ep, t, rfl, q1, q2, q3⟩ := hr₂
        repeat (any_goals (first | assumption | wp_step))
        exact k _ _ _ _ _ _ q1 q2 q3
end
section
variable {X : Cx}
def rSetN (K : PySem.W.Frag) (P : Program) (w : World) : List V → Hp → VK → Prop := fun xs H Q => ∃ (l : Addr) (ks : List (Addr × List Int)), xs = [V.ref l] ∧ SqL K H l (ks.map fun p => V.ref p.1) ∧ (∀ p ∈ ks, SqT K H p.1 (p.2.map V.int)) ∧ FewUnlike ks ∧
  ∀ a L, H a = none → (∀ p ∈ L, p ∈ ks) → (∀ p ∈ ks, p.2 ∈ L.map (·.2)) → Q (.ref a) (upd H a (SetTO P w a L))
theorem cr_setN (hc : X.calm = true) (hu : X.A.units + 64 < cLine) : CallR X (.type "set") (rSetN X.K X.prog X.w) := by
  intro pins s σ H xs us Q I r h
  obtain ⟨l, ks, rfl, hl, hk, few, q⟩ := h
  rw [Vals.ref1 r]
  obtain ⟨its, rv, pl, hz⟩ := I.list hl
  refine call_setN ks (I.ok.hd hc) pl.isList (by simpa using refs_of_vals rv) (fun p hp => I.isT (hk p hp)) few (by omega) fun h' tk L es ep t R g kp => ?_
  refine ⟨.ref s.heap.objs.size, upd H s.heap.objs.size (SetTO X.prog X.w s.heap.objs.size L), I.laid (t' := tk) kp (Nat.le_refl _) (setTO_new R.t0), rfl, ?_⟩
  exact q _ L (I.hok.fresh (Nat.le_refl _)) (fun p hp => List.mem_of_mem_take (g.sub p hp)) fun p hp => g.all p (by rw [List.take_length]; exact hp)
end
end RV
set_option maxHeartbeats 4000000
namespace RV
open PySem PySem.Spec PyProof.Rows L2
/-! ### heaps -/
theorem same_upd {H : Hp} {p : Addr} {o : HO} (h : H p = none) : Same H (upd H p o) := fun b x e => by
  rw [upd_ne (ne_of_none e h)]
  exact e
theorem sqT_same {K : PySem.W.Frag} {H H' : Hp} {a : Addr} {xs : List V} (e : Same H H') (h : SqT K H a xs) : SqT K H' a xs := SqT.ext h e
theorem sqL_same {K : PySem.W.Frag} {H H' : Hp} {a : Addr} {xs : List V} (e : Same H H') (h : SqL K H a xs) : SqL K H' a xs := SqL.ext h e
theorem tyT {K : PySem.W.Frag} {H : Hp} {a : Addr} {xs : List V} (h : SqT K H a xs) : TyX K H (.ref a) (.type "tuple") := by
  rcases h with (h | ⟨o, h⟩) | ⟨o, its, n, h1, h2, _⟩
  · exact .base (.tup h)
  · exact .fTuple h
  · exact .kTuple h1 h2
theorem tupNew {K : PySem.W.Frag} {H : Hp} {a : Addr} {xs : List V} (h : H a = some (.tup xs)) : SqT K H a xs := .inl (.inl h)
theorem lstNew {K : PySem.W.Frag} {H : Hp} {a : Addr} {xs : List V} (h : H a = some (.lst xs)) : SqL K H a xs := .inl (.inl h)
theorem walk_enT {K : PySem.W.Frag} {a : Addr} {xs : List V} : Walk (IteT K a) xs.length (fun H => SqT K H a xs) (YPair (fun i => some (.int (i : Nat))) (fun i => xs[i]?)) := by
  refine ⟨fun i _ hi q => ⟨xs, xs[i], q, by simp [hi]⟩, fun _ q => ⟨xs, q, Nat.le_refl _⟩, fun i H v H' _ q y => ?_⟩
  obtain ⟨T, x, h1, h2, h3, h4⟩ := y
  exact ⟨T, .int (i : Nat), x, h1, h2, h3, rfl, h4 xs q⟩
theorem walk_zipT {K : PySem.W.Frag} {a b : Addr} {xs ys : List V} {n : Nat} (hn : n = min xs.length ys.length) : Walk (RZ.ItzT K a b) n (fun H => SqT K H a xs ∧ SqT K H b ys) (YPair (fun i => xs[i]?) (fun i => ys[i]?)) := by
  subst hn
  refine ⟨fun i _ hi q => ⟨xs, ys, xs[i]'(by omega), ys[i]'(by omega), q.1, q.2, List.getElem?_eq_getElem _, List.getElem?_eq_getElem _⟩, fun _ q => ⟨xs, ys, q.1, q.2, by omega⟩, fun i H v H' _ q y => ?_⟩
  obtain ⟨T, x, z, h1, h2, h3, h4, h5⟩ := y
  exact ⟨T, x, z, h1, h2, h3, h4 xs q.1, h5 ys q.2⟩
/-- a tuple of tuples of ints -/
def Tups (K : PySem.W.Frag) (H : Hp) (a : Addr) (ps : List (List Int)) : Prop := ∃ ks : List (Addr × List Int), ks.map (·.2) = ps ∧ SqT K H a (ks.map fun p => V.ref p.1) ∧ ∀ p ∈ ks, SqT K H p.1 (p.2.map V.int)
/-- a list of tuples of ints -/
def Lots (K : PySem.W.Frag) (H : Hp) (a : Addr) (ps : List (List Int)) : Prop := ∃ ks : List (Addr × List Int), ks.map (·.2) = ps ∧ SqL K H a (ks.map fun p => V.ref p.1) ∧ ∀ p ∈ ks, SqT K H p.1 (p.2.map V.int)
theorem Tups.same {K : PySem.W.Frag} {H H' : Hp} {a : Addr} {ps : List (List Int)} (h : Tups K H a ps) (e : Same H H') : Tups K H' a ps :=
  let ⟨ks, h1, h2, h3⟩ := h; ⟨ks, h1, sqT_same e h2, fun p hp => sqT_same e (h3 p hp)⟩
theorem Lots.same {K : PySem.W.Frag} {H H' : Hp} {a : Addr} {ps : List (List Int)} (h : Lots K H a ps) (e : Same H H') : Lots K H' a ps :=
  let ⟨ks, h1, h2, h3⟩ := h; ⟨ks, h1, sqL_same e h2, fun p hp => sqT_same e (h3 p hp)⟩
theorem dpInts {K : PySem.W.Frag} {H : Hp} : ∀ ns : List Int, DpAll K H (ns.map V.int) (ns.map PyData.int)
  | [] => .nil
  | n :: r => .cons (.int n) (dpInts r)
def dI (ns : List Int) : PyData := .tuple (ns.map PyData.int)
def dTT (ps : List (List Int)) : PyData := .tuple (ps.map dI)
theorem dpT {K : PySem.W.Frag} {H : Hp} {a : Addr} {ns : List Int} (h : SqT K H a (ns.map V.int)) : Dp K H (.ref a) (dI ns) := .tup h (dpInts ns)
theorem dpTs {K : PySem.W.Frag} {H : Hp} : ∀ ks : List (Addr × List Int), (∀ p ∈ ks, SqT K H p.1 (p.2.map V.int)) → DpAll K H (ks.map fun p => V.ref p.1) ((ks.map (·.2)).map dI)
  | [], _ => .nil
  | p :: r, h => .cons (dpT (h p (List.mem_cons_self ..))) (dpTs r fun q hq => h q (List.mem_cons_of_mem _ hq))
theorem Tups.dp {K : PySem.W.Frag} {H : Hp} {a : Addr} {ps : List (List Int)} (h : Tups K H a ps) : Dp K H (.ref a) (dTT ps) := by
  obtain ⟨ks, rfl, h2, h3⟩ := h
  exact .tup h2 (dpTs ks h3)
theorem map_at {α β : Type} {f : α → β} {l : List α} {i : Nat} {y : β} (h : (l.map f)[i]? = some y) : ∃ x, l[i]? = some x ∧ y = f x := by
  rw [List.getElem?_map] at h
  cases e : l[i]? with
  | none => rw [e] at h; cases h
  | some x => rw [e] at h; exact ⟨x, rfl, (Option.some.inj h).symm⟩
theorem all_true : ∀ n : Nat, (List.replicate n true).all id = true
  | 0 => rfl
  | n + 1 => by rw [List.replicate_succ, List.all_cons, all_true n]; rfl
theorem rep_bl (n : Nat) : List.replicate n (V.bl true) = (List.replicate n true).map V.bl := by rw [List.map_replicate]
theorem rep_next {α : Type} (n : Nat) (x : α) : List.replicate n x ++ [x] = List.replicate (n + 1) x := by rw [List.replicate_succ', ]
theorem tt_yes {σ : L2.St} {H : Hp} {A B : Hp → Prop} (h : A H) : tYes σ H (fun b H3 => if b = true then A H3 else B H3) := iteT (A := A H) (B := B H) h
theorem un65 {k : Nat} {A : Around} (r : Room k A) : A.units + 65 < cLine := by have := r.un; omega
theorem few1 {n : Nat} (h : n ≤ 1000) : n < sizeLine := small1000 h
/-! ### data of ints, tuples of these -/
theorem lay_ints : ∀ ns : List Int, PyData.canLayAll0 (ns.map PyData.int) = true
  | [] => by simp [PyData.canLayAll0]
  | n :: r => by simp [PyData.canLayAll0, PyData.canLay0, lay_ints r]
theorem dep_ints : ∀ ns : List Int, PyData.depthAll (ns.map PyData.int) = 0
  | [] => by simp [PyData.depthAll]
  | n :: r => by simp [PyData.depthAll, PyData.depth, dep_ints r]
theorem dI_lay (ns : List Int) : (dI ns).canLay0 = true := by simp only [dI, PyData.canLay0]; exact lay_ints ns
theorem dI_dep (ns : List Int) : (dI ns).depth = 1 := by simp only [dI, PyData.depth, dep_ints]
theorem lay_dI : ∀ ps : List (List Int), PyData.canLayAll0 (ps.map dI) = true
  | [] => by simp [PyData.canLayAll0]
  | n :: r => by simp [PyData.canLayAll0, dI_lay, lay_dI r]
theorem dep_dI : ∀ ps : List (List Int), PyData.depthAll (ps.map dI) ≤ 1
  | [] => by simp [PyData.depthAll]
  | n :: r => by
    have h := dep_dI r
    simp only [List.map_cons, PyData.depthAll, dI_dep]
    omega
theorem shapedI (ns : List Int) : SeqAt.shaped (dI ns) = true := by
  show ((dI ns).canLay0 && decide ((dI ns).depth ≤ 64)) = true
  rw [dI_lay, dI_dep]; rfl
theorem shapedTT (ps : List (List Int)) : SeqAt.shaped (dTT ps) = true := by
  have h := dep_dI ps
  have e : (dTT ps).depth ≤ 64 := by simp only [dTT, PyData.depth]; omega
  show ((dTT ps).canLay0 && decide ((dTT ps).depth ≤ 64)) = true
  rw [decide_eq_true e, Bool.and_true]
  simp only [dTT, PyData.canLay0]; exact lay_dI ps
theorem eqv_ints : ∀ ns ms : List Int, PyData.eqvAll (ns.map PyData.int) (ms.map PyData.int) = decide (ns = ms)
  | [], [] => by simp [PyData.eqvAll]
  | [], m :: r => by simp [PyData.eqvAll]
  | n :: r, [] => by simp [PyData.eqvAll]
  | n :: r, m :: q => by
    have h := eqv_ints r q
    simp only [List.map_cons, PyData.eqvAll, PyData.eqv, h]
    by_cases e : n = m
    · subst e; by_cases e2 : r = q <;> simp [e2]
    · simp [e]
theorem eqvI (ns ms : List Int) : PyData.eqv (dI ns) (dI ms) = decide (ns = ms) := by simp only [dI, PyData.eqv, eqv_ints]
theorem eqv_dIs : ∀ ns ms : List (List Int), PyData.eqvAll (ns.map dI) (ms.map dI) = decide (ns = ms)
  | [], [] => by simp [PyData.eqvAll]
  | [], m :: r => by simp [PyData.eqvAll]
  | n :: r, [] => by simp [PyData.eqvAll]
  | n :: r, m :: q => by
    have h := eqv_dIs r q
    simp only [List.map_cons, PyData.eqvAll, eqvI, h]
    by_cases e : n = m
    · subst e; by_cases e2 : r = q <;> simp [e2]
    · simp [e]
theorem eqvTT (ns ms : List (List Int)) : PyData.eqv (dTT ns) (dTT ms) = decide (ns = ms) := by simp only [dTT, PyData.eqv, eqv_dIs]
theorem any_dI (p : List Int) : ∀ ps : List (List Int), (ps.map dI).any (fun y => PyData.eqv y (dI p)) = decide (p ∈ ps)
  | [] => rfl
  | q :: r => by
    rw [List.map_cons, List.any_cons, any_dI p r, eqvI]
    by_cases e : q = p
    · subst e; simp
    · have e' : ¬ p = q := fun z => e z.symm
      by_cases e2 : p ∈ r <;> simp [e, e', e2]
section
variable {X : Cx}
/-- t in ts, of tuples of ints -/
def rInTs (K : PySem.W.Frag) : R2 := fun x y H Q => ∃ (a b : Addr) (p : List Int) (ps : List (List Int)), x = .ref a ∧ y = .ref b ∧ SqT K H a (p.map V.int) ∧ Tups K H b ps ∧ Q (.bl (decide (p ∈ ps))) H
theorem op_inTs (hu : X.A.units + 65 < cLine) : OpR X (compareOp .In) (rInTs X.K) := by
  intro pins s σ H x y v u Q I rx ry h
  obtain ⟨a, b, p, ps, rfl, rfl, h1, h2, q⟩ := h
  obtain ⟨as, r1⟩ := Dp.reads I (dI p) (.ref a) v (dpT h1) rx
  obtain ⟨bs, r2⟩ := Dp.reads I (dTT ps) (.ref b) u h2.dp ry
  refine SeqAt.in_tuple_reads (xs := ps.map dI) r2 r1 (lay_dI ps) (dI_lay p) ?_ ⟨.bl _, H, I, rfl, ?_⟩
  · have := Nat.min_le_right (PyData.depthAll (ps.map dI)) (dI p).depth
    have e := dI_dep p
    omega
  · rw [any_dI]; exact q
/-- two tuples of ints, two tuples of tuples of ints compared -/
def rEqI1 (K : PySem.W.Frag) : R2 := fun x y H Q => ∃ (a b : Addr) (p q : List Int), x = .ref a ∧ y = .ref b ∧ SqT K H a (p.map V.int) ∧ SqT K H b (q.map V.int) ∧ Q (.bl (decide (p = q))) H
def rEqTs (K : PySem.W.Frag) : R2 := fun x y H Q => ∃ (a b : Addr) (p q : List (List Int)), x = .ref a ∧ y = .ref b ∧ Tups K H a p ∧ Tups K H b q ∧ Q (.bl (decide (p = q))) H
theorem op_eqI1 (hu : X.A.units + 64 < cLine) : OpR X (compareOp .Eq) (rEqI1 X.K) := by
  intro pins s σ H x y v u Q I rx ry h
  obtain ⟨a, b, p, ps, rfl, rfl, h1, h2, q⟩ := h
  refine op_eqD hu pins s σ H _ _ v u Q I rx ry ⟨dI p, dI ps, dpT h1, dpT h2, shapedI p, shapedI ps, ?_⟩
  rw [eqvI]; exact q
theorem op_eqTs (hu : X.A.units + 64 < cLine) : OpR X (compareOp .Eq) (rEqTs X.K) := by
  intro pins s σ H x y v u Q I rx ry h
  obtain ⟨a, b, p, ps, rfl, rfl, h1, h2, q⟩ := h
  refine op_eqD hu pins s σ H _ _ v u Q I rx ry ⟨dTT p, dTT ps, h1.dp, h2.dp, shapedTT p, shapedTT ps, ?_⟩
  rw [eqvTT]; exact q
end
section
variable {X : Cx} {K : PySem.W.Frag}
/-! the rules whose reading names the written part, for a comprehension's block -/
theorem ix_tupK (h : X.K = K) : IxR X (rIxT K) := h ▸ ix_tup
theorem pg_tupK {es : List Expr} {k : Nat} {t : TGs} {n : Nat} {pos : Pos} (h : X.K = K) (hc : X.calm = true) (hg : PGs X es t)
    (hn : (assignEach es X.env).length = n := by rfl) (hst : (assignEach es X.env).findIdx? (·.1) = none := by rfl) : PG X (.Tuple es k pos) (gTup K n t) := h ▸ pg_tup hc hg hn hst
theorem op_inTsK (h : X.K = K) (hu : X.A.units + 65 < cLine) : OpR X (compareOp .In) (rInTs K) := h ▸ op_inTs hu
theorem op_ltTK (h : X.K = K) (hu : X.A.units < cLine) : OpR X (compareOp .Lt) (rLtT K) := h ▸ op_ltT hu
def rLenS (K : PySem.W.Frag) : List V → Hp → VK → Prop := fun xs H Q => ∃ p ys, xs = [.ref p] ∧ (SqL K H p ys ∨ SqT K H p ys) ∧ Q (.int ys.length) H
theorem call_lenK (h : X.K = K) : CallR X (.builtin "len") (rLenS K) := h ▸ call_len_seq
end
end RV
set_option maxHeartbeats 4000000
namespace K20
open PySem PySem.Spec PyProof.Rows L2 RV
/-! ### the text by places -/
def topS (i : Nat) : Stmt := PySem.Challenge.pw_ringvouch_k20_spans_and_doublings.main.body.getD i (.Pass ⟨0, 0, 0, 0⟩)
abbrev sLed : Stmt := topS 1
abbrev sParts : Stmt := topS 2
abbrev sOff : Stmt := topS 4
abbrev sMeasure : Stmt := topS 5
abbrev sPeriod : Stmt := topS 6
abbrev sClasses : Stmt := topS 7
abbrev sOfSteps : Stmt := topS 9
abbrev sEndsBehind : Stmt := topS 10
abbrev sSpan : Stmt := topS 12
abbrev sLead : Stmt := topS 13
abbrev sDoubl : Stmt := topS 14
abbrev sWhole : Stmt := topS 19
abbrev sMark : Stmt := topS 20
abbrev sMarks : Stmt := topS 21
abbrev sMirrors : Stmt := topS 25
abbrev sSteps : Stmt := topS 26
abbrev sStep : Stmt := topS 27
abbrev sRising : Stmt := topS 28
abbrev sBehind : Stmt := topS 29
abbrev sHand : Stmt := topS 31
abbrev sDraw : Stmt := topS 32
abbrev sDMirrors : Stmt := topS 33
abbrev sForm : Stmt := topS 34
abbrev sLBehind : Stmt := topS 35
abbrev sLLeads : Stmt := topS 36
abbrev sLParts : Stmt := topS 37
abbrev sTables : Stmt := topS 38
abbrev sLSize : Stmt := topS 39
abbrev sDue : Stmt := topS 40
abbrev sByHand : Stmt := topS 41
abbrev sLaw : Stmt := topS 42
abbrev sInit : Stmt := inClass (topS 24) 0
abbrev sEq : Stmt := inClass (topS 24) 4
abbrev sMarksM : Stmt := inClass (topS 24) 1
abbrev sMirrorM : Stmt := inClass (topS 24) 2
abbrev sBehindM : Stmt := inClass (topS 24) 3
/-- a def of the text as the top has left it -/
structure DefAt (K : PySem.W.Frag) (mg : Str → Option Value) (x : Str) (st : Stmt) (ps : List Str) (f : Addr) (fd : FuncData) : Prop where
  fn : Fun K x x st f fd
  bi : Binds K fd ps []
  mg : mg x = some (.ref f)
/-- the names that are the interpreter's own -/
structure Bare (mg : Str → Option Value) : Prop where
  len : mg "len" = none
  isinstance : mg "isinstance" = none
  int : mg "int" = none
  bool : mg "bool" = none
  tuple : mg "tuple" = none
  all : mg "all" = none
  enumerate : mg "enumerate" = none
  zip : mg "zip" = none
  range : mg "range" = none
  list : mg "list" = none
  set : mg "set" = none
  sorted : mg "sorted" = none
  abs : mg "abs" = none
  max : mg "max" = none
  min : mg "min" = none
  repr : mg "repr" = none
  dict : mg "dict" = none
  any : mg "any" = none
  str : mg "str" = none
  reversed : mg "reversed" = none
section
variable {P : Program} {w : World} {K : PySem.W.Frag} {mg : Str → Option Value} {base : Heap}
/-! ### is_whole -/
theorem scWhole : FnScope ["thing"] ["thing"] (defScope sWhole) := ⟨rfl, rfl, rfl, by decide +kernel, rfl, by decide +kernel, by decide +kernel⟩
def spWhole : Sp := fun vs H Q _ => ∃ i : Int, vs = [.int i] ∧ Q (.bl true) H
theorem ok_whole {f : Addr} {fd : FuncData} (F : Fun K "is_whole" "is_whole" sWhole f fd) (B : Bare mg) : FnOk P w K mg base CX0 1 f fd ["thing"] spWhole := by
  refine F.ok scWhole (fun vs H Q E h => ?_) (fun cdv A outer s H vs Q E hr h => ?_)
  · obtain ⟨i, rfl, _⟩ := h
    rfl
  · obtain ⟨i, rfl, q⟩ := h
    refine ⟨_, pss_one (ps_ret (pe_and (pe_callB call_isi (by rfl) B.isinstance (by decide +kernel) (pa_cons (pv 0) (pa_cons (pe_bltn (v := .ty "int") (by rfl) B.int boot_int rfl) pa_nil)))
      (pe_one (pe_not (pe_callB call_isi (by rfl) B.isinstance (by decide +kernel) (pa_cons (pv 0) (pa_cons (pe_bltn (v := .ty "bool") (by rfl) B.bool (by decide +kernel) rfl) pa_nil))))))), ?_⟩
    refine ⟨.int i, rfl, .int i, .ty "int", _, _, true, rfl, .ty "int", .base (.int i), kit_ty (by decide +kernel), true, rfl, iteT ?_⟩
    exact ⟨.int i, rfl, .int i, .ty "bool", _, _, false, rfl, .ty "bool", .base (.int i), kit_ty (by decide +kernel), false, rfl, q⟩
/-! ### is_below -/
theorem scMark : FnScope ["thing", "many"] ["thing", "many"] (defScope sMark) := ⟨rfl, rfl, rfl, by decide +kernel, rfl, by decide +kernel, by decide +kernel⟩
def spMark : Sp := fun vs H Q _ => ∃ i n : Int, vs = [.int i, .int n] ∧ 0 ≤ i ∧ i < n ∧ Q (.bl true) H
theorem ok_mark {f fW : Addr} {fd fdW : FuncData} (F : Fun K "is_below" "is_below" sMark f fd) (D : DefAt K mg "is_whole" sWhole ["thing"] fW fdW) (B : Bare mg) : FnOk P w K mg base CX0 2 f fd ["thing", "many"] spMark := by
  have GW : FnOk P w K mg base CX0 1 fW fdW ["thing"] spWhole := ok_whole D.fn B
  refine F.ok scMark (fun vs H Q E h => ?_) (fun cdv A outer s H vs Q E hr h => ?_)
  · obtain ⟨i, n, rfl, _⟩ := h
    rfl
  · obtain ⟨i, n, rfl, h1, h2, q⟩ := h
    refine ⟨_, pss_one (ps_ret (pe_and (pe_call GW hr (by rfl) D.mg D.fn.kp D.bi .nil pass0 (pa_cons (pv 0) pa_nil)) (pe_one (pe_chain op_le op_lt pe_int (pv 0) (pv 1))))), ?_⟩
    refine ⟨.int i, rfl, i, rfl, true, rfl, iteT ?_⟩
    refine ⟨.int i, rfl, 0, i, rfl, rfl, _, rfl, ?_⟩
    rw [decide_eq_true h1]
    refine iteT ⟨.int n, rfl, i, n, rfl, rfl, ?_⟩
    show Q (.bl (decide (i < n))) H
    rw [decide_eq_true h2]
    exact q
/-! ### are_marks -/
theorem scMarks : FnScope ["thing", "many", "mark"] ["thing", "many"] (defScope sMarks) := ⟨rfl, rfl, rfl, by decide +kernel, rfl, by decide +kernel, by decide +kernel⟩
def spMarks (K : PySem.W.Frag) : Sp := fun vs H Q _ => ∃ (a : Addr) (ns : List Int) (n : Int), vs = [.ref a, .int n] ∧ SqT K H a (ns.map V.int) ∧ 0 < ns.length ∧ ns.length ≤ 1000 ∧ (∀ i ∈ ns, 0 ≤ i ∧ i < n) ∧ ∀ H', Same H H' → Q (.bl true) H'
theorem ok_marks {f fM fW : Addr} {fd fdM fdW : FuncData} (F : Fun K "are_marks" "are_marks" sMarks f fd) (DM : DefAt K mg "is_below" sMark ["thing", "many"] fM fdM) (DW : DefAt K mg "is_whole" sWhole ["thing"] fW fdW) (B : Bare mg) :
    FnOk P w K mg base CX0 3 f fd ["thing", "many"] (spMarks K) := by
  have GM : FnOk P w K mg base CX0 2 fM fdM ["thing", "many"] spMark := ok_mark DM.fn DW B
  refine F.ok scMarks (fun vs H Q E h => ?_) (fun cdv A outer s H vs Q E hr h => ?_)
  · obtain ⟨a, ns, n, rfl, _⟩ := h
    rfl
  · obtain ⟨a, ns, n, rfl, hT, h0, hm, hin, q⟩ := h
    refine ⟨_, pss_one (ps_ret (pe_and (pe_callB call_isi (by rfl) B.isinstance (by decide +kernel) (pa_cons (pv 0) (pa_cons (pe_bltn (v := .ty "tuple") (by rfl) B.tuple (by decide +kernel) rfl) pa_nil)))
      (pe_and (pe_cmpR op_gt (pe_callB call_len_seq (by rfl) B.len PySem.boot_len (pa_cons (pv 0) pa_nil)) pe_int (nomark _))
      (pe_one (pe_callB (cr_all rfl) (by rfl) B.all (by decide +kernel) (pa_cons
        (pe_lc (own := [("mark", 2)]) (g := gName 2) (tt := tYes) rfl scMarks.nd (pi_tup (pv 0)) (blkOk_by (N := ["thing", "many", "mark"]) (sc := defScope sMarks) (by decide +kernel)) (fun _ _ _ _ _ => pg_name (i := 2) scMarks.nd rfl (Or.inl rfl)) (fun _ _ _ _ _ => pts_nil)
          (fun _ _ _ _ _ => pe_call GM hr (by rfl) DM.mg DM.fn.kp DM.bi .nil pass0 (pa_cons (pv 2) (pa_cons (pv 1) pa_nil)))) pa_nil)))))), ?_⟩
    refine ⟨.ref a, rfl, .ref a, .ty "tuple", _, _, true, rfl, .ty "tuple", tyT hT, kit_ty (by decide +kernel), true, rfl, iteT ?_⟩
    refine ⟨.ref a, rfl, a, _, rfl, .inr hT, _, _, rfl, rfl, decide (((ns.map V.int).length : Int) > 0), rfl, ?_⟩
    rw [decide_eq_true (show ((ns.map V.int).length : Int) > 0 by rw [List.length_map]; omega)]
    refine iteT ⟨.ref a, rfl, a, rfl, ⟨_, hT⟩, fun D nD => ?_⟩
    refine lc_tup (K := K) (a := a) (xs := ns.map V.int) (fun i H' => Same H H' ∧ H' D = some (.lst (List.replicate i (V.bl true)))) ⟨same_upd nD, upd_same⟩ (fun i H' _ p => sqT_same p.1 hT) (fun i x H' hx p => ?_) fun H' p => ?_
    · obtain ⟨m, hm', rfl⟩ := map_at hx
      have hi : i < ns.length := (List.getElem?_eq_some_iff.mp hm').1
      have hr' := hin m (List.mem_of_getElem? hm')
      refine ⟨rfl, tt_yes ⟨.int m, rfl, .int n, rfl, m, n, rfl, hr'.1, hr'.2, _, p.2, ?_, ?_, ?_⟩⟩
      · rw [List.length_replicate]; exact few1 (by omega)
      · exact fun b o e => by rw [upd_ne (ne_of_none e nD)]; exact p.1 b o e
      · rw [upd_same, rep_next]
    · rw [List.length_map, rep_bl] at p
      refine ⟨D, _, rfl, lstNew p.2, ?_⟩
      rw [all_true]
      exact q H' p.1
end
end K20
set_option maxHeartbeats 4000000
/-! a law's head by a hook of my own: a part of the heap that only follows tables, functions and classes, the functions by He's facts, the rest as a list of looks. -/
namespace RV
open PySem PySem.Spec PyProof.Rows L2
/-- what a table, a function, a class names -/
def refsX (o : Obj) : List Addr := match o.data with
  | .dict es _ => es.toList.flatMap fun e => He.refV e.val
  | .func fd => He.refV fd.code
  | .cls cd => [cd.ns]
  | _ => []
def growX (g : Addr → Option Obj) (as : List Addr) : List Addr := as.flatMap fun a => match g a with
  | some o => refsX o
  | none => []
def asX (g : Addr → Option Obj) : List Addr :=
  let a1 := growX g [mainGlobals]
  let a2 := growX g a1
  let a3 := growX g a2
  let a4 := growX g a3
  mainGlobals :: (a1 ++ (a2 ++ (a3 ++ a4)))
abbrev AlX : Type := He.Al × Bool
def obsX (fa : List He.Fa) (fn : List He.FnD) (ex : List (PySem.W.Frag → Bool)) (K : PySem.W.Frag) : AlX := (He.obsE fa fn K, ex.all fun p => p K)
def valX (fn : List He.FnD) : AlX := (He.valE fn, true)
def obsXG (fa : List He.Fa) (fn : List He.FnD) (ex : List (PySem.W.Frag → Bool)) (g : Addr → Option Obj) : AlX := obsX fa fn ex (He.frG g (asX g))
structure SaysX (fa : List He.Fa) (fn : List He.FnD) (ex : List (PySem.W.Frag → Bool)) (K : PySem.W.Frag) : Prop where
  e : He.SaysE fa fn K
  x : (ex.all fun p => p K) = true
def hookX (fa : List He.Fa) (fn : List He.FnD) (ex : List (PySem.W.Frag → Bool)) : PySem.W.Hook where
  α := AlX
  obs := fun s => obsXG fa fn ex s.heap.get?
  val := fun _ => valX fn
  says := fun _ h => ∃ K : PySem.W.Frag, K.In h ∧ SaysX fa fn ex K
  of := fun _ _ e => ⟨_, He.frG_in, congrArg (fun z : AlX => z.1) e, congrArg (fun z : AlX => z.2) e⟩
  keeps := fun _ _ _ ⟨K, hK, c⟩ k => ⟨K, PySem.W.Frag.In.keeps hK k, c⟩
theorem obsXG_eq {fa : List He.Fa} {fn : List He.FnD} {ex : List (PySem.W.Frag → Bool)} {g : Addr → Option Obj} {s : Shared} (h : ∀ a, g a = s.heap.get? a) : obsXG fa fn ex g = (hookX fa fn ex).obs s := by
  have e : g = s.heap.get? := funext h
  rw [e] <;> rfl
section
variable {fa : List He.Fa} {fn : List He.FnD} {ex : List (PySem.W.Frag → Bool)} {K : PySem.W.Frag} {h : Heap} {mg : Str → Option Value}
theorem SaysX.look (c : SaysX fa fn ex K) (i : Nat) {p : PySem.W.Frag → Bool} (e : ex[i]? = some p) : p K = true := List.all_eq_true.mp c.x p (List.mem_of_getElem? e)
theorem SaysX.dec (c : SaysX fa fn ex K) (i : Nat) {P : PySem.W.Frag → Prop} [d : ∀ K, Decidable (P K)] (e : ex[i]? = some fun K => decide (P K)) : P K := of_decide_eq_true (c.look i e)
/-- the int that a name stands for -/
def intX (x : Str) (i : Int) (K : PySem.W.Frag) : Bool := match PySem.W.nsIn K mainGlobals x with
  | some (some (.int j _)) => decide (j = i)
  | _ => false
theorem intX_ok {x : Str} {i : Int} (c : intX x i K = true) : ∃ t, PySem.W.nsIn K mainGlobals x = some (some (.int i t)) := by
  unfold intX at c
  cases e : PySem.W.nsIn K mainGlobals x with
  | none =>
    rw [e] at c
    cases c
  | some o =>
    rw [e] at c
    cases o with
    | none => cases c
    | some v =>
      cases v with
      | int j t =>
        have ej : j = i := of_decide_eq_true c
        rw [ej]
        exact ⟨t, rfl⟩
      | _ => cases c
/-- a def of the top -/
theorem def_x (X : K.In h) (G : h.Ns mainGlobals mg) (c : SaysX fa fn ex K) {x : Str} {st : Stmt} {ps : List Str} (i : Nat) (hd : fn[i]? = some ⟨(x, none), x, x, defArgs st, defBody st, defScope st⟩) (hg : fa[2 * i]? = some (.glo x)) (hk : fa[2 * i + 1]? = some (.keep x))
    (hb : ∀ (kV doc pm : Value) (an : Option Addr) (cdv ct : Value) (us : List Value), us.length = ps.length → bindArgs (PySem.W.fnOf x x (defArgs st) (defBody st) (defScope st) .none kV doc pm an cdv ct) ⟨us, []⟩ = pure (ps.zip us)) :
    ∃ (f : Addr) (fd : FuncData), Fun K x x st f fd ∧ Binds K fd ps [] ∧ mg x = some (.ref f) := by
  obtain ⟨oc, od, osl, kV, doc, pm, an, cdv, ct, lk, cd⟩ := c.e.def_ i hd
  have F : Fun K x x st _ _ := fun_mk (st := st) lk cd (He.keep_ok (c.e.fact (2 * i + 1) hk))
  exact ⟨_, _, F, F.binds hb, He.glo_ok X G (c.e.fact (2 * i) hg)⟩
/-- the law -/
theorem law_x (X : K.In h) (G : h.Ns mainGlobals mg) (c : SaysX fa fn ex K) {x q : Str} {st : Stmt} (i : Nat) (hd : fn[i]? = some ⟨(x, none), x, x, defArgs st, defBody st, defScope st⟩) (hg : fa[2 * i]? = some (.glo x)) (hk : fa[2 * i + 1]? = some (.keep x))
    (hb : ∀ (kV doc pm : Value) (an : Option Addr) (cdv ct : Value) (s : Shared) (v : Value), BindsTo s (PySem.W.fnOf x x (defArgs st) (defBody st) (defScope st) .none kV doc pm an cdv ct) ⟨[v], []⟩ [(q, v)]) :
    ∃ (f : Addr) (fd : FuncData), Fun K x x st f fd ∧ (∀ (s : Shared) (v : Value), BindsTo s fd ⟨[v], []⟩ [(q, v)]) ∧ mg x = some (.ref f) := by
  obtain ⟨oc, od, osl, kV, doc, pm, an, cdv, ct, lk, cd⟩ := c.e.def_ i hd
  have F : Fun K x x st _ _ := fun_mk (st := st) lk cd (He.keep_ok (c.e.fact (2 * i + 1) hk))
  exact ⟨_, _, F, hb kV doc pm an cdv ct, He.glo_ok X G (c.e.fact (2 * i) hg)⟩
/-- a method -/
theorem meth_x (c : SaysX fa fn ex K) {C : Addr} {x m q : Str} {st : Stmt} {ps : List Str} (hC : He.ga K x = C) (i j : Nat) (hd : fn[i]? = some ⟨(x, some m), m, q, defArgs st, defBody st, defScope st⟩) (hm : fa[j]? = some (.meth x m))
    (hb : ∀ (kV doc pm : Value) (an : Option Addr) (cdv ct : Value) (us : List Value), us.length = ps.length → bindArgs (PySem.W.fnOf m q (defArgs st) (defBody st) (defScope st) .none kV doc pm an cdv ct) ⟨us, []⟩ = pure (ps.zip us)) :
    ∃ (f : Addr) (fd : FuncData), Fun K m q st f fd ∧ Binds K fd ps [] ∧ PySem.W.findIn K (.ref C) m = some (some (.ref f)) ∧ PySem.W.isFn K (.ref f) = true ∧ PySem.W.keepIn K (.ref f) = true := by
  subst hC
  obtain ⟨oc, od, osl, kV, doc, pm, an, cdv, ct, lk, cd⟩ := c.e.def_ i hd
  have hf := c.e.fact j hm
  obtain ⟨h1, h2⟩ := He.ba hf
  obtain ⟨h3, h4⟩ := He.ba h2
  have F : Fun K m q st _ _ := fun_mk (st := st) lk cd h4
  exact ⟨_, _, F, F.binds hb, He.eqO_ok h1, h3, h4⟩
end
theorem walk_GE {l : PySem.W.OpenLaw} {n k : Nat} {q : Program} {loose : List Str} {XP : (Str → Option Value) → Heap → Prop} {YP : World → Heap → Prop} {d : DefRec} {x : Str}
    (hn : l.most = some n) (hn2 : n ≤ sizeLine) (hdf : d.params.defaults = []) (hr : Room k callerA)
    (F : ∀ (w : World) (mg : Str → Option Value) (fa : Addr) (h : Heap), YP w h → h.Ns mainGlobals mg → mg d.name = some (.ref fa) →
      ∃ (K : PySem.W.Frag) (fd : FuncData) (sp : Sp), K.In h ∧ (∀ (s : Shared) (u : Value), BindsTo s fd ⟨[u], []⟩ [(x, u)]) ∧
        (∀ (H : Hp) (a : Addr) (ns : List Int), ns.length ≤ n → Only H → SqL K H a (ns.map V.int) → sp [.ref a] H (fun v _ => v = .bl true) fun _ _ _ => False) ∧
        ∀ base : Heap, K.In base → base.Ns mainGlobals mg → FnG l.prog w K mg base CX0 k fa fd [x] sp) :
    PySem.W.WalkO q loose XP YP l.row.toRowW d [] (fun f vs => PySem.call f vs) := by
  refine Att.attach_call hn hdf fun w s₀ st mg mb fa o pm cd doc a vs ns G Y ho hd hcd hmg hobj hints hlen hg => ?_
  obtain ⟨K, fd, sp, KX, hb, hsp, hF⟩ := F w mg fa _ Y G.T.g hmg
  exact law_callG KX G.T.g G.T.b G.T.builtins G.T.nolimit hg hobj hints (Nat.le_trans hlen hn2) hr hF hb fun H hO hS => hsp H a ns hlen hO hS
end RV
set_option maxHeartbeats 4000000
namespace K20
open PySem PySem.Spec PyProof.Rows L2 RV
def hdFn1 : List He.FnD := [⟨("is_whole", none), "is_whole", "is_whole", defArgs sWhole, defBody sWhole, defScope sWhole⟩, ⟨("is_below", none), "is_below", "is_below", defArgs sMark, defBody sMark, defScope sMark⟩, ⟨("are_marks", none), "are_marks", "are_marks", defArgs sMarks, defBody sMarks, defScope sMarks⟩, ⟨("are_mirrors", none), "are_mirrors", "are_mirrors", defArgs sMirrors, defBody sMirrors, defScope sMirrors⟩, ⟨("are_steps", none), "are_steps", "are_steps", defArgs sSteps, defBody sSteps, defScope sSteps⟩, ⟨("is_step", none), "is_step", "is_step", defArgs sStep, defBody sStep, defScope sStep⟩, ⟨("is_rising", none), "is_rising", "is_rising", defArgs sRising, defBody sRising, defScope sRising⟩, ⟨("marks_behind", none), "marks_behind", "marks_behind", defArgs sBehind, defBody sBehind, defScope sBehind⟩, ⟨("led_to", none), "led_to", "led_to", defArgs sLed, defBody sLed, defScope sLed⟩, ⟨("parts", none), "parts", "parts", defArgs sParts, defBody sParts, defScope sParts⟩, ⟨("steps_off", none), "steps_off", "steps_off", defArgs sOff, defBody sOff, defScope sOff⟩, ⟨("common_measure", none), "common_measure", "common_measure", defArgs sMeasure, defBody sMeasure, defScope sMeasure⟩, ⟨("period", none), "period", "period", defArgs sPeriod, defBody sPeriod, defScope sPeriod⟩, ⟨("classes", none), "classes", "classes", defArgs sClasses, defBody sClasses, defScope sClasses⟩, ⟨("ends_of_steps", none), "ends_of_steps", "ends_of_steps", defArgs sOfSteps, defBody sOfSteps, defScope sOfSteps⟩, ⟨("ends_behind", none), "ends_behind", "ends_behind", defArgs sEndsBehind, defBody sEndsBehind, defScope sEndsBehind⟩, ⟨("span", none), "span", "span", defArgs sSpan, defBody sSpan, defScope sSpan⟩, ⟨("lead_everywhere", none), "lead_everywhere", "lead_everywhere", defArgs sLead, defBody sLead, defScope sLead⟩, ⟨("doublings", none), "doublings", "doublings", defArgs sDoubl, defBody sDoubl, defScope sDoubl⟩, ⟨("_law_box", none), "_law_box", "_law_box", defArgs sHand, defBody sHand, defScope sHand⟩, ⟨("_law_take", none), "_law_take", "_law_take", defArgs sDraw, defBody sDraw, defScope sDraw⟩, ⟨("_law_mirrors", none), "_law_mirrors", "_law_mirrors", defArgs sDMirrors, defBody sDMirrors, defScope sDMirrors⟩, ⟨("_law_form", none), "_law_form", "_law_form", defArgs sForm, defBody sForm, defScope sForm⟩, ⟨("_law_behind", none), "_law_behind", "_law_behind", defArgs sLBehind, defBody sLBehind, defScope sLBehind⟩, ⟨("_law_leads", none), "_law_leads", "_law_leads", defArgs sLLeads, defBody sLLeads, defScope sLLeads⟩, ⟨("_law_parts", none), "_law_parts", "_law_parts", defArgs sLParts, defBody sLParts, defScope sLParts⟩, ⟨("_law_tables", none), "_law_tables", "_law_tables", defArgs sTables, defBody sTables, defScope sTables⟩, ⟨("_law_size", none), "_law_size", "_law_size", defArgs sLSize, defBody sLSize, defScope sLSize⟩, ⟨("_law_due", none), "_law_due", "_law_due", defArgs sDue, defBody sDue, defScope sDue⟩, ⟨("_law_by_hand", none), "_law_by_hand", "_law_by_hand", defArgs sByHand, defBody sByHand, defScope sByHand⟩]
def hdFn2 : List He.FnD := [⟨("law", none), "law", "law", defArgs sLaw, defBody sLaw, defScope sLaw⟩, ⟨("Rule", some "__init__"), "__init__", "Rule.__init__", defArgs sInit, defBody sInit, defScope sInit⟩, ⟨("Rule", some "marks"), "marks", "Rule.marks", defArgs sMarksM, defBody sMarksM, defScope sMarksM⟩, ⟨("Rule", some "mirror"), "mirror", "Rule.mirror", defArgs sMirrorM, defBody sMirrorM, defScope sMirrorM⟩, ⟨("Rule", some "behind"), "behind", "Rule.behind", defArgs sBehindM, defBody sBehindM, defScope sBehindM⟩]
def hdFn : List He.FnD := hdFn1 ++ (hdFn2)
def hdFa1 : List He.Fa := [.glo "is_whole", .keep "is_whole", .glo "is_below", .keep "is_below", .glo "are_marks", .keep "are_marks", .glo "are_mirrors", .keep "are_mirrors", .glo "are_steps", .keep "are_steps", .glo "is_step", .keep "is_step", .glo "is_rising", .keep "is_rising", .glo "marks_behind", .keep "marks_behind", .glo "led_to", .keep "led_to", .glo "parts", .keep "parts", .glo "steps_off", .keep "steps_off", .glo "common_measure", .keep "common_measure", .glo "period", .keep "period", .glo "classes", .keep "classes", .glo "ends_of_steps", .keep "ends_of_steps"]
def hdFa2 : List He.Fa := [.glo "ends_behind", .keep "ends_behind", .glo "span", .keep "span", .glo "lead_everywhere", .keep "lead_everywhere", .glo "doublings", .keep "doublings", .glo "_law_box", .keep "_law_box", .glo "_law_take", .keep "_law_take", .glo "_law_mirrors", .keep "_law_mirrors", .glo "_law_form", .keep "_law_form", .glo "_law_behind", .keep "_law_behind", .glo "_law_leads", .keep "_law_leads", .glo "_law_parts", .keep "_law_parts", .glo "_law_tables", .keep "_law_tables", .glo "_law_size", .keep "_law_size", .glo "_law_due", .keep "_law_due", .glo "_law_by_hand", .keep "_law_by_hand"]
def hdFa3 : List He.Fa := [.glo "law", .keep "law", .meth "Rule" "__init__", .meth "Rule" "marks", .meth "Rule" "mirror", .meth "Rule" "behind"]
def hdFa : List He.Fa := hdFa1 ++ (hdFa2 ++ (hdFa3))
def hdEx1 : List (PySem.W.Frag → Bool) := [fun K => decide (PySem.W.plainGet K (He.ga K "Rule") Str.empty = true), fun K => decide (PySem.W.hasDictIn K (He.ga K "Rule") = true), fun K => decide (PySem.W.plainOver K (He.ga K "Rule") = true), fun K => decide (PySem.W.findIn K (.ref (He.ga K "Rule")) "__setattr__" = some (some (.builtin "object.__setattr__"))), fun K => decide (PySem.W.makesIn K (He.ga K "Rule") = true), fun K => decide (PySem.W.keepIn K (.ref (He.ga K "Rule")) = true), fun K => decide (PySem.W.findIn K (.ref (He.ga K "Rule")) "mirrors" = some none), fun K => decide (PySem.W.findIn K (.ref (He.ga K "Rule")) "steps" = some none), fun K => decide (PySem.W.findIn K (.ref (He.ga K "Rule")) "followers" = some none), fun K => decide (PySem.W.findIn K (.ref (He.ga K "Rule")) "__class__" = some (some (.builtin "object.__class__"))), fun K => decide (PySem.W.specialIn K (.builtin "object.__class__") "__get__" = some (some (.builtin "getset_descriptor.__get__"))), fun K => decide (PySem.W.takesIn K (.builtin "object.__class__") = some true), fun K => decide (PySem.W.mroIn K (He.ga K "Rule") (.type "object") = some true), RV.intX "MOST_MARKS" (8), fun K => decide (PySem.W.nsIn K mainGlobals "len" = some none), fun K => decide (PySem.W.nsIn K mainGlobals "isinstance" = some none), fun K => decide (PySem.W.nsIn K mainGlobals "int" = some none), fun K => decide (PySem.W.nsIn K mainGlobals "bool" = some none), fun K => decide (PySem.W.nsIn K mainGlobals "tuple" = some none), fun K => decide (PySem.W.nsIn K mainGlobals "all" = some none), fun K => decide (PySem.W.nsIn K mainGlobals "enumerate" = some none), fun K => decide (PySem.W.nsIn K mainGlobals "zip" = some none), fun K => decide (PySem.W.nsIn K mainGlobals "range" = some none), fun K => decide (PySem.W.nsIn K mainGlobals "list" = some none), fun K => decide (PySem.W.nsIn K mainGlobals "set" = some none), fun K => decide (PySem.W.nsIn K mainGlobals "sorted" = some none), fun K => decide (PySem.W.nsIn K mainGlobals "abs" = some none), fun K => decide (PySem.W.nsIn K mainGlobals "max" = some none), fun K => decide (PySem.W.nsIn K mainGlobals "min" = some none), fun K => decide (PySem.W.nsIn K mainGlobals "repr" = some none)]
def hdEx2 : List (PySem.W.Frag → Bool) := [fun K => decide (PySem.W.nsIn K mainGlobals "dict" = some none), fun K => decide (PySem.W.nsIn K mainGlobals "any" = some none), fun K => decide (PySem.W.nsIn K mainGlobals "str" = some none), fun K => decide (PySem.W.nsIn K mainGlobals "reversed" = some none), fun K => decide (PySem.W.nsIn K mainGlobals "Rule" = some (some (.ref (He.ga K "Rule"))))]
def hdEx : List (PySem.W.Frag → Bool) := hdEx1 ++ (hdEx2)
def hdLoose1 : List Str := ["led_to", "parts", "steps_off", "common_measure", "period", "classes", "ends_of_steps", "ends_behind", "span", "lead_everywhere", "doublings", "RingError", "ValueError", "NoRule", "is_whole", "is_below", "are_marks", "MOST_MARKS", "Rule", "are_mirrors", "are_steps", "is_step", "is_rising", "marks_behind", "_law_box", "_law_take", "_law_mirrors", "_law_form", "_law_behind", "_law_leads"]
def hdLoose2 : List Str := ["_law_parts", "_law_tables", "_law_size", "_law_due", "_law_by_hand"]
def hdLoose : List Str := hdLoose1 ++ (hdLoose2)
abbrev hdR : PySem.W.OpenRow := PySem.W.OpenLaw.row PySem.Challenge.rw_ringvouch_k20_spans_and_doublings
abbrev hdV : Program := PySem.W.view hdR.prog [42]
abbrev hdK : PySem.W.Hook := RV.hookX hdFa hdFn hdEx
def hdOb (s : PySem.W.SharedT) : RV.AlX := RV.obsXG hdFa hdFn hdEx (HandSHeadRun.getT s)
theorem hdOb_eq (s : PySem.W.SharedT) : hdOb s = hdK.obs s.abs := RV.obsXG_eq (HandSHeadRun.getT_eq s)
set_option maxHeartbeats 0 in
theorem hdRun (w : World) : HandSHeadRun.RunEq hdR hdV hdK hdOb 20000 hdLoose w := by
  intro os
  kernel_rfl
end K20
section
open PySem PySem.W PySem.Calls PyProof.Rows
set_option maxRecDepth 100000 in
set_option maxHeartbeats 0 in
theorem K20.hdHolds (hc : PySem.W.WalkO K20.hdV K20.hdLoose (XL K20.hdV []) K20.hdK.says K20.hdR.toRowW (HandSHeadRun.topDef K20.hdR.prog 42) [] fun f vs => PySem.call f vs) : PySem.Challenge.rw_ringvouch_k20_spans_and_doublings.Holds := by
  w_on; o_law
  refine HandSHeadRun.head_any (r := K20.hdR) (q := K20.hdV) (H := K20.hdK) (ob := K20.hdOb) (M := 20000) (loose := K20.hdLoose) (d := HandSHeadRun.topDef K20.hdR.prog 42) (kwd := []) K20.hdOb_eq
    (by kernel_rfl) (fun s => by kernel_rfl) K20.hdRun (by kernel_rfl) (by kernel_rfl) (by kernel_rfl) (by rfl) (by first | assumption | decide +kernel) (by decide +kernel) ⟨rfl, rfl, rfl, rfl, rfl, by decide +kernel⟩ ?hw hc
  case hw => w_witness2
theorem K20.hdName : (HandSHeadRun.topDef K20.hdR.prog 42).name = ("law" : PySem.Str) := by kernel_rfl
end
namespace RV
open PySem L2
/-! ### lists that rise -/
theorem sorted_eq {α : Type} {f : α → Int} : ∀ {l l' : List α}, l.Pairwise (fun a b => f a < f b) → l'.Pairwise (fun a b => f a < f b) → (∀ x, x ∈ l ↔ x ∈ l') → l = l'
  | [], [], _, _, _ => rfl
  | [], y :: r, _, _, h => nomatch (h y).mpr (List.mem_cons_self ..)
  | x :: r, [], _, _, h => nomatch (h x).mp (List.mem_cons_self ..)
  | x :: l, y :: l', h1, h2, h => by
    rw [List.pairwise_cons] at h1 h2
    have exy : x = y := by
      rcases List.mem_cons.mp ((h x).mp (List.mem_cons_self ..)) with e | e
      · exact e
      · rcases List.mem_cons.mp ((h y).mpr (List.mem_cons_self ..)) with e' | e'
        · exact e'.symm
        · have := h2.1 x e
          have := h1.1 y e'
          omega
    subst exy
    rw [sorted_eq h1.2 h2.2 fun z => ⟨fun hz => ?_, fun hz => ?_⟩]
    · rcases List.mem_cons.mp ((h z).mp (List.mem_cons_of_mem _ hz)) with e | e
      · have := h1.1 z hz
        rw [e] at this; omega
      · exact e
    · rcases List.mem_cons.mp ((h z).mpr (List.mem_cons_of_mem _ hz)) with e | e
      · have := h2.1 z hz
        rw [e] at this; omega
      · exact e
theorem nodup_le {α : Type} [DecidableEq α] : ∀ {l us : List α}, l.Nodup → (∀ x ∈ l, x ∈ us) → l.length ≤ us.length
  | [], _, _, _ => Nat.zero_le _
  | x :: l, us, h, hs => by
    rw [List.nodup_cons] at h
    have hx := hs x (List.mem_cons_self ..)
    have ih : l.length ≤ (us.erase x).length := nodup_le h.2 fun z hz => by
      refine (List.mem_erase_of_ne fun e => ?_).mpr (hs z (List.mem_cons_of_mem _ hz))
      subst e; exact h.1 hz
    have hl := List.length_erase_of_mem hx
    have hp : 0 < us.length := List.length_pos_of_mem hx
    rw [List.length_cons]; omega
/-! ### pairs -/
/-- a pair of marks below b -/
def Pr (b : Int) (p : List Int) : Prop := ∃ x y : Int, p = [x, y] ∧ (0 ≤ x ∧ x < b) ∧ (0 ≤ y ∧ y < b)
abbrev cd (p : List Int) : Int := TS.code 64 p
theorem cd_pair (x y : Int) : cd [x, y] = x * 64 + y := code_pair x y
theorem lt_lex {p q : List Int} (hp : Pr 64 p) (hq : Pr 64 q) (h : cd p < cd q) : HT.lexLt p q = true := by
  obtain ⟨x, y, rfl, hx, hy⟩ := hp
  obtain ⟨x', y', rfl, hx', hy'⟩ := hq
  rw [cd_pair, cd_pair] at h
  rw [HT.lexLt_cons, HT.lexLt_cons, HT.lexLt_nil_nil]
  by_cases e : x = x'
  · rw [if_pos e]
    have : y < y' := by omega
    rw [if_neg (by omega)]; exact decide_eq_true this
  · rw [if_neg e]; exact decide_eq_true (by omega)
theorem lt_of {p q : List Int} (hp : Pr 64 p) (hq : Pr 64 q) (h : cd p ≤ cd q) (ne : p ≠ q) : cd p < cd q := by
  obtain ⟨x, y, rfl, hx, hy⟩ := hp
  obtain ⟨x', y', rfl, hx', hy'⟩ := hq
  have z := pair_lt h ne hx hy hx' hy'
  rw [cd_pair, cd_pair]
  omega
theorem Pr.mono {b c : Int} {p : List Int} (h : Pr b p) (hbc : b ≤ c) : Pr c p := by
  obtain ⟨x, y, e, hx, hy⟩ := h
  exact ⟨x, y, e, by omega, by omega⟩
theorem sorted_lt {l : List (List Int)} (hb : ∀ p ∈ l, Pr 64 p) (nd : l.Nodup) (h : l.Pairwise fun p q => cd p ≤ cd q) : l.Pairwise fun p q => cd p < cd q := by
  have h2 := List.Pairwise.and h nd
  exact List.Pairwise.imp_of_mem (fun {p q} hp hq z => lt_of (hb p hp) (hb q hq) z.1 z.2) h2
theorem adj_rise {l : List (List Int)} (hb : ∀ p ∈ l, Pr 64 p) (h : l.Pairwise fun p q => cd p < cd q) (i : Nat) (p q : List Int) (h1 : l[i]? = some p) (h2 : l[i + 1]? = some q) : HT.lexLt p q = true := by
  obtain ⟨l1, e1⟩ := List.getElem?_eq_some_iff.mp h1
  obtain ⟨l2, e2⟩ := List.getElem?_eq_some_iff.mp h2
  have := List.pairwise_iff_getElem.mp h i (i + 1) l1 l2 (Nat.lt_succ_self _)
  rw [e1, e2] at this
  exact lt_lex (hb p (List.mem_of_getElem? h1)) (hb q (List.mem_of_getElem? h2)) this
/-! ### all pairs, row by row -/
def rowOf (d : Int) (Pd : Int → Int → Bool) (i n : Nat) : List (List Int) := ((List.range n).filter fun (j : Nat) => Pd (i : Int) (j : Int)).map fun (j : Nat) => [d + (i : Int), d + (j : Int)]
def gridOf (d : Int) (Pd : Int → Int → Bool) (m n : Nat) : List (List Int) := (List.range n).flatMap fun (i : Nat) => rowOf d Pd i m
theorem row_next (d : Int) (Pd : Int → Int → Bool) (i n : Nat) : rowOf d Pd i (n + 1) = rowOf d Pd i n ++ (if Pd (i : Int) (n : Int) = true then [[d + (i : Int), d + (n : Int)]] else []) := by
  unfold rowOf
  rw [List.range_succ, List.filter_append, List.map_append]
  by_cases h : Pd (i : Int) (n : Int) = true <;> simp [h]
theorem grid_next (d : Int) (Pd : Int → Int → Bool) (m n : Nat) : gridOf d Pd m (n + 1) = gridOf d Pd m n ++ rowOf d Pd n m := by
  unfold gridOf
  rw [List.range_succ, List.flatMap_append]; simp
theorem row_len (d : Int) (Pd : Int → Int → Bool) (i n : Nat) : (rowOf d Pd i n).length ≤ n := by
  unfold rowOf
  rw [List.length_map]
  exact Nat.le_trans (List.length_filter_le _ _) (by rw [List.length_range]; exact Nat.le_refl _)
theorem grid_len (d : Int) (Pd : Int → Int → Bool) (m : Nat) : ∀ n, (gridOf d Pd m n).length ≤ n * m
  | 0 => by simp [gridOf]
  | n + 1 => by
    have h := grid_len d Pd m n
    have h2 := row_len d Pd n m
    rw [grid_next, List.length_append, Nat.succ_mul]; omega
theorem mem_row {d : Int} {Pd : Int → Int → Bool} {i n : Nat} {p : List Int} : p ∈ rowOf d Pd i n ↔ ∃ j : Nat, j < n ∧ Pd (i : Int) (j : Int) = true ∧ p = [d + (i : Int), d + (j : Int)] := by
  unfold rowOf
  rw [List.mem_map]
  constructor
  · rintro ⟨j, hj, e⟩
    rw [List.mem_filter, List.mem_range] at hj
    exact ⟨j, hj.1, hj.2, e.symm⟩
  · rintro ⟨j, h1, h2, e⟩
    exact ⟨j, List.mem_filter.mpr ⟨List.mem_range.mpr h1, h2⟩, e.symm⟩
theorem mem_grid {d : Int} {Pd : Int → Int → Bool} {m n : Nat} {p : List Int} : p ∈ gridOf d Pd m n ↔ ∃ i j : Nat, i < n ∧ j < m ∧ Pd (i : Int) (j : Int) = true ∧ p = [d + (i : Int), d + (j : Int)] := by
  unfold gridOf
  rw [List.mem_flatMap]
  constructor
  · rintro ⟨i, hi, hp⟩
    obtain ⟨j, h1, h2, h3⟩ := mem_row.mp hp
    exact ⟨i, j, List.mem_range.mp hi, h1, h2, h3⟩
  · rintro ⟨i, j, h1, h2, h3, h4⟩
    exact ⟨i, List.mem_range.mpr h1, mem_row.mpr ⟨j, h2, h3, h4⟩⟩
theorem grid_rise {d : Int} {Pd : Int → Int → Bool} {m n : Nat} (hd : 0 ≤ d) (hm : d + (m : Int) ≤ 64) : (gridOf d Pd m n).Pairwise fun p q => cd p < cd q := by
  unfold gridOf
  rw [List.pairwise_flatMap]
  refine ⟨fun i _ => ?_, ?_⟩
  · unfold rowOf
    rw [List.pairwise_map]
    refine List.Pairwise.imp (fun {a b} (h : a < b) => ?_) (List.Pairwise.filter _ List.pairwise_lt_range)
    rw [cd_pair, cd_pair]; omega
  · refine List.Pairwise.imp (fun {a b} (h : a < b) x hx y hy => ?_) List.pairwise_lt_range
    obtain ⟨j, h1, _, rfl⟩ := mem_row.mp hx
    obtain ⟨k, h2, _, rfl⟩ := mem_row.mp hy
    rw [cd_pair, cd_pair]; omega
theorem grid_pr {d : Int} {Pd : Int → Int → Bool} {m n : Nat} {b : Int} (hd : 0 ≤ d) (hm : d + (m : Int) ≤ b) (hn : d + (n : Int) ≤ b) : ∀ p ∈ gridOf d Pd m n, Pr b p := by
  intro p hp
  obtain ⟨i, j, h1, h2, _, rfl⟩ := mem_grid.mp hp
  exact ⟨_, _, rfl, by omega, by omega⟩
end RV
set_option maxHeartbeats 4000000
namespace K20
open PySem PySem.Spec PyProof.Rows L2 RV
/-- mirrors of one to eight marks -/
structure Mir (ns : List Int) : Prop where
  pos : 0 < ns.length
  few : ns.length ≤ 8
  inn : ∀ i ∈ ns, 0 ≤ i ∧ i < (ns.length : Int)
  back : ∀ (k : Nat) (m : Int), ns[k]? = some m → ns[m.toNat]? = some (k : Int)
/-- a rising tuple of steps, with their mirror steps -/
structure Stp (ns : List Int) (ps : List (List Int)) : Prop where
  few : ps.length ≤ 64
  pair : ∀ p ∈ ps, ∃ x y : Int, p = [x, y] ∧ (0 ≤ x ∧ x < (ns.length : Int)) ∧ (0 ≤ y ∧ y < (ns.length : Int))
  rise : ∀ (i : Nat) (p q : List Int), ps[i]? = some p → ps[i + 1]? = some q → HT.lexLt p q = true
  mirr : ∀ x y mx my : Int, [x, y] ∈ ps → ns[x.toNat]? = some mx → ns[y.toNat]? = some my → [my, mx] ∈ ps
  nd : ps.Nodup
section
variable {P : Program} {w : World} {K : PySem.W.Frag} {mg : Str → Option Value} {base : Heap}
/-! ### are_mirrors -/
theorem scMirrors : FnScope ["thing", "mark", "mirror"] ["thing"] (defScope sMirrors) := ⟨rfl, rfl, rfl, by decide +kernel, rfl, by decide +kernel, by decide +kernel⟩
def spMirrors (K : PySem.W.Frag) : Sp := fun vs H Q _ => ∃ (a : Addr) (ns : List Int), vs = [.ref a] ∧ SqT K H a (ns.map V.int) ∧ Mir ns ∧ ∀ H', Same H H' → Q (.bl true) H'
theorem ok_mirrors {f fA : Addr} {fd fdA : FuncData} {t : Tok} (F : Fun K "are_mirrors" "are_mirrors" sMirrors f fd) (DA : DefAt K mg "are_marks" sMarks ["thing", "many"] fA fdA) (GA : FnOk P w K mg base CX0 3 fA fdA ["thing", "many"] (spMarks K)) (B : Bare mg)
    (mM : mg "MOST_MARKS" = some (.int 8 t)) : FnOk P w K mg base CX0 4 f fd ["thing"] (spMirrors K) := by
  refine F.ok scMirrors (fun vs H Q E h => ?_) (fun cdv A outer s H vs Q E hr h => ?_)
  · obtain ⟨a, ns, rfl, _⟩ := h
    rfl
  · obtain ⟨a, ns, rfl, hT, hM, q⟩ := h
    refine ⟨_, pss_cons (ps_if (PW.pt (pw_or (pt_not (pt_val (pe_callB call_isi (by rfl) B.isinstance (by decide +kernel) (pa_cons (pv 0) (pa_cons (pe_bltn (v := .ty "tuple") (by rfl) B.tuple (by decide +kernel) rfl) pa_nil)))))
        (pw_or1 (pt_cmpR op_gt (pe_callB call_len_seq (by rfl) B.len PySem.boot_len (pa_cons (pv 0) pa_nil)) (pe_glob (v := .int 8) rfl mM ⟨_, rfl⟩) (nomark _))))) (pss_one (ps_ret pe_bl)) pss_nil)
      (pss_cons (ps_if (pt_not (pt_val (pe_call GA hr (by rfl) DA.mg DA.fn.kp DA.bi .nil pass0 (pa_cons (pv 0) (pa_cons (pe_callB call_len_seq (by rfl) B.len PySem.boot_len (pa_cons (pv 0) pa_nil)) pa_nil))))) (pss_one (ps_ret pe_bl)) pss_nil)
      (pss_one (ps_ret (pe_callB (cr_all rfl) (by rfl) B.all (by decide +kernel) (pa_cons
        (pe_lc (own := [("mark", 1), ("mirror", 2)]) (g := gTup K 2 (gCons (gName 1) (gCons (gName 2) gNil))) (tt := tYes) rfl scMirrors.nd (pi_enT (by rfl) B.enumerate (pa_cons (pv 0) pa_nil)) (blkOk_by (N := ["thing", "mark", "mirror"]) (sc := defScope sMirrors) (by decide +kernel))
          (fun _ _ _ _ _ => pg_tupK rfl rfl (pgs_cons (pg_name (i := 1) scMirrors.nd rfl (Or.inl rfl)) (pgs_cons (pg_name (i := 2) scMirrors.nd rfl (Or.inl rfl)) pgs_nil))) (fun _ _ _ _ _ => pts_nil)
          (fun _ _ _ _ _ => pe_cmpR op_eq (pe_ix (ix_tupK (K := K) rfl) (pv 0) (pv 2) (fun _ _ => rfl)) (pv 1) (nomark _))) pa_nil))))), ?_⟩
    refine ⟨.ref a, rfl, .ref a, .ty "tuple", _, _, true, rfl, .ty "tuple", tyT hT, kit_ty (by decide +kernel), true, rfl, iteF ?_⟩
    refine ⟨.ref a, rfl, a, _, rfl, .inr hT, _, _, rfl, rfl, decide (((ns.map V.int).length : Int) > 8), rfl, ?_⟩
    have h8 := hM.few
    rw [decide_eq_false (show ¬ ((ns.map V.int).length : Int) > 8 by rw [List.length_map]; omega)]
    refine iteF ?_
    refine ⟨.ref a, rfl, .ref a, rfl, a, _, rfl, .inr hT, a, ns, _, rfl, hT, hM.pos, by omega, fun i hi => ?_, fun H1 s1 => ⟨true, rfl, iteF ?_⟩⟩
    · rw [List.length_map]; exact hM.inn i hi
    · refine ⟨.ref a, rfl, a, _, rfl, sqT_same s1 hT, fun D nD => ?_⟩
      refine lc_it (walk_enT (K := K) (a := a) (xs := ns.map V.int)) (fun i H' => Same H1 H' ∧ H' D = some (.lst (List.replicate i (V.bl true)))) ⟨same_upd nD, upd_same⟩ (fun i H' _ p => sqT_same p.1 (sqT_same s1 hT)) (fun i x H2 H3 hi p y => ?_) fun H' p => ?_
      · obtain ⟨T, x1, x2, rfl, nT, rfl, e1, e2⟩ := y
        have e1' : x1 = .int (i : Nat) := (Option.some.inj e1).symm
        subst e1'
        obtain ⟨m, hm, rfl⟩ := map_at e2
        have hin := hM.inn m (List.mem_of_getElem? hm)
        have hil : i < ns.length := (List.getElem?_eq_some_iff.mp hm).1
        have hDT : D ≠ T := ne_of_none p.2 nT
        have sT : Same H2 (upd H2 T (.tup [.int (i : Nat), .int m])) := same_upd nT
        have hA : SqT K (upd H2 T (.tup [.int (i : Nat), .int m])) a (ns.map V.int) := sqT_same sT (sqT_same p.1 (sqT_same s1 hT))
        have gm : (ns.map V.int)[m.toNat]? = some (.int (i : Nat)) := by
          rw [List.getElem?_map, hM.back i m hm]; rfl
        refine ⟨T, _, rfl, tupNew upd_same, rfl, _, _, rfl, _, _, rfl, rfl, rfl, tt_yes ⟨.ref a, rfl, .int m, rfl, a, _, m, .int (i : Nat), rfl, rfl, hA, ?_, .int (i : Nat), rfl, rfl, _, (sT _ _ p.2), ?_, ?_, ?_⟩⟩
        · have e : m = ((m.toNat : Nat) : Int) := by omega
          rw [e]; exact atI_nat gm
        · rw [List.length_replicate]; exact few1 (by omega)
        · exact fun b o e => by rw [upd_ne (ne_of_none e nD)]; exact sT b o (p.1 b o e)
        · rw [upd_same, decide_eq_true rfl, rep_next]
      · rw [List.length_map, rep_bl] at p
        refine ⟨D, _, rfl, lstNew p.2, ?_⟩
        rw [all_true]
        exact q H' (s1.trans p.1)
end
end K20
namespace K20
open PySem PySem.Spec PyProof.Rows L2 RV
def rgI (a b : Int) : List Int := (List.range (b - a).toNat).map fun (i : Nat) => a + (i : Int)
theorem rgV_rgI (a b : Int) : rgV a b = (rgI a b).map V.int := by
  unfold rgV rgI
  rw [List.map_map]; rfl
theorem rgI_len (a b : Int) : (rgI a b).length = (b - a).toNat := by unfold rgI; rw [List.length_map, List.length_range]
theorem rgI_get {a b : Int} {k : Nat} {m : Int} : (rgI a b)[k]? = some m ↔ k < (b - a).toNat ∧ m = a + (k : Int) := by
  unfold rgI
  rw [List.getElem?_map]
  by_cases h : k < (b - a).toNat
  · rw [List.getElem?_range h]
    simp [h, eq_comm]
  · rw [List.getElem?_eq_none (by rw [List.length_range]; omega)]
    simp [h]
/-! ### mirrors drawn: fs so far, ls the marks left -/
structure Half (m : Nat) (fs ls : List Int) : Prop where
  len : fs.length = m
  inn : ∀ (k : Nat) (x : Int), fs[k]? = some x → 0 ≤ x ∧ x < (m : Int)
  back : ∀ (k : Nat) (x : Int), fs[k]? = some x → fs[x.toNat]? = some (k : Int)
  nd : ls.Nodup
  lin : ∀ x ∈ ls, 0 ≤ x ∧ x < (m : Int)
  self : ∀ x ∈ ls, fs[x.toNat]? = some x
theorem half_start (m : Nat) : Half m (rgI 0 (m : Int)) (rgI 0 (m : Int)) := by
  have mem : ∀ x ∈ rgI 0 (m : Int), 0 ≤ x ∧ x < (m : Int) := fun x hx => by
    obtain ⟨k, hk, e⟩ := List.getElem_of_mem hx
    have z : (rgI 0 (m : Int))[k]? = some x := by rw [List.getElem?_eq_getElem hk, e]
    rw [rgI_get] at z; omega
  refine ⟨by rw [rgI_len]; omega, fun k x h => ?_, fun k x h => ?_, ?_, mem, fun x hx => ?_⟩
  · rw [rgI_get] at h; omega
  · rw [rgI_get] at h ⊢; omega
  · unfold rgI
    refine List.Pairwise.map _ (fun a b (h : a < b) => ?_) List.pairwise_lt_range
    omega
  · have := mem x hx
    rw [rgI_get]; omega
theorem half_drop {m : Nat} {fs ls : List Int} {x : Int} (h : Half m fs (x :: ls)) : Half m fs ls :=
  ⟨h.len, h.inn, h.back, (List.nodup_cons.mp h.nd).2, fun y hy => h.lin y (List.mem_cons_of_mem _ hy), fun y hy => h.self y (List.mem_cons_of_mem _ hy)⟩
theorem not_in_erase : ∀ {ls : List Int} {r : Nat} {z : Int}, ls.Nodup → ls[r]? = some z → z ∉ ls.eraseIdx r
  | [], _, _, _, h => by simp at h
  | a :: l, 0, z, nd, h => by
    have e : a = z := Option.some.inj h
    subst e
    exact (List.nodup_cons.mp nd).1
  | a :: l, r + 1, z, nd, h => by
    have h' : l[r]? = some z := h
    intro hz
    rcases List.mem_cons.mp (show z ∈ a :: l.eraseIdx r from hz) with e | e
    · exact (List.nodup_cons.mp nd).1 (e ▸ List.mem_of_getElem? h')
    · exact not_in_erase (List.nodup_cons.mp nd).2 h' e
theorem half_pair {m : Nat} {fs ls : List Int} {x y : Int} {r : Nat} (h : Half m fs (x :: ls)) (hy : ls[r]? = some y) : Half m ((fs.set x.toNat y).set y.toNat x) (ls.eraseIdx r) := by
  have hx := h.lin x (List.mem_cons_self ..)
  have hyl : y ∈ ls := List.mem_of_getElem? hy
  have hy1 := h.lin y (List.mem_cons_of_mem _ hyl)
  have hxy : x ≠ y := fun e => (List.nodup_cons.mp h.nd).1 (e ▸ hyl)
  have sx := h.self x (List.mem_cons_self ..)
  have sy := h.self y (List.mem_cons_of_mem _ hyl)
  have hl := h.len
  have nxy : x.toNat ≠ y.toNat := by omega
  have get : ∀ k : Nat, ((fs.set x.toNat y).set y.toNat x)[k]? = if y.toNat = k then (if k < m then some x else none) else if x.toNat = k then (if k < m then some y else none) else fs[k]? := fun k => by
    rw [List.getElem?_set, List.getElem?_set, List.length_set, hl]
    by_cases e1 : y.toNat = k
    · simp [e1]
    · by_cases e2 : x.toNat = k
      · simp [e1, e2]
      · simp [e1, e2]
  have sub : ∀ z ∈ ls.eraseIdx r, z ∈ ls := fun z hz => List.mem_of_mem_eraseIdx hz
  refine ⟨by rw [List.length_set, List.length_set]; exact hl, fun k z hz => ?_, fun k z hz => ?_, ?_, fun z hz => h.lin z (List.mem_cons_of_mem _ (sub z hz)), fun z hz => ?_⟩
  · rw [get] at hz
    split at hz
    · split at hz
      · cases hz; exact hx
      · cases hz
    · split at hz
      · split at hz
        · cases hz; exact hy1
        · cases hz
      · exact h.inn k z hz
  · rw [get] at hz
    split at hz
    · rename_i e1
      split at hz
      · cases hz
        rw [get, if_neg (by omega), if_pos rfl, if_pos (by omega)]
        congr 1; omega
      · cases hz
    · rename_i e1
      split at hz
      · rename_i e2
        split at hz
        · cases hz
          rw [get, if_pos rfl, if_pos (by omega)]
          congr 1; omega
        · cases hz
      · rename_i e2
        have b1 := h.back k z hz
        have i1 := h.inn k z hz
        have n1 : y.toNat ≠ z.toNat := fun e => by
          have : z = y := by omega
          subst this
          rw [sy] at b1
          have := Option.some.inj b1
          omega
        have n2 : x.toNat ≠ z.toNat := fun e => by
          have : z = x := by omega
          subst this
          rw [sx] at b1
          have := Option.some.inj b1
          omega
        rw [get, if_neg n1, if_neg n2]; exact b1
  · exact List.Nodup.sublist (List.eraseIdx_sublist ls r) (List.nodup_cons.mp h.nd).2
  · have hzl := sub z hz
    have z1 := h.lin z (List.mem_cons_of_mem _ hzl)
    have zx : z ≠ x := fun e => (List.nodup_cons.mp h.nd).1 (e ▸ hzl)
    have zy : z ≠ y := fun e => by
      subst e
      exact not_in_erase (List.nodup_cons.mp h.nd).2 hy hz
    rw [get, if_neg (by omega), if_neg (by omega)]
    exact h.self z (List.mem_cons_of_mem _ hzl)
theorem half_mir {m : Nat} {fs : List Int} (h : Half m fs []) (h1 : 1 ≤ m) (h8 : m ≤ 8) : Mir fs := by
  have hl := h.len
  refine ⟨by omega, by omega, fun x hx => ?_, h.back⟩
  obtain ⟨k, hk, e⟩ := List.getElem_of_mem hx
  have := h.inn k x (by rw [List.getElem?_eq_getElem hk, e])
  omega
end K20
set_option maxHeartbeats 4000000
namespace RV
open PySem PySem.Spec PyProof.Rows L2
theorem nx_step {i : Nat} {v : V} {σ : L2.St} {H : Hp} {G : L2.St → Hp → Prop} (h : G (σ.set i (some v)) H) : gName i v σ H G := h
theorem seq_mid {t1 t2 : TS} {D : Ends} {σ : L2.St} {H : Hp} (J : L2.St → Hp → Prop) (h2 : ∀ σ H, J σ H → t2 D σ H) (h1 : (∀ σ H, J σ H → t2 D σ H) → tSeq t1 t2 D σ H) : tSeq t1 t2 D σ H := h1 h2
section
variable {X : Cx} {K : PySem.W.Frag}
theorem op_notInDK (h : X.K = K) (hu : X.A.units + 65 < cLine) : OpR X (compareOp .NotIn) (rNotInD K) := h ▸ op_notInD hu
theorem pe_backTK {e : Expr} {te : TE} {k : Nat} {p1 p2 p3 pos : Pos} (h : X.K = K) (he : PE X e te) : PE X (.Subscript e (.Slice none none (some (.UnaryOp .USub (.Constant (.int 1) k p1) p2)) p3) pos) (tBackT K te) := h ▸ pe_backT he
end
section
variable {X : Cx} {K : PySem.W.Frag}
theorem op_inDK (h : X.K = K) (hu : X.A.units + 65 < cLine) : OpR X (compareOp .In) (rInD K) := h ▸ op_inD hu
theorem ix_listK (h : X.K = K) : IxR X (rIxL K) := h ▸ ix_list
end
theorem take_filt {α : Type} {c : α → Bool} {ks : List α} {k : α} {i : Nat} (g : ks[i]? = some k) : (ks.take (i + 1)).filter c = (ks.take i).filter c ++ (if c k = true then [k] else []) := by
  rw [List.take_add_one, g]
  show (ks.take i ++ [k]).filter c = _
  rw [List.filter_append]
  by_cases e : c k = true
  · rw [if_pos e]; simp [e]
  · rw [if_neg e]; simp [e]
section
variable {K : PySem.W.Frag} {tt : TT} {te : TE} {f : Int → Bool} {σ : L2.St} {H1 : Hp} {a D : Addr} {v : Nat} {ns : List Int} {Qd : Hp → Prop}
/-- [x for x in t if ..], t a tuple of ints -/
theorem lc_filtT (hT : SqT K H1 a (ns.map V.int)) (hl : ns.length ≤ 1000) (nD : H1 D = none)
    (htest : ∀ x ∈ ns, ∀ H', Same H1 H' → ∀ A B : Hp → Prop, (∀ H2, Same H' H2 → if f x = true then A H2 else B H2) → tt ((wipe σ [v]).set v (some (.int x))) H' (fun b H3 => if b = true then A H3 else B H3))
    (hte : ∀ (x : Int) (H' : Hp) (Q : VK), Q (.int x) H' → te ((wipe σ [v]).set v (some (.int x))) H' Q)
    (hd : ∀ H', Same H1 H' → H' D = some (.lst ((ns.filter f).map V.int)) → Qd H') :
    ∃ W : Nat → Nat → Hp → Prop, (∃ m, W 0 m (upd H1 D (.lst []))) ∧ ∀ i m H, W i m H →
      ((Itt K a).stop i H ∧ Qd H) ∨ ((Itt K a).go i H ∧ ∃ Nx : Hp → Prop, (∀ H', Nx H' → ∃ m', m' < m ∧ W (i + 1) m' H') ∧ ∀ x H', (Itt K a).yld i H x H' → gName v x (wipe σ [v]) H' fun σ2 H2 => wipe σ2 [v] = wipe σ [v] ∧ tt σ2 H2 fun b H3 =>
        if b = true then te σ2 H3 fun y H4 => ∃ acc, H4 D = some (.lst acc) ∧ acc.length < sizeLine ∧ Nx (upd H4 D (.lst (acc ++ [y]))) else Nx H3) := by
  refine lc_tup (K := K) (a := a) (xs := ns.map V.int) (fun i H' => Same H1 H' ∧ H' D = some (.lst (((ns.take i).filter f).map V.int))) ⟨same_upd nD, upd_same⟩ (fun i H' _ p => sqT_same p.1 hT) (fun i x H' hx p => ?_) fun H' p => ?_
  · obtain ⟨k, g, rfl⟩ := map_at hx
    refine ⟨by simp [wipe, List.set_set], htest k (List.mem_of_getElem? g) H' p.1 _ _ fun H2 s2 => ?_⟩
    have s12 := p.1.trans s2
    have e2 := s2 _ _ p.2
    by_cases e : f k = true
    · rw [if_pos e]
      refine hte k H2 _ ⟨_, e2, ?_, fun b o z => ?_, ?_⟩
      · rw [List.length_map]
        exact few1 (Nat.le_trans (List.length_filter_le _ _) (by rw [List.length_take]; omega))
      · rw [upd_ne (ne_of_none z nD)]; exact s12 b o z
      · rw [upd_same, take_filt g, if_pos e, List.map_append]; rfl
    · rw [if_neg e]
      exact ⟨s12, by rw [take_filt g, if_neg e, List.append_nil]; exact e2⟩
  · rw [List.length_map, List.take_of_length_le (Nat.le_refl _)] at p
    exact hd H' p.1 p.2
/-- [x for x in l if ..], l a list of ints -/
theorem lc_filtL (hT : SqL K H1 a (ns.map V.int)) (hl : ns.length ≤ 1000) (nD : H1 D = none)
    (htest : ∀ x ∈ ns, ∀ H', Same H1 H' → ∀ A B : Hp → Prop, (∀ H2, Same H' H2 → if f x = true then A H2 else B H2) → tt ((wipe σ [v]).set v (some (.int x))) H' (fun b H3 => if b = true then A H3 else B H3))
    (hte : ∀ (x : Int) (H' : Hp) (Q : VK), Q (.int x) H' → te ((wipe σ [v]).set v (some (.int x))) H' Q)
    (hd : ∀ H', Same H1 H' → H' D = some (.lst ((ns.filter f).map V.int)) → Qd H') :
    ∃ W : Nat → Nat → Hp → Prop, (∃ m, W 0 m (upd H1 D (.lst []))) ∧ ∀ i m H, W i m H →
      ((Itl K a).stop i H ∧ Qd H) ∨ ((Itl K a).go i H ∧ ∃ Nx : Hp → Prop, (∀ H', Nx H' → ∃ m', m' < m ∧ W (i + 1) m' H') ∧ ∀ x H', (Itl K a).yld i H x H' → gName v x (wipe σ [v]) H' fun σ2 H2 => wipe σ2 [v] = wipe σ [v] ∧ tt σ2 H2 fun b H3 =>
        if b = true then te σ2 H3 fun y H4 => ∃ acc, H4 D = some (.lst acc) ∧ acc.length < sizeLine ∧ Nx (upd H4 D (.lst (acc ++ [y]))) else Nx H3) := by
  refine lc_list (K := K) (a := a) (xs := ns.map V.int) (fun i H' => Same H1 H' ∧ H' D = some (.lst (((ns.take i).filter f).map V.int))) ⟨same_upd nD, upd_same⟩ (fun i H' _ p => sqL_same p.1 hT) (fun i x H' hx p => ?_) fun H' p => ?_
  · obtain ⟨k, g, rfl⟩ := map_at hx
    refine ⟨by simp [wipe, List.set_set], htest k (List.mem_of_getElem? g) H' p.1 _ _ fun H2 s2 => ?_⟩
    have s12 := p.1.trans s2
    have e2 := s2 _ _ p.2
    by_cases e : f k = true
    · rw [if_pos e]
      refine hte k H2 _ ⟨_, e2, ?_, fun b o z => ?_, ?_⟩
      · rw [List.length_map]
        exact few1 (Nat.le_trans (List.length_filter_le _ _) (by rw [List.length_take]; omega))
      · rw [upd_ne (ne_of_none z nD)]; exact s12 b o z
      · rw [upd_same, take_filt g, if_pos e, List.map_append]; rfl
    · rw [if_neg e]
      exact ⟨s12, by rw [take_filt g, if_neg e, List.append_nil]; exact e2⟩
  · rw [List.length_map, List.take_of_length_le (Nat.le_refl _)] at p
    exact hd H' p.1 p.2
end
/-! ### x in l, of ints -/
theorem dpL {K : PySem.W.Frag} {H : Hp} {a : Addr} {ns : List Int} (h : SqL K H a (ns.map V.int)) : Dp K H (.ref a) (.list (ns.map PyData.int)) := .lst h (dpInts ns)
theorem shapedLI (ns : List Int) : SeqAt.shaped (.list (ns.map PyData.int)) = true := by
  have h1 : (PyData.list (ns.map PyData.int)).canLay0 = true := by simp only [PyData.canLay0]; exact lay_ints ns
  have h2 : (PyData.list (ns.map PyData.int)).depth ≤ 64 := by simp only [PyData.depth, dep_ints]; omega
  show ((PyData.list (ns.map PyData.int)).canLay0 && decide ((PyData.list (ns.map PyData.int)).depth ≤ 64)) = true
  rw [h1, decide_eq_true h2]; rfl
theorem shapedN (n : Int) : SeqAt.shaped (.int n) = true := by
  show ((PyData.int n).canLay0 && decide ((PyData.int n).depth ≤ 64)) = true
  simp [PyData.canLay0, PyData.depth]
theorem any_int (x : Int) : ∀ ns : List Int, (ns.map PyData.int).any (fun y => PyData.eqv y (.int x)) = decide (x ∈ ns)
  | [] => rfl
  | n :: r => by
    rw [List.map_cons, List.any_cons, any_int x r]
    by_cases e : x = n
    · subst e; simp [PyData.eqv]
    · have e' : ¬ n = x := fun z => e z.symm
      by_cases e2 : x ∈ r <;> simp [PyData.eqv, e, e', e2]
section
variable {X : Cx}
/-- n in t, t a tuple of ints -/
def rInTI (K : PySem.W.Frag) : R2 := fun x y H Q => ∃ (b : Addr) (n : Int) (ns : List Int), x = .int n ∧ y = .ref b ∧ SqT K H b (ns.map V.int) ∧ Q (.bl (decide (n ∈ ns))) H
theorem op_inTI (hu : X.A.units + 65 < cLine) : OpR X (compareOp .In) (rInTI X.K) := by
  intro pins s σ H x y v u Q I rx ry h
  obtain ⟨b, n, ns, rfl, rfl, h2, q⟩ := h
  obtain ⟨as, r1⟩ := Dp.reads I (.int n) (.int n) v (.int n) rx
  obtain ⟨bs, r2⟩ := Dp.reads I (dI ns) (.ref b) u (dpT h2) ry
  refine SeqAt.in_tuple_reads (xs := ns.map PyData.int) r2 r1 (lay_ints ns) (by simp [PyData.canLay0]) ?_ ⟨.bl _, H, I, rfl, ?_⟩
  · have := Nat.min_le_right (PyData.depthAll (ns.map PyData.int)) (PyData.int n).depth
    have e : (PyData.int n).depth = 0 := by simp [PyData.depth]
    omega
  · rw [any_int]; exact q
theorem op_inTIK {K : PySem.W.Frag} (h : X.K = K) (hu : X.A.units + 65 < cLine) : OpR X (compareOp .In) (rInTI K) := h ▸ op_inTI hu
end
end RV
set_option maxHeartbeats 4000000
namespace K20
open PySem PySem.Spec PyProof.Rows L2 RV
/-- a pail of numbers stands at p, t have been mixed -/
def PailAt (H : Hp) (p : Addr) (t : Nat) : Prop := ∃ x y : Int, H p = some (.lst [.int x, .int y, .int (t : Int)]) ∧ 0 ≤ x ∧ 0 ≤ y ∧ y < 2305843009213693951
/-- all stands but what is at p -/
def But (p : Addr) (H H' : Hp) : Prop := ∀ c o, H c = some o → c ≠ p → H' c = some o
theorem But.refl (p : Addr) (H : Hp) : But p H H := fun _ _ e _ => e
theorem But.trans {p : Addr} {H H1 H2 : Hp} (a : But p H H1) (b : But p H1 H2) : But p H H2 := fun c o e z => b c o (a c o e z) z
theorem But.of {p : Addr} {H H' : Hp} (s : Same H H') : But p H H' := fun c o e _ => s c o e
theorem flag01 (b : Bool) : -(2 ^ 64) < (if b = true then (1 : Int) else 0) ∧ (if b = true then (1 : Int) else 0) < 2 ^ 64 := by cases b <;> decide
theorem mul_flag {x : Int} (h : 0 ≤ x) (b : Bool) : 0 ≤ x * (if b = true then (1 : Int) else 0) := by
  cases b
  · show 0 ≤ x * 0
    rw [Int.mul_zero]; exact Int.le_refl _
  · show 0 ≤ x * 1
    rw [Int.mul_one]; exact h
section
variable {P : Program} {w : World} {K : PySem.W.Frag} {mg : Str → Option Value} {base : Heap}
/-! ### _law_box -/
theorem scHand : FnScope ["_law_script", "_law_k", "_law_cell", "_law_mixed"] ["_law_script", "_law_k"] (defScope sHand) := ⟨rfl, rfl, rfl, by decide +kernel, rfl, by decide +kernel, by decide +kernel⟩
def spHand (K : PySem.W.Frag) : Sp := fun vs H Q _ => ∃ (a : Addr) (ns : List Int) (k : Nat), vs = [.ref a, .int (k : Int)] ∧ SqL K H a (ns.map V.int) ∧ k < 64 ∧ ∀ H' p, Same H H' → H p = none → PailAt H' p 0 → Q (.ref p) H'
theorem ok_hand {f : Addr} {fd : FuncData} (F : Fun K "_law_box" "_law_box" sHand f fd) (B : Bare mg) : FnOk P w K mg base CX0 1 f fd ["_law_script", "_law_k"] (spHand K) := by
  refine F.ok scHand (fun vs H Q E h => ?_) (fun cdv A outer s H vs Q E hr h => ?_)
  · obtain ⟨a, ns, k, rfl, _⟩ := h
    rfl
  · obtain ⟨a, ns, k, rfl, hS, hk, q⟩ := h
    refine ⟨_, pss_cons (ps_set (i := 2) scHand.nd rfl (Or.inl rfl) (pe_ifExp (pt_cmpR op_lt (pv 1) (pe_callB call_len_seq (by rfl) B.len PySem.boot_len (pa_cons (pv 0) pa_nil)) (nomark _)) (pe_ix ix_list (pv 0) (pv 1) (fun _ _ => rfl)) pe_int))
      (pss_cons (ps_set (i := 3) scHand.nd rfl (Or.inl rfl) (pe_op op_mod (pe_op op_mul (pe_op op_add (pe_op op_add (pe_op op_mod (pv 2) pe_int) (pe_op op_mul (pe_op op_mul pe_int (pv 1)) (pv 1))) pe_int) pe_int) pe_int))
      (pss_one (ps_ret (pe_lst (pa_cons (pe_ifExp (pt_cmpR op_ge (pe_callB call_abs (by rfl) B.abs (by decide +kernel) (pa_cons (pv 2) pa_nil)) (pe_op op_pow pe_int pe_int) (nomark _)) (pe_callB call_abs (by rfl) B.abs (by decide +kernel) (pa_cons (pv 2) pa_nil)) pe_int) (pa_cons (pv 3) (pa_cons pe_int pa_nil))))))), ?_⟩
    have tail : ∀ cell : Int, ∃ m : Int, m = ((cell % 2305843009213693951 + 7919 * (k : Int) * (k : Int) + 29) * 48271) % 2305843009213693921 ∧ 0 ≤ m ∧ m < 2305843009213693951 := fun cell => ⟨_, rfl, Int.emod_nonneg _ (by decide), by have := Int.emod_lt_of_pos ((cell % 2305843009213693951 + 7919 * (k : Int) * (k : Int) + 29) * 48271) (show (0 : Int) < 2305843009213693921 by decide); omega⟩
    have three : (3 : Nat) ≤ sizeLine := by decide
    refine ⟨.int (k : Int), rfl, .ref a, rfl, a, _, rfl, .inl hS, (k : Int), _, rfl, rfl, _, rfl, ite2 (fun hlt => ?_) (fun _ => ?_)⟩
    · have hkl : k < ns.length := by
        have z := of_decide_eq_true hlt
        rw [List.length_map] at z; omega
      refine ⟨.ref a, rfl, .int (k : Int), rfl, a, _, (k : Int), .int ns[k], rfl, rfl, hS, atI_nat (by rw [List.getElem?_map, List.getElem?_eq_getElem hkl]; rfl), ?_⟩
      generalize ns[k] = cell
      obtain ⟨m, em, m0, m1⟩ := tail cell
      refine ⟨.int cell, rfl, cell, 2305843009213693951, rfl, rfl, (show (0 : Int) < 2305843009213693951 by decide), .int (k : Int), rfl, 7919, (k : Int), rfl, rfl, .inl ⟨by decide, by decide⟩, .int (k : Int), rfl, _, (k : Int), rfl, rfl, .inr ⟨by omega, by omega⟩, _, _, rfl, rfl, _, 29, rfl, rfl, _, 48271, rfl, rfl, .inr ⟨by decide, by decide⟩, _, 2305843009213693921, rfl, rfl, (show (0 : Int) < 2305843009213693921 by decide), ?_⟩
      show gName 3 (V.int (((cell % 2305843009213693951 + 7919 * (k : Int) * (k : Int) + 29) * 48271) % 2305843009213693921)) _ _ _
      rw [← em]
      refine ⟨_, rfl, cell, rfl, 10, 18, rfl, rfl, ⟨by decide, by decide, by decide⟩, _, _, rfl, rfl, _, rfl, ite2 (fun _ => ?_) (fun _ => ?_)⟩
      · refine ⟨_, rfl, cell, rfl, .int m, rfl, three, fun p np => ?_⟩
        exact q _ p (same_upd np) np ⟨_, m, upd_same, by split <;> omega, m0, m1⟩
      · refine ⟨.int m, rfl, three, fun p np => ?_⟩
        exact q _ p (same_upd np) np ⟨0, m, upd_same, by omega, m0, m1⟩
    · obtain ⟨m, em, m0, m1⟩ := tail 0
      refine ⟨.int 0, rfl, 0, 2305843009213693951, rfl, rfl, (show (0 : Int) < 2305843009213693951 by decide), .int (k : Int), rfl, 7919, (k : Int), rfl, rfl, .inl ⟨by decide, by decide⟩, .int (k : Int), rfl, _, (k : Int), rfl, rfl, .inr ⟨by omega, by omega⟩, _, _, rfl, rfl, _, 29, rfl, rfl, _, 48271, rfl, rfl, .inr ⟨by decide, by decide⟩, _, 2305843009213693921, rfl, rfl, (show (0 : Int) < 2305843009213693921 by decide), ?_⟩
      show gName 3 (V.int (((0 % 2305843009213693951 + 7919 * (k : Int) * (k : Int) + 29) * 48271) % 2305843009213693921)) _ _ _
      rw [← em]
      refine ⟨_, rfl, 0, rfl, 10, 18, rfl, rfl, ⟨by decide, by decide, by decide⟩, _, _, rfl, rfl, _, rfl, ite2 (fun _ => ?_) (fun _ => ?_)⟩
      · refine ⟨_, rfl, 0, rfl, .int m, rfl, three, fun p np => ?_⟩
        exact q _ p (same_upd np) np ⟨_, m, upd_same, by split <;> omega, m0, m1⟩
      · refine ⟨.int m, rfl, three, fun p np => ?_⟩
        exact q _ p (same_upd np) np ⟨0, m, upd_same, by omega, m0, m1⟩
end
end K20
set_option maxHeartbeats 4000000
namespace K20
open PySem PySem.Spec PyProof.Rows L2 RV
section
variable {P : Program} {w : World} {K : PySem.W.Frag} {mg : Str → Option Value} {base : Heap}
/-! ### _law_take -/
theorem scDraw : FnScope ["_law_box_here", "_law_many", "_law_digit", "_law_mixed"] ["_law_box_here", "_law_many"] (defScope sDraw) := ⟨rfl, rfl, rfl, by decide +kernel, rfl, by decide +kernel, by decide +kernel⟩
def spDraw : Sp := fun vs H Q _ => ∃ (p : Addr) (t : Nat) (m : Int), vs = [.ref p, .int m] ∧ PailAt H p t ∧ t ≤ 40000 ∧ 1 ≤ m ∧ m ≤ 1000 ∧
  ∀ (r : Int) (t' : Nat) (H' : Hp), 0 ≤ r → r < m → t' ≤ t + 1 → PailAt H' p t' → But p H H' → Q (.int r) H'
theorem ok_draw {f : Addr} {fd : FuncData} (F : Fun K "_law_take" "_law_take" sDraw f fd) : FnOk P w K mg base CX0 1 f fd ["_law_box_here", "_law_many"] spDraw := by
  refine F.ok scDraw (fun vs H Q E h => ?_) (fun cdv A outer s H vs Q E hr h => ?_)
  · obtain ⟨p, t, m, rfl, _⟩ := h
    rfl
  · obtain ⟨p, t, m, rfl, ⟨x, y, hp, hx, hy0, hy1⟩, ht, hm1, hm2, q⟩ := h
    refine ⟨_, pss_cons (ps_if (pt_cmpR op_gt (pe_ix ix_list (pv 0) pe_int (fun _ _ => rfl)) pe_int (nomark _))
        (pss_cons (ps_set (i := 2) scDraw.nd rfl (Or.inl rfl) (pe_op op_mod (pe_ix ix_list (pv 0) pe_int (fun _ _ => rfl)) (pv 1)))
        (pss_cons (ps_asg (pe_op op_fdiv (pe_ix ix_list (pv 0) pe_int (fun _ _ => rfl)) (pv 1)) (pg_sub (pv 0) pe_int set_list))
        (pss_one (ps_ret (pv 2))))) pss_nil)
      (pss_cons (ps_asg (pe_op op_add (pe_ix ix_list (pv 0) pe_int (fun _ _ => rfl)) pe_int) (pg_sub (pv 0) pe_int set_list))
      (pss_cons (ps_set (i := 3) scDraw.nd rfl (Or.inl rfl) (pe_op op_mod (pe_op op_mul (pe_op op_add (pe_op op_add (pe_ix ix_list (pv 0) pe_int (fun _ _ => rfl)) (pe_op op_mul (pe_op op_mul pe_int (pe_ix ix_list (pv 0) pe_int (fun _ _ => rfl))) (pe_ix ix_list (pv 0) pe_int (fun _ _ => rfl)))) pe_int) pe_int) pe_int))
      (pss_cons (ps_set (i := 3) scDraw.nd rfl (Or.inl rfl) (pe_op op_mod (pe_op op_mul (pv 3) (pe_op op_add (pe_op op_mod (pv 3) pe_int) (pe_op op_mul pe_int (pe_ix ix_list (pv 0) pe_int (fun _ _ => rfl))))) pe_int))
      (pss_one (ps_ret (pe_op op_mod (pe_op op_add (pe_op op_fdiv (pv 3) pe_int) (pe_op op_fdiv (pv 3) pe_int)) (pv 1))))))), ?_⟩
    refine ⟨.ref p, rfl, p, _, 0, .int x, rfl, rfl, lstNew hp, rfl, x, 0, rfl, rfl, _, rfl, ite2 (fun hx0 => ?_) (fun _ => ?_)⟩
    · refine ⟨.ref p, rfl, p, _, 0, .int x, rfl, rfl, lstNew hp, rfl, .int m, rfl, x, m, rfl, rfl, (show 0 < m by omega), ?_⟩
      refine ⟨.ref p, rfl, p, _, 0, .int x, rfl, rfl, lstNew hp, rfl, .int m, rfl, x, m, rfl, rfl, ⟨by omega, by omega⟩, .ref p, rfl, p, _, 0, 0, rfl, rfl, hp, rfl, ?_⟩
      refine ⟨_, rfl, ?_⟩
      exact q (x % m) t _ (Int.emod_nonneg _ (by omega)) (Int.emod_lt_of_pos _ (by omega)) (by omega) ⟨x / m, y, upd_same, Int.ediv_nonneg hx (by omega), hy0, hy1⟩ fun c o e z => by rw [upd_ne z]; exact e
    · refine ⟨.ref p, rfl, p, _, 2, .int (t : Int), rfl, rfl, lstNew hp, rfl, (t : Int), 1, rfl, rfl, .ref p, rfl, p, _, 2, 2, rfl, rfl, hp, rfl, ?_⟩
      have hp2 : (upd H p (.lst [.int x, .int y, .int ((t : Int) + 1)])) p = some (.lst [.int x, .int y, .int ((t : Int) + 1)]) := upd_same
      have b1 : But p H (upd H p (.lst [.int x, .int y, .int ((t : Int) + 1)])) := fun c o e z => by rw [upd_ne z]; exact e
      refine ⟨.ref p, rfl, p, _, 1, .int y, rfl, rfl, lstNew hp2, rfl, .ref p, rfl, p, _, 2, .int ((t : Int) + 1), rfl, rfl, lstNew hp2, rfl, 65537, _, rfl, rfl, .inl ⟨by decide, by decide⟩, .ref p, rfl, p, _, 2, .int ((t : Int) + 1), rfl, rfl, lstNew hp2, rfl, _, _, rfl, rfl, .inl ⟨by omega, by omega⟩, y, _, rfl, rfl, _, 11, rfl, rfl, _, 48271, rfl, rfl, .inr ⟨by decide, by decide⟩, _, 2305843009213693921, rfl, rfl, (show (0 : Int) < 2305843009213693921 by decide), ?_⟩
      have z0 := Int.emod_nonneg ((y + 65537 * ((t : Int) + 1) * ((t : Int) + 1) + 11) * 48271) (show (2305843009213693921 : Int) ≠ 0 by decide)
      have z1 := Int.emod_lt_of_pos ((y + 65537 * ((t : Int) + 1) * ((t : Int) + 1) + 11) * 48271) (show (0 : Int) < 2305843009213693921 by decide)
      show gName 3 (V.int (((y + 65537 * ((t : Int) + 1) * ((t : Int) + 1) + 11) * 48271) % 2305843009213693921)) _ _ _
      generalize ((y + 65537 * ((t : Int) + 1) * ((t : Int) + 1) + 11) * 48271) % 2305843009213693921 = v at z0 z1 ⊢
      refine ⟨.int v, rfl, .int v, rfl, v, 1000003, rfl, rfl, (show (0 : Int) < 1000003 by decide), .ref p, rfl, p, _, 2, .int ((t : Int) + 1), rfl, rfl, lstNew hp2, rfl, 99991, _, rfl, rfl, .inl ⟨by decide, by decide⟩, _, _, rfl, rfl, v, _, rfl, rfl, .inl ⟨by omega, by omega⟩, _, 2305843009213693907, rfl, rfl, (show (0 : Int) < 2305843009213693907 by decide), ?_⟩
      refine ⟨_, rfl, _, 97, rfl, rfl, ⟨by decide, by decide⟩, _, rfl, _, 1000033, rfl, rfl, ⟨by decide, by decide⟩, _, _, rfl, rfl, .int m, rfl, _, m, rfl, rfl, (show 0 < m by omega), ?_⟩
      exact q _ (t + 1) _ (Int.emod_nonneg _ (by omega)) (Int.emod_lt_of_pos _ (by omega)) (Nat.le_refl _) ⟨x, y, hp2, hx, hy0, hy1⟩ b1
end
end K20
set_option maxHeartbeats 4000000
namespace K20
open PySem PySem.Spec PyProof.Rows L2 RV
/-! ### what a draw leaves -/
theorem sqT_pail {K : PySem.W.Frag} {H H' : Hp} {p : Addr} {t : Nat} (hp : PailAt H p t) (b : But p H H') {a : Addr} {xs : List V} (h : SqT K H a xs) : SqT K H' a xs := by
  obtain ⟨x, y, e, _⟩ := hp
  rcases h with (h | ⟨o, h⟩) | h
  · exact .inl (.inl (b _ _ h fun z => by rw [z, e] at h; cases h))
  · exact .inl (.inr ⟨o, b _ _ h fun z => by rw [z, e] at h; cases h⟩)
  · exact .inr h
theorem sqL_but {K : PySem.W.Frag} {H H' : Hp} {p a : Addr} (b : But p H H') (n : a ≠ p) {xs : List V} (h : SqL K H a xs) : SqL K H' a xs := by
  rcases h with (h | ⟨o, h⟩) | h
  · exact .inl (.inl (b _ _ h n))
  · exact .inl (.inr ⟨o, b _ _ h n⟩)
  · exact .inr h
theorem tups_pail {K : PySem.W.Frag} {H H' : Hp} {p : Addr} {t : Nat} (hp : PailAt H p t) (b : But p H H') {a : Addr} {ps : List (List Int)} (h : Tups K H a ps) : Tups K H' a ps := by
  obtain ⟨ks, h1, h2, h3⟩ := h
  exact ⟨ks, h1, sqT_pail hp b h2, fun q hq => sqT_pail hp b (h3 q hq)⟩
theorem same_but {p : Addr} {H H1 H2 : Hp} (s : Same H H1) (n : H p = none) (b : But p H1 H2) : Same H H2 := fun c o e => b c o (s c o e) (ne_of_none e n)
theorem pail_same {p : Addr} {H H' : Hp} {t : Nat} (h : PailAt H p t) (s : Same H H') : PailAt H' p t := by
  obtain ⟨x, y, e, r⟩ := h
  exact ⟨x, y, s _ _ e, r⟩
theorem pail_new {p a : Addr} {H : Hp} {o : HO} {t : Nat} (h : PailAt H p t) (n : H a = none) : PailAt (upd H a o) p t := pail_same h (same_upd n)
theorem pail_set {p l : Addr} {H : Hp} {o : HO} {t : Nat} (h : PailAt H p t) (n : l ≠ p) : PailAt (upd H l o) p t := by
  obtain ⟨x, y, e, r⟩ := h
  exact ⟨x, y, by rw [upd_ne n.symm]; exact e, r⟩
theorem pail_ne {p a : Addr} {H : Hp} {t : Nat} (h : PailAt H p t) (n : H a = none) : a ≠ p := by
  obtain ⟨x, y, e, r⟩ := h
  exact (ne_of_none e n).symm
section
variable {P : Program} {w : World} {K : PySem.W.Frag} {mg : Str → Option Value} {base : Heap}
theorem erase_map {α β : Type} (f : α → β) : ∀ (l : List α) (i : Nat), (l.map f).eraseIdx i = (l.eraseIdx i).map f
  | [], _ => rfl
  | a :: l, 0 => rfl
  | a :: l, i + 1 => by
    show f a :: (l.map f).eraseIdx i = f a :: (l.eraseIdx i).map f
    rw [erase_map f l i]
theorem ix_at {n : Nat} {i : Int} (h1 : i < (n : Int)) (h0 : 0 ≤ i) : ixN n i = some i.toNat := by
  unfold ixN
  rw [if_pos h0, if_pos h1]
def lenAt (H : Hp) (a : Addr) : Nat := match H a with
  | some (.lst xs) => xs.length
  | _ => 0
theorem lenAt_eq {H : Hp} {a : Addr} {xs : List V} (h : H a = some (.lst xs)) : lenAt H a = xs.length := by unfold lenAt; rw [h]
theorem shapedL (ns : List Int) : SeqAt.shaped (.list (ns.map PyData.int)) = true := by
  have h1 : (PyData.list (ns.map PyData.int)).canLay0 = true := by simp only [PyData.canLay0]; exact lay_ints ns
  have h2 : (PyData.list (ns.map PyData.int)).depth ≤ 64 := by simp only [PyData.depth, dep_ints]; omega
  show ((PyData.list (ns.map PyData.int)).canLay0 && decide ((PyData.list (ns.map PyData.int)).depth ≤ 64)) = true
  rw [h1, decide_eq_true h2]; rfl
theorem eqvL (ns ms : List Int) : PyData.eqv (.list (ns.map PyData.int)) (.list (ms.map PyData.int)) = decide (ns = ms) := by simp only [PyData.eqv, eqv_ints]
end
end K20
set_option maxHeartbeats 4000000
/-! sorted(d), d a dict whose keys are pairs of ints -/
namespace RV
open PySem PySem.Spec PyProof.Rows L2
/-- a pair of ints as a key, and back -/
def keyP (p : List Int) : List L2.Key := p.map Sum.inl
def pairOf (k : List L2.Key) : List Int := k.map fun x => match x with | .inl i => i | .inr _ => 0
theorem pairOf_keyP (p : List Int) : pairOf (keyP p) = p := by
  unfold pairOf keyP
  rw [List.map_map]
  exact List.map_id p
theorem kV_keyP (p : List Int) : (keyP p).map kV = p.map V.int := by
  unfold keyP
  rw [List.map_map]; rfl
abbrev two (p : List Int) : Int × Int := (p.getD 0 0, p.getD 1 0)
open Classical in
noncomputable def readP (h : Heap) (v : Value) : Int × Int := if e : ∃ p : Int × Int, Srt.IsPair h v p.1 p.2 then Classical.choose e else (0, 0)
theorem readP_eq {h : Heap} {v : Value} {x y : Int} (e : Srt.IsPair h v x y) : readP h v = (x, y) := by
  have ex : ∃ p : Int × Int, Srt.IsPair h v p.1 p.2 := ⟨(x, y), e⟩
  unfold readP
  rw [dif_pos ex]
  have c := Classical.choose_spec ex
  generalize Classical.choose ex = p at c
  obtain ⟨a, o, t, u, n, e1, e2, e3, e4⟩ := c
  obtain ⟨a', o', t', u', n', f1, f2, f3, f4⟩ := e
  rw [e1] at f1
  cases f1
  rw [e2] at f2
  cases f2
  rw [e4] at f4
  injection f4 with g1 g2
  have g3 : [Value.int p.1 t, Value.int p.2 u] = [Value.int x t', Value.int y u'] := by
    have := congrArg Array.toList g1
    simpa using this
  injection g3 with g4 g5
  injection g5 with g5 _
  injection g4 with g4 _
  injection g5 with g5 _
  obtain ⟨p1, p2⟩ := p
  simp only at g4 g5
  rw [g4, g5]
theorem paired_mem {α β : Type} {F : α → β → Prop} : ∀ {l : List α} {m : List β}, Paired F l m → ∀ y ∈ m, ∃ x ∈ l, F x y
  | _, _, .nil, y, h => nomatch h
  | _, _, .cons f t, y, h => by
    rcases List.mem_cons.mp h with e | e
    · rw [e]; exact ⟨_, List.mem_cons_self .., f⟩
    · obtain ⟨x, hx, fx⟩ := paired_mem t y e
      exact ⟨x, List.mem_cons_of_mem _ hx, fx⟩
theorem paired_map {α β γ : Type} {F : α → β → Prop} {f : α → γ} {g : β → γ} (h : ∀ a b, F a b → f a = g b) : ∀ {l : List α} {m : List β}, Paired F l m → l.map f = m.map g
  | _, _, .nil => rfl
  | _, _, .cons e t => by rw [List.map_cons, List.map_cons, h _ _ e, paired_map h t]
section
variable {X : Cx}
/-- sorted(d) -/
def rSortDT : List V → Hp → VK → Prop := fun xs H Q => ∃ (d : Addr) (kvs : List (List L2.Key × V)) (ps : List (List Int)), xs = [.ref d] ∧ Rd H d (.dT kvs) ∧ kvs.map (·.1) = ps.map keyP ∧ (∀ p ∈ ps, ∃ x y : Int, p = [x, y]) ∧ kvs.length ≤ 1000 ∧
  ∀ (L : List (Addr × List Int)) (q : Addr), H q = none → (L.map (·.2)).Perm ps → L.Pairwise (fun a b => SrtO.lexB (two b.2) (two a.2) = false) → (∀ a ∈ L, H a.1 = some (.tup (a.2.map V.int))) → Q (.ref q) (upd H q (.lst (L.map fun a => V.ref a.1)))
theorem cr_sortedDT (hc : X.calm = true) : CallR X (.builtin "sorted") rSortDT := by
  intro pins s σ H xs us Q I r h
  obtain ⟨d, kvs, ps, rfl, hd, hks, hpr, h1000, q⟩ := h
  obtain ⟨u, rfl, rx⟩ := vals1 r
  cases rx
  obtain ⟨z, hs, ks, pr, o, es, ep, ho, hx, hdt, he, hn⟩ := (show ObjOk X.prog X.w H s.heap d (.dT kvs) from hd.ok I.hok)
  have l1 : es.size = ks.length := size_of_entries he
  have l2 : kvs.length = ks.length := Paired.length pr
  refine Calls.call_function_entry kind_sorted plain_sorted entry_sorted (args_sorted1 _) ?_
  unfold Builtin.«sorted»
  refine wpAny_bind (m := checkCount "sorted" 1 1 _) (wpAny_pure ?_)
  refine wpAny_bind (PySem.W.kdu_collect (A := X.A.in1) (kdl_raw hs hx hdt) (I.ok.hd hc) ho (by rw [l1, ← l2]; exact Nat.le_of_lt (small1000 h1000)) fun h' tk acc kp it => ?_)
  -- what was collected
  have ea : acc.toList = ks.map fun x => Value.ref x.2.1 := by
    have hl : acc.toList.length = ks.length := by rw [Array.length_toList, it.1, l1]
    refine List.ext_getElem (by rw [hl, List.length_map]) fun j j1 j2 => ?_
    have ja : acc.toList[j]? = some acc.toList[j] := List.getElem?_eq_getElem j1
    obtain ⟨en, hen, hv⟩ := it.2 j _ (by rw [← Array.getElem?_toList]; exact ja)
    have qe := entry_at he j
    have jk : j < ks.length := by rw [List.length_map] at j2; exact j2
    rw [hen, List.getElem?_eq_getElem jk] at qe
    have e2 : en = entryOfKey (tupleKind (mixKind X.prog X.w)) ks[j] := Option.some.inj qe
    rw [hv, e2, List.getElem_map]; rfl
  have I1 : Inv X pins σ H { s with heap := h', toks := tk } := I.kept kp
  have hal : acc.toList.length = ks.length := by rw [ea, List.length_map]
  refine wpAny_bind (wpAny_newList ?_ (by rw [hal, ← l2]; exact Nat.le_of_lt (small1000 h1000)))
  have hoL : (h'.push (seqObj "list" acc.toList.toArray 0)).get? h'.objs.size = some (seqObj "list" acc.toList.toArray 0) := Heap.get?_push_size _ rfl
  show wpAny _ _ _ _ _ { s with heap := h'.push (seqObj "list" acc.toList.toArray 0), toks := tk }
  -- each is a pair
  have ent : ∀ v ∈ acc.toList, ∃ (b : Addr) (p : List Int), v = .ref b ∧ p ∈ ps ∧ H b = some (.tup (p.map V.int)) ∧ ∃ x y : Int, p = [x, y] ∧ Srt.IsPair h' v x y := by
    intro v hv
    rw [ea] at hv
    obtain ⟨x, hx1, rfl⟩ := List.mem_map.mp hv
    obtain ⟨kv, hkv, q1, q2, _⟩ := paired_mem pr x hx1
    have hk2 : kv.1 ∈ ps.map keyP := by rw [← hks]; exact List.mem_map_of_mem hkv
    obtain ⟨p, hp, ep⟩ := List.mem_map.mp hk2
    have hb : H x.2.1 = some (.tup (p.map V.int)) := by rw [q2, ← ep, kV_keyP]
    obtain ⟨x', y', e'⟩ := hpr p hp
    refine ⟨x.2.1, p, rfl, hp, hb, x', y', e', ?_⟩
    obtain ⟨_, its2, r2, oo, ho2, hc2, n2, hd2⟩ := (show ObjOk X.prog X.w H s.heap x.2.1 (.tup (p.map V.int)) from I.hok _ _ hb)
    rw [e'] at r2
    obtain ⟨u1, u2, rfl, ri, rj⟩ := vals2 r2
    obtain ⟨t1, rfl⟩ := ri
    obtain ⟨t2, rfl⟩ := rj
    exact ⟨x.2.1, oo, t1, t2, n2, rfl, kp _ _ ho2, hc2, hd2⟩
  have isp : ∀ v ∈ acc.toList, Srt.IsPair h' v (readP h' v).1 (readP h' v).2 := fun v hv => by
    obtain ⟨b, p, _, _, _, x, y, _, e⟩ := ent v hv
    rw [readP_eq e]; exact e
  refine wpAny_bind (wpAny_holding (wpAny_call_entry slot_list_sort ⟨_, hoL, rfl⟩ entry_list_sort (SrtO.list_sort_ord (s := { s with heap := h'.push (seqObj "list" acc.toList.toArray 0), toks := tk }) (ltv := fun v u => SrtO.lexB (readP h' v) (readP h' u)) (SrtO.swo_lex (readP h')) hoL
    (by rw [hal, ← l2]; exact Nat.le_of_lt (small1000 h1000)) (fun h2 => ?_) fun out g1 g2 => ⟨_, rfl, ?_⟩) (args_list_sort _)))
  · refine SrtO.pairs_sortableO (k := readP h') (s := { s with heap := h'.push (seqObj "list" acc.toList.toArray 0), toks := tk }) (by omega) (fun v hm => (isp v hm).keeps fun b o e _ => Heap.get?_push_of_some _ e) fun o e => ?_
    have e' : some o = some (seqObj "list" acc.toList.toArray 0) := e.symm.trans hoL
    cases e'
    intro c
    exact absurd (Value.type.inj c) (by decide)
  · obtain ⟨e', he'⟩ := sortedHeap_at (vs := acc.toList) (out := out.toArray) hoL
    -- as addresses with their ints
    have inV : ∀ v ∈ out, v ∈ acc.toList := fun v hv => g2.perm.mem_iff.mp hv
    let ad : Value → Addr := fun v => match v with | .ref b => b | _ => 0
    let L : List (Addr × List Int) := out.map fun v => (ad v, [(readP h' v).1, (readP h' v).2])
    have tell : ∀ v ∈ out, v = .ref (ad v) ∧ [(readP h' v).1, (readP h' v).2] ∈ ps ∧ H (ad v) = some (.tup (([(readP h' v).1, (readP h' v).2] : List Int).map V.int)) := fun v hv => by
      obtain ⟨b, p, rfl, hp, hb, x, y, rfl, e⟩ := ent v (inV v hv)
      rw [readP_eq e]
      exact ⟨rfl, hp, hb⟩
    have eo : out = L.map fun a => Value.ref a.1 := by
      show out = (out.map _).map _
      rw [List.map_map]
      conv => lhs; rw [← List.map_id out]
      exact List.map_congr_left fun v hv => (tell v hv).1
    have eks : ∀ v ∈ acc.toList, True := fun _ _ => trivial
    have hLlen : (L.map fun a => V.ref a.1).length ≤ sizeLine := by
      rw [List.length_map, List.length_map, g2.len, hal, ← l2]; exact Nat.le_of_lt (small1000 h1000)
    have rv : Vals (L.map fun a => V.ref a.1) out := by
      rw [eo]
      have : ∀ M : List (Addr × List Int), Vals (M.map fun a => V.ref a.1) (M.map fun a => Value.ref a.1) := fun M => by
        induction M with
        | nil => exact .nil
        | cons m r ih => exact .cons rfl ih
      exact this L
    have e2 : L.map (·.2) = out.map fun v => [(readP h' v).1, (readP h' v).2] := by
      show (out.map _).map _ = _
      rw [List.map_map]; rfl
    have e3 : (acc.toList.map fun v => [(readP h' v).1, (readP h' v).2]) = ps := by
      have w1 : ks.map (fun x => pairOf x.1) = ps := by
        rw [← paired_map (f := fun (a : List L2.Key × V) => pairOf a.1) (g := fun (b : List L2.Key × Addr × Value) => pairOf b.1) (fun a b f => by rw [f.1]) pr]
        have w2 : kvs.map (fun a => pairOf a.1) = (kvs.map (·.1)).map pairOf := by rw [List.map_map]; rfl
        rw [w2, hks, List.map_map]
        conv => rhs; rw [← List.map_id ps]
        exact List.map_congr_left fun p _ => pairOf_keyP p
      rw [← w1, ea, List.map_map]
      refine List.map_congr_left fun x hx1 => ?_
      obtain ⟨kv, hkv, q1, q2, _⟩ := paired_mem pr x hx1
      obtain ⟨b, p, eb, hp, hb, x', y', e', isP⟩ := ent (.ref x.2.1) (by rw [ea]; exact List.mem_map.mpr ⟨x, hx1, rfl⟩)
      cases eb
      show [(readP h' (.ref x.2.1)).1, (readP h' (.ref x.2.1)).2] = pairOf x.1
      rw [readP_eq isP, ← q1]
      have hk2 : kv.1 ∈ ps.map keyP := by rw [← hks]; exact List.mem_map_of_mem hkv
      obtain ⟨p2, hp2, ep2⟩ := List.mem_map.mp hk2
      rw [← ep2, pairOf_keyP]
      rw [hb, ← ep2, kV_keyP] at q2
      have q3 : p.map V.int = p2.map V.int := by
        injection q2 with q2
        injection q2
      have q4 : p = p2 := by
        have inj : ∀ l m : List Int, l.map V.int = m.map V.int → l = m := fun l => by
          induction l with
          | nil => intro m e; cases m with | nil => rfl | cons => cases e
          | cons a r ih =>
            intro m e
            cases m with
            | nil => cases e
            | cons b t =>
              rw [List.map_cons, List.map_cons] at e
              injection e with e1 e2
              injection e1 with e1
              rw [e1, ih t e2]
        exact inj p p2 q3
      rw [← q4, e']
    refine wpAny_pure ⟨_, rfl, .ref h'.objs.size, upd H h'.objs.size (.lst (L.map fun a => V.ref a.1)), I1.laid (t' := tk) (fun b u e => ?_) (Nat.le_refl _)
      (show ObjOk X.prog X.w _ _ _ (.lst (L.map fun a => V.ref a.1)) from ⟨hLlen, out, e', rv, he'⟩), rfl, q L _ (I1.hok.fresh (Nat.le_refl _)) ?_ ?_ fun a ha => ?_⟩
    · have hb : b < h'.objs.size := Heap.lt_size e
      rw [sortedHeap_old (Nat.ne_of_lt hb) (by rw [size_push']; exact Nat.lt_succ_of_lt hb)]
      exact Heap.get?_push_of_some _ e
    · rw [e2, ← e3]
      exact g2.perm.map _
    · show (out.map _).Pairwise _
      rw [List.pairwise_map]
      exact g1
    · obtain ⟨v, hv, rfl⟩ := List.mem_map.mp ha
      exact (tell v hv).2.2
end
end RV
set_option maxHeartbeats 4000000
namespace K20
open PySem PySem.Spec PyProof.Rows L2 RV
/-! ### a dict of pairs, by its keys -/
def addP (ps : List (List Int)) (p : List Int) : List (List Int) := if p ∈ ps then ps else ps ++ [p]
theorem keyP_inj {p q : List Int} (h : keyP p = keyP q) : p = q := by
  have := congrArg pairOf h
  rwa [pairOf_keyP, pairOf_keyP] at this
theorem key_mem {p : List Int} {ps : List (List Int)} : keyP p ∈ ps.map keyP ↔ p ∈ ps := by
  constructor
  · intro h
    obtain ⟨q, hq, e⟩ := List.mem_map.mp h
    rw [← keyP_inj e]; exact hq
  · exact fun h => List.mem_map_of_mem h
theorem put_keys {kvs : List (List L2.Key × V)} {ps : List (List Int)} {p : List Int} {v : V} (h : kvs.map (·.1) = ps.map keyP) : (putK kvs (keyP p) v).map (·.1) = (addP ps p).map keyP := by
  unfold addP
  cases e : valV kvs (keyP p) with
  | none =>
    have n : p ∉ ps := fun z => valV_not e (by rw [h]; exact key_mem.mpr z)
    rw [putK_new v e, if_neg n, List.map_append, List.map_append, h]; rfl
  | some x =>
    have y : p ∈ ps := key_mem.mp (by rw [← h]; exact valV_in e)
    rw [if_pos y, ← h]
    unfold putK
    rw [valV_any, e]
    show (kvs.map fun kv => if kv.1 = keyP p then (kv.1, v) else kv).map (·.1) = kvs.map (·.1)
    rw [List.map_map]
    refine List.map_congr_left fun kv _ => ?_
    show (if kv.1 = keyP p then (kv.1, v) else kv).1 = kv.1
    split <;> rfl
theorem mem_addP {ps : List (List Int)} {p q : List Int} : q ∈ addP ps p ↔ q ∈ ps ∨ q = p := by
  unfold addP
  split
  · rename_i h
    constructor
    · exact .inl
    · rintro (z | rfl)
      · exact z
      · exact h
  · rw [List.mem_append, List.mem_singleton]
theorem nd_addP {ps : List (List Int)} {p : List Int} (h : ps.Nodup) : (addP ps p).Nodup := by
  unfold addP
  split
  · exact h
  · rename_i n
    rw [List.nodup_append]
    exact ⟨h, by simp, fun a ha b hb e => n (by rw [← List.mem_singleton.mp hb, ← e]; exact ha)⟩
/-- a tuple of tuples of ints, all of them seen -/
def TupsH (H : Hp) (a : Addr) (ps : List (List Int)) : Prop := ∃ ks : List (Addr × List Int), ks.map (·.2) = ps ∧ H a = some (.tup (ks.map fun p => V.ref p.1)) ∧ ∀ p ∈ ks, H p.1 = some (.tup (p.2.map V.int))
theorem TupsH.tups {K : PySem.W.Frag} {H : Hp} {a : Addr} {ps : List (List Int)} (h : TupsH H a ps) : Tups K H a ps :=
  let ⟨ks, h1, h2, h3⟩ := h; ⟨ks, h1, tupNew h2, fun p hp => tupNew (h3 p hp)⟩
theorem TupsH.same {H H' : Hp} {a : Addr} {ps : List (List Int)} (h : TupsH H a ps) (e : Same H H') : TupsH H' a ps :=
  let ⟨ks, h1, h2, h3⟩ := h; ⟨ks, h1, e _ _ h2, fun p hp => e _ _ (h3 p hp)⟩
theorem TupsH.but {H H' : Hp} {p a : Addr} {t : Nat} {ps : List (List Int)} (h : TupsH H a ps) (hp : PailAt H p t) (b : But p H H') : TupsH H' a ps := by
  obtain ⟨ks, h1, h2, h3⟩ := h
  obtain ⟨x, y, e, _⟩ := hp
  exact ⟨ks, h1, b _ _ h2 fun z => (by rw [z, e] at h2; cases h2), fun q hq => b _ _ (h3 q hq) fun z => (by have h := h3 q hq; rw [z, e] at h; cases h)⟩
/-- steps drawn so far -/
structure Part (ns : List Int) (ps : List (List Int)) : Prop where
  nd : ps.Nodup
  pr : ∀ p ∈ ps, Pr (ns.length : Int) p
  mi : ∀ x y mx my : Int, [x, y] ∈ ps → ns[x.toNat]? = some mx → ns[y.toNat]? = some my → [my, mx] ∈ ps
theorem Part.nil (ns : List Int) : Part ns [] := ⟨List.nodup_nil, (fun _ h => nomatch h), fun _ _ _ _ h => nomatch h⟩
theorem Part.add {ns : List Int} {ps : List (List Int)} {x y mx my : Int} (M : Mir ns) (h : Part ns ps) (hx : 0 ≤ x ∧ x < (ns.length : Int)) (hy : 0 ≤ y ∧ y < (ns.length : Int)) (ex : ns[x.toNat]? = some mx) (ey : ns[y.toNat]? = some my) :
    Part ns (addP (addP ps [x, y]) [my, mx]) := by
  have bx := M.back _ _ ex
  have bY := M.back _ _ ey
  have ix := M.inn mx (List.mem_of_getElem? ex)
  have iy := M.inn my (List.mem_of_getElem? ey)
  refine ⟨nd_addP (nd_addP h.nd), fun p hp => ?_, fun a b ma mb hab ha hb => ?_⟩
  · rcases mem_addP.mp hp with z | rfl
    · rcases mem_addP.mp z with z | rfl
      · exact h.pr p z
      · exact ⟨x, y, rfl, hx, hy⟩
    · exact ⟨my, mx, rfl, iy, ix⟩
  · rw [mem_addP, mem_addP] at hab ⊢
    rcases hab with (z | z) | z
    · exact .inl (.inl (h.mi a b ma mb z ha hb))
    · injection z with z1 z2
      injection z2 with z2 _
      subst z1 z2
      rw [ex] at ha
      rw [ey] at hb
      cases ha
      cases hb
      exact .inr rfl
    · injection z with z1 z2
      injection z2 with z2 _
      subst z1 z2
      rw [bY] at ha
      rw [bx] at hb
      cases ha
      cases hb
      refine .inl (.inr ?_)
      rw [show ((x.toNat : Nat) : Int) = x by omega, show ((y.toNat : Nat) : Int) = y by omega]
theorem Part.len {ns : List Int} {ps : List (List Int)} (h : Part ns ps) (M : Mir ns) : ps.length ≤ 64 := by
  have := nodup_le (us := gridOf 0 (fun _ _ => true) ns.length ns.length) h.nd fun p hp => by
    obtain ⟨x, y, rfl, hx, hy⟩ := h.pr p hp
    refine mem_grid.mpr ⟨x.toNat, y.toNat, by omega, by omega, rfl, ?_⟩
    rw [show (0 + ((x.toNat : Nat) : Int)) = x by omega, show (0 + ((y.toNat : Nat) : Int)) = y by omega]
  have g := grid_len 0 (fun _ _ => true) ns.length ns.length
  have m8 : ns.length * ns.length ≤ 8 * 8 := Nat.mul_le_mul M.few M.few
  omega
theorem le_of_two {p q : List Int} (hp : Pr 64 p) (hq : Pr 64 q) (h : SrtO.lexB (two q) (two p) = false) : cd p ≤ cd q := by
  obtain ⟨x, y, rfl, hx, hy⟩ := hp
  obtain ⟨x', y', rfl, hx', hy'⟩ := hq
  have z := SrtO.lexB_no.mp h
  have z' : ¬ (x' < x ∨ (x' = x ∧ y' < y)) := z
  rw [cd_pair, cd_pair]; omega
/-- sorted, they are a rule's steps -/
theorem Part.stp {ns : List Int} {ps : List (List Int)} {L : List (Addr × List Int)} (M : Mir ns) (h : Part ns ps) (pm : (L.map (·.2)).Perm ps) (pw : L.Pairwise fun a b => SrtO.lexB (two b.2) (two a.2) = false) : Stp ns (L.map (·.2)) := by
  have h8 := M.few
  have pr : ∀ p ∈ L.map (·.2), Pr (ns.length : Int) p := fun p hp => h.pr p (pm.mem_iff.mp hp)
  have pr64 : ∀ p ∈ L.map (·.2), Pr 64 p := fun p hp => (pr p hp).mono (by omega)
  have le : (L.map (·.2)).Pairwise fun p q => cd p ≤ cd q := by
    rw [List.pairwise_map]
    exact List.Pairwise.imp_of_mem (fun {a b} ha hb z => le_of_two (pr64 _ (List.mem_map_of_mem ha)) (pr64 _ (List.mem_map_of_mem hb)) z) pw
  refine ⟨by rw [pm.length_eq]; exact h.len M, fun p hp => pr p hp, adj_rise pr64 (sorted_lt pr64 (pm.nodup_iff.mpr h.nd) le), fun x y mx my hxy hx hy => ?_, pm.nodup_iff.mpr h.nd⟩
  exact pm.mem_iff.mpr (h.mi x y mx my (pm.mem_iff.mp hxy) hx hy)
end K20
set_option maxHeartbeats 4000000
/-! dict(xs), xs a list of pairs (pair of ints, True) -/
namespace RV
open PySem PySem.Spec PyProof.Rows L2
/-- the dict that comes of these keys, one behind the other -/
def dictOfP (acc : List (List L2.Key × V)) (ps : List (List Int)) : List (List L2.Key × V) := ps.foldl (fun a p => putK a (keyP p) (.bl true)) acc
def addK (ps : List (List Int)) (p : List Int) : List (List Int) := if p ∈ ps then ps else ps ++ [p]
section
variable {X : Cx}
def rDictPT : List V → Hp → VK → Prop := fun xs H Q => ∃ (l : Addr) (qs : List (Addr × Addr × List Int)), xs = [.ref l] ∧ H l = some (.lst ((qs.map (·.1)).map V.ref)) ∧ (∀ q ∈ qs, H q.1 = some (.tup [.ref q.2.1, .bl true]) ∧ H q.2.1 = some (.tup (q.2.2.map V.int))) ∧ qs.length ≤ 1000 ∧
  ∀ d, H d = none → Q (.ref d) (upd H d (.dT (dictOfP [] (qs.map (·.2.2)))))
theorem kt_all {H : Hp} : ∀ (qs : List (Addr × Addr × List Int)) {kvs : List (List L2.Key × V)} {xs : List (List L2.Key × Addr × Value)}, KT H kvs xs → (∀ q ∈ qs, H q.2.1 = some (.tup (q.2.2.map V.int))) →
    KT H (dictOfP kvs (qs.map (·.2.2))) (storedAllH xs (qs.map fun q => (keyP q.2.2, q.2.1, Value.bool true)))
  | [], _, _, r, _ => r
  | q :: qs, kvs, xs, r, h => by
    have h1 : H q.2.1 = some (.tup ((keyP q.2.2).map kV)) := by rw [kV_keyP]; exact h q (List.mem_cons_self ..)
    exact kt_all qs (r.put (keyP q.2.2) (y := .bl true) h1 rfl) fun z hz => h z (List.mem_cons_of_mem _ hz)
theorem len_dictOfP : ∀ (ps : List (List Int)) (acc : List (List L2.Key × V)), (dictOfP acc ps).length ≤ acc.length + ps.length
  | [], acc => Nat.le_refl _
  | p :: ps, acc => by
    have h := len_dictOfP ps (putK acc (keyP p) (.bl true))
    have h2 := length_putK acc (keyP p) (.bl true)
    show (dictOfP (putK acc (keyP p) (.bl true)) ps).length ≤ _
    rw [List.length_cons]; omega
theorem cr_dictPT (hc : X.calm = true) (hu : X.A.units + 65 < cLine) : CallR X (.type "dict") rDictPT := by
  intro pins s σ H xs us Q I r h
  obtain ⟨l, qs, rfl, hl, hq, hlen, q⟩ := h
  obtain ⟨u, rfl, rx⟩ := vals1 r
  cases rx
  obtain ⟨its, rv, pl, hz⟩ := I.list (show SqL X.K H l _ from .inl (.inl hl))
  have ei := refs_at rv
  subst ei
  obtain ⟨o, n, ho, hco, hdo, hdat⟩ := pl
  have at_ : ∀ (j : Nat) (z : Addr × Addr × List Int), qs[j]? = some z → ((qs.map (·.1)).map Value.ref).toArray[j]? = some (.ref z.1) := fun j z e => by
    simp [e]
  let Ts : Nat → Addr := fun j => (qs.map (·.1)).getD j 0
  have hTs : ∀ (j : Nat) (z : Addr × Addr × List Int), qs[j]? = some z → Ts j = z.1 := fun j z e => by
    show (qs.map (·.1)).getD j 0 = z.1
    rw [List.getD_eq_getElem?_getD, List.getElem?_map, e]; rfl
  let prs : List (Value × Value) := qs.map fun z => (Value.ref z.2.1, Value.bool true)
  have hprs : ∀ (j : Nat) (k v : Value), prs[j]? = some (k, v) → ∃ z, qs[j]? = some z ∧ k = .ref z.2.1 ∧ v = .bool true := fun j k v e => by
    have e' : (qs.map fun z => (Value.ref z.2.1, Value.bool true))[j]? = some (k, v) := e
    rw [List.getElem?_map] at e'
    cases ez : qs[j]? with
    | none => rw [ez] at e'; cases e'
    | some z =>
      rw [ez] at e'
      have e2 : (Value.ref z.2.1, Value.bool true) = (k, v) := Option.some.inj e'
      injection e2 with e3 e4
      exact ⟨z, rfl, e3.symm, e4.symm⟩
  have items : PairItems s.heap ((qs.map (·.1)).map Value.ref).toArray Ts prs := by
    refine ⟨by show _ = (qs.map _).length; simp, fun j k v e => ?_⟩
    obtain ⟨z, ez, rfl, rfl⟩ := hprs j k v e
    rw [hTs j z ez]
    refine ⟨at_ j z ez, .inl ?_⟩
    obtain ⟨its2, r2, p2, _⟩ := I.tuple (show SqT X.K H z.1 _ from .inl (.inl (hq z (List.mem_of_getElem? ez)).1))
    obtain ⟨u1, u2, rfl, ra, rb⟩ := vals2 r2
    cases ra
    cases rb
    exact p2
  have room : (tupleKind (mixKind X.prog X.w)).room X.A.in1.in1 := tupleKind_room_in1 (A := X.A.in1) (by show X.A.units + 1 + 1 < cLine; omega)
  have keys : ∀ z ∈ qs, (tupleKind (mixKind X.prog X.w)).is s.heap (keyP z.2.2) z.2.1 := fun z hz => key_of I.hok (by rw [kV_keyP]; exact (hq z hz).2)
  refine call_dict_pairsH (knd := tupleKind (mixKind X.prog X.w)) (ps := qs.map fun z => (keyP z.2.2, z.2.1, Value.bool true)) (PairArg.list l _ Ts prs) (I.ok.hd hc) room ⟨⟨o, n, ho, hco, hdo, hdat⟩, items⟩ ⟨?_, fun j k v e => ?_⟩ (fun h' hk x hx => ?_) ?_ fun h' tk hd' kp => ?_
  · show (qs.map _).length = (qs.map _).length
    rw [List.length_map, List.length_map]
  · obtain ⟨z, ez, rfl, rfl⟩ := hprs j k v e
    exact ⟨keyP z.2.2, z.2.1, by rw [List.getElem?_map, ez]; rfl, rfl⟩
  · obtain ⟨z, hz1, rfl⟩ := List.mem_map.mp hx
    obtain ⟨o1, i1, n1, g1, g2, g3, g4⟩ := keys z hz1
    exact ⟨o1, i1, n1, hk _ _ (Nat.ne_of_lt (Heap.lt_size g1)) (by simp) g1, g2, g3, g4⟩
  · show (qs.map _).length ≤ sizeLine
    rw [List.length_map]; exact Nat.le_of_lt (small1000 hlen)
  · have hm : (s.heap.objs.size == sysModules) = false := beq_eq_false_iff_ne.mpr (Nat.ne_of_gt I.big)
    have nf : H s.heap.objs.size = none := I.hok.fresh (Nat.le_refl _)
    have rel := kt_all (H := H) qs (kvs := []) (xs := []) .nil fun z hz => (hq z hz).2
    have hl2 : (dictOfP [] (qs.map (·.2.2))).length ≤ sizeLine := by
      have := len_dictOfP (qs.map (·.2.2)) []
      rw [List.length_map, List.length_nil] at this
      exact Nat.le_trans this (by rw [Nat.zero_add]; exact Nat.le_of_lt (small1000 hlen))
    obtain ⟨q1, es, ep, w1, w2, w3, w4, _, w5⟩ := hd'
    refine ⟨.ref s.heap.objs.size, upd H s.heap.objs.size (.dT (dictOfP [] (qs.map (·.2.2)))), I.laid (t' := tk) (fun b u e => kp b u (by simp) e) (Nat.le_refl _) ⟨hl2, hm, _, rel.keeps fun c ys ec => ?_, q1, es, ep, w1, w2, w3, w4, w5⟩, rfl, q _ nf⟩
    rw [upd_ne (ne_of_none ec nf)]; exact ec
end
end RV
namespace K20
open PySem PySem.Spec PyProof.Rows L2 RV
/-! ### a dict of a list of pairs, by its keys -/
def addAll (ps : List (List Int)) : List (List Int) := ps.foldl addP []
theorem dict_keys : ∀ (ps : List (List Int)) {kvs : List (List L2.Key × V)} {qs : List (List Int)}, kvs.map (·.1) = qs.map keyP → (dictOfP kvs ps).map (·.1) = (ps.foldl addP qs).map keyP
  | [], _, _, h => h
  | p :: ps, kvs, qs, h => dict_keys ps (kvs := putK kvs (keyP p) (.bl true)) (qs := addP qs p) (put_keys h)
theorem mem_fold {q : List Int} : ∀ (ps qs : List (List Int)), q ∈ ps.foldl addP qs ↔ q ∈ qs ∨ q ∈ ps
  | [], qs => by simp
  | p :: ps, qs => by
    show q ∈ ps.foldl addP (addP qs p) ↔ _
    rw [mem_fold ps, mem_addP, List.mem_cons]
    constructor
    · rintro ((h | h) | h)
      · exact .inl h
      · exact .inr (.inl h)
      · exact .inr (.inr h)
    · rintro (h | h | h)
      · exact .inl (.inl h)
      · exact .inl (.inr h)
      · exact .inr h
theorem nd_fold : ∀ (ps qs : List (List Int)), qs.Nodup → (ps.foldl addP qs).Nodup
  | [], _, h => h
  | _ :: ps, _, h => nd_fold ps _ (nd_addP h)
theorem mem_all {q : List Int} {ps : List (List Int)} : q ∈ addAll ps ↔ q ∈ ps := by
  unfold addAll
  rw [mem_fold]; simp
/-- steps of which some are left -/
theorem part_of {ns : List Int} {ps : List (List Int)} (pr : ∀ p ∈ ps, Pr (ns.length : Int) p) (mi : ∀ x y mx my : Int, [x, y] ∈ ps → ns[x.toNat]? = some mx → ns[y.toNat]? = some my → [my, mx] ∈ ps) : Part ns (addAll ps) :=
  ⟨nd_fold ps [] List.nodup_nil, fun p hp => pr p (mem_all.mp hp), fun x y mx my h e1 e2 => mem_all.mpr (mi x y mx my (mem_all.mp h) e1 e2)⟩
theorem part_all {ns : List Int} {ps : List (List Int)} (S : Stp ns ps) : Part ns (addAll ps) := part_of S.pair S.mirr
theorem part_without {ns : List Int} {ps : List (List Int)} {g1 g2 m1 m2 : Int} (M : Mir ns) (S : Stp ns ps) (hg : [g1, g2] ∈ ps) (e1 : ns[g1.toNat]? = some m1) (e2 : ns[g2.toNat]? = some m2) : Part ns (addAll (ps.filter fun p => decide (p ∉ [[g1, g2], [m2, m1]]))) := by
  refine part_of (fun p hp => S.pair p (List.mem_filter.mp hp).1) fun x y mx my h ex ey => ?_
  obtain ⟨h1, h2⟩ := List.mem_filter.mp h
  have h2 := of_decide_eq_true h2
  refine List.mem_filter.mpr ⟨S.mirr x y mx my h1 ex ey, decide_eq_true fun z => h2 ?_⟩
  obtain ⟨x', y', exy, hx, hy⟩ := S.pair _ h1
  injection exy with exx exy
  injection exy with exy _
  subst exx exy
  obtain ⟨a', b', eab, ha, hb⟩ := S.pair _ hg
  injection eab with eaa eab
  injection eab with eab _
  subst eaa eab
  have bx := M.back _ _ ex
  have bY := M.back _ _ ey
  have b1 := M.back _ _ e1
  have b2 := M.back _ _ e2
  rcases List.mem_cons.mp z with z | z
  · injection z with z1 z2
    injection z2 with z2 _
    subst z1 z2
    rw [e1] at bY
    rw [e2] at bx
    have y1 := Option.some.inj bY
    have x1 := Option.some.inj bx
    refine List.mem_cons_of_mem _ (List.mem_cons.mpr (.inl ?_))
    rw [y1, x1, Int.toNat_of_nonneg hx.1, Int.toNat_of_nonneg hy.1]
  · have z := List.mem_singleton.mp z
    injection z with z1 z2
    injection z2 with z2 _
    subst z1 z2
    rw [b2] at bY
    rw [b1] at bx
    have y1 := Option.some.inj bY
    have x1 := Option.some.inj bx
    refine List.mem_cons.mpr (.inl ?_)
    rw [show x = g1 by omega, show y = g2 by omega]
theorem mir_more {ns : List Int} (M : Mir ns) (h : ns.length < 8) : Mir (ns ++ [(ns.length : Int)]) := by
  have hl : (ns ++ [(ns.length : Int)]).length = ns.length + 1 := by rw [List.length_append]; rfl
  refine ⟨by omega, by omega, fun i hi => ?_, fun k m hk => ?_⟩
  · rw [hl]
    rcases List.mem_append.mp hi with z | z
    · have := M.inn i z; omega
    · have := List.mem_singleton.mp z; omega
  · by_cases e : k < ns.length
    · rw [List.getElem?_append_left e] at hk
      have b := M.back k m hk
      have i := M.inn m (List.mem_of_getElem? hk)
      rw [List.getElem?_append_left (by omega)]; exact b
    · have hk2 := (List.getElem?_eq_some_iff.mp hk).1
      have ek : k = ns.length := by omega
      subst ek
      rw [List.getElem?_append_right (Nat.le_refl _), Nat.sub_self] at hk
      have em : (ns.length : Int) = m := Option.some.inj hk
      subst em
      rw [Int.toNat_natCast, List.getElem?_append_right (Nat.le_refl _), Nat.sub_self]; rfl
theorem part_more {ns : List Int} {ps : List (List Int)} (h : Part ns ps) : Part (ns ++ [(ns.length : Int)]) ps := by
  have hl : (ns ++ [(ns.length : Int)]).length = ns.length + 1 := by rw [List.length_append]; rfl
  refine ⟨h.nd, fun p hp => (h.pr p hp).mono (by omega), fun x y mx my hxy ex ey => ?_⟩
  obtain ⟨a, b, e, ha, hb⟩ := h.pr _ hxy
  injection e with e1 e2
  injection e2 with e2 _
  subst e1 e2
  rw [List.getElem?_append_left (by omega)] at ex ey
  exact h.mi x y mx my hxy ex ey
theorem mir_range {n : Nat} (h1 : 0 < n) (h8 : n ≤ 8) : Mir (rgI 0 (n : Int)) := by
  have h := half_start n
  refine ⟨by rw [h.len]; exact h1, by rw [h.len]; exact h8, fun i hi => ?_, h.back⟩
  rw [h.len]; exact h.lin i hi
theorem part_both {n : Nat} {ns : List Int} {ps : List (List Int)} (S : Stp ns ps) (hn : ns.length ≤ n) : Part (rgI 0 (n : Int)) (addAll (ps.filter fun p => decide (p.reverse ∈ ps))) := by
  have hl : (rgI 0 (n : Int)).length = n := (half_start n).len
  refine part_of (fun p hp => ?_) fun x y mx my h ex ey => ?_
  · obtain ⟨x, y, e, hx, hy⟩ := S.pair p (List.mem_filter.mp hp).1
    exact ⟨x, y, e, by omega, by omega⟩
  · obtain ⟨h1, h2⟩ := List.mem_filter.mp h
    have h2 : [y, x] ∈ ps := of_decide_eq_true h2
    obtain ⟨a, b, e, ha, hb⟩ := S.pair _ h1
    injection e with e1 e2
    injection e2 with e2 _
    subst e1 e2
    rw [rgI_get] at ex ey
    have e1 : mx = x := by omega
    have e2 : my = y := by omega
    subst e1 e2
    exact List.mem_filter.mpr ⟨h2, decide_eq_true h1⟩
/-! ### the list of pairs (step, True) -/
def Bagged (H : Hp) (D : Addr) (ks : List (Addr × List Int)) : Prop := ∃ qs : List (Addr × Addr × List Int), qs.map (·.2) = ks ∧ H D = some (.lst ((qs.map (·.1)).map V.ref)) ∧ ∀ q ∈ qs, H q.1 = some (.tup [.ref q.2.1, .bl true])
theorem Bagged.nil {H : Hp} {D : Addr} : Bagged (upd H D (.lst [])) D [] := ⟨[], rfl, upd_same, fun _ h => nomatch h⟩
theorem Bagged.add {H : Hp} {D T : Addr} {ks : List (Addr × List Int)} {k : Addr × List Int} {acc : List V} (h : Bagged H D ks) (nT : H T = none) (ha : H D = some (.lst acc)) :
    Bagged (upd (upd H T (.tup [.ref k.1, .bl true])) D (.lst (acc ++ [.ref T]))) D (ks ++ [k]) := by
  obtain ⟨qs, h1, h2, h3⟩ := h
  rw [h2] at ha
  have ea : (qs.map (·.1)).map V.ref = acc := by
    have z := Option.some.inj ha
    injection z
  have hDT : T ≠ D := (ne_of_none h2 nT).symm
  refine ⟨qs ++ [(T, k)], by rw [List.map_append, h1]; rfl, by rw [upd_same, ← ea, List.map_append, List.map_append]; rfl, fun q hq => ?_⟩
  rcases List.mem_append.mp hq with z | z
  · have z1 := h3 q z
    rw [upd_ne (fun e => by rw [e, h2] at z1; cases z1), upd_ne (ne_of_none z1 nT)]; exact z1
  · have z := List.mem_singleton.mp z
    subst z
    rw [upd_ne hDT, upd_same]
theorem Bagged.len {H : Hp} {D : Addr} {ks : List (Addr × List Int)} {acc : List V} (h : Bagged H D ks) (ha : H D = some (.lst acc)) : acc.length = ks.length := by
  obtain ⟨qs, h1, h2, h3⟩ := h
  rw [h2] at ha
  have ea : (qs.map (·.1)).map V.ref = acc := by
    have z := Option.some.inj ha
    injection z
  rw [← ea, ← h1]; simp
theorem Bagged.list {H : Hp} {D : Addr} {ks : List (Addr × List Int)} (h : Bagged H D ks) : ∃ acc, H D = some (.lst acc) := by
  obtain ⟨qs, h1, h2, h3⟩ := h
  exact ⟨_, h2⟩
theorem take_filter_next {α : Type} {c : α → Bool} {ks : List α} {k : α} {i : Nat} (g : ks[i]? = some k) : (ks.take (i + 1)).filter c = (ks.take i).filter c ++ (if c k = true then [k] else []) := by
  rw [List.take_add_one, g]
  show (ks.take i ++ [k]).filter c = _
  rw [List.filter_append]
  by_cases e : c k = true
  · rw [if_pos e]; simp [e]
  · rw [if_neg e]; simp [e]
theorem bag_dict {H : Hp} {D : Addr} {ks : List (Addr × List Int)} {R : List (Addr × Addr × List Int) → Addr → Prop} (h : Bagged H D ks) (hk : ∀ k ∈ ks, H k.1 = some (.tup (k.2.map V.int))) (hl : ks.length ≤ 1000)
    (q : ∀ qs d, qs.map (·.2.2) = ks.map (·.2) → H d = none → R qs d) : ∃ (l : Addr) (qs : List (Addr × Addr × List Int)), [V.ref D] = [V.ref l] ∧ H l = some (.lst ((qs.map (·.1)).map V.ref)) ∧ (∀ q ∈ qs, H q.1 = some (.tup [.ref q.2.1, .bl true]) ∧ H q.2.1 = some (.tup (q.2.2.map V.int))) ∧ qs.length ≤ 1000 ∧
      ∀ d, H d = none → R qs d := by
  obtain ⟨qs, h1, h2, h3⟩ := h
  refine ⟨D, qs, rfl, h2, fun z hz => ⟨h3 z hz, hk z.2 (by rw [← h1]; exact List.mem_map_of_mem hz)⟩, by rw [← h1, List.length_map] at hl; exact hl, fun d nd => q qs d ?_ nd⟩
  rw [← h1, List.map_map]; rfl
theorem filt_map {f : List Int → Bool} (ks : List (Addr × List Int)) : (ks.filter fun k => f k.2).map (·.2) = (ks.map (·.2)).filter f := by
  rw [List.filter_map]; rfl
end K20
set_option maxHeartbeats 4000000
namespace K20
open PySem PySem.Spec PyProof.Rows L2 RV
section
variable {P : Program} {w : World} {K : PySem.W.Frag} {mg : Str → Option Value} {base : Heap}
/-! ### is_step -/
theorem scStep : FnScope ["thing", "many"] ["thing", "many"] (defScope sStep) := ⟨rfl, rfl, rfl, by decide +kernel, rfl, by decide +kernel, by decide +kernel⟩
def spStep (K : PySem.W.Frag) : Sp := fun vs H Q _ => ∃ (a : Addr) (x y n : Int), vs = [.ref a, .int n] ∧ SqT K H a ([x, y].map V.int) ∧ (0 ≤ x ∧ x < n) ∧ (0 ≤ y ∧ y < n) ∧ ∀ H', Same H H' → Q (.bl true) H'
theorem ok_step {f fA : Addr} {fd fdA : FuncData} (F : Fun K "is_step" "is_step" sStep f fd) (DA : DefAt K mg "are_marks" sMarks ["thing", "many"] fA fdA) (GA : FnOk P w K mg base CX0 3 fA fdA ["thing", "many"] (spMarks K)) (B : Bare mg) :
    FnOk P w K mg base CX0 4 f fd ["thing", "many"] (spStep K) := by
  refine F.ok scStep (fun vs H Q E h => ?_) (fun cdv A outer s H vs Q E hr h => ?_)
  · obtain ⟨a, x, y, n, rfl, _⟩ := h
    rfl
  · obtain ⟨a, x, y, n, rfl, hT, hx, hy, q⟩ := h
    refine ⟨_, pss_one (ps_ret (pe_and (pe_call GA hr (by rfl) DA.mg DA.fn.kp DA.bi .nil pass0 (pa_cons (pv 0) (pa_cons (pv 1) pa_nil))) (pe_one (pe_cmpR op_eq (pe_callB call_len_seq (by rfl) B.len PySem.boot_len (pa_cons (pv 0) pa_nil)) pe_int (nomark _))))), ?_⟩
    refine ⟨.ref a, rfl, .int n, rfl, a, [x, y], n, rfl, hT, by simp, by simp, fun i hi => ?_, fun H1 s1 => ⟨true, rfl, iteT ?_⟩⟩
    · simp only [List.mem_cons, List.mem_nil_iff, or_false, List.not_mem_nil] at hi
      rcases hi with rfl | rfl
      · exact hx
      · exact hy
    · refine ⟨.ref a, rfl, a, _, rfl, .inr (sqT_same s1 hT), rfl, ?_⟩
      exact q H1 s1
/-! ### is_rising -/
theorem scRising : FnScope ["pairs", "one", "other"] ["pairs"] (defScope sRising) := ⟨rfl, rfl, rfl, by decide +kernel, rfl, by decide +kernel, by decide +kernel⟩
def spRising (K : PySem.W.Frag) : Sp := fun vs H Q _ => ∃ (a : Addr) (ps : List (List Int)), vs = [.ref a] ∧ Tups K H a ps ∧ ps.length ≤ 1000 ∧ (∀ (i : Nat) (p q : List Int), ps[i]? = some p → ps[i + 1]? = some q → HT.lexLt p q = true) ∧ ∀ H', Same H H' → Q (.bl true) H'
theorem cut1 (xs : List V) : cutV xs (some 1) none = xs.drop 1 := by
  unfold cutV
  rw [show HT.sIx xs.length 0 (some 1) = min 1 xs.length from HT.sIx_nat xs.length 0 1, HT.sIx_none]
  cases xs with
  | nil => rfl
  | cons x r =>
    rw [show min 1 (x :: r).length = 1 by rw [List.length_cons]; omega]
    show (List.take ((x :: r).length - 1) r) = r
    rw [List.length_cons, Nat.add_sub_cancel]
    exact List.take_length
theorem ok_rising {f : Addr} {fd : FuncData} (F : Fun K "is_rising" "is_rising" sRising f fd) (B : Bare mg) : FnOk P w K mg base CX0 1 f fd ["pairs"] (spRising K) := by
  refine F.ok scRising (fun vs H Q E h => ?_) (fun cdv A outer s H vs Q E hr h => ?_)
  · obtain ⟨a, ps, rfl, _⟩ := h
    rfl
  · obtain ⟨a, ps, rfl, hTT, hl, hrise, q⟩ := h
    obtain ⟨ks, rfl, hT, hks⟩ := hTT
    refine ⟨_, pss_one (ps_ret (pe_callB (cr_all rfl) (by rfl) B.all (by decide +kernel) (pa_cons
        (pe_lc (own := [("one", 1), ("other", 2)]) (g := gTup K 2 (gCons (gName 1) (gCons (gName 2) gNil))) (tt := tYes) rfl scRising.nd (RZ.pi_zipA (by rfl) B.zip (pa_cons (pv 0) (pa_cons (pe_slice sl_tupA (pv 0) (po_some pe_int) po_none) pa_nil))) (blkOk_by (N := ["pairs", "one", "other"]) (sc := defScope sRising) (by decide +kernel))
          (fun _ _ _ _ _ => pg_tupK rfl rfl (pgs_cons (pg_name (i := 1) scRising.nd rfl (Or.inl rfl)) (pgs_cons (pg_name (i := 2) scRising.nd rfl (Or.inl rfl)) pgs_nil))) (fun _ _ _ _ _ => pts_nil)
          (fun _ _ _ _ _ => pe_cmpR (op_ltTK (K := K) rfl hr.units0) (pv 1) (pv 2) (nomark _))) pa_nil))), ?_⟩
    have go : ∀ (b : Addr) (H1 : Hp) (Qc : VK), Same H H1 → SqT K H1 b ((ks.map fun p => V.ref p.1).drop 1) → (∀ D H', Same H1 H' → H' D = some (.lst (List.replicate (ks.length - 1) (V.bl true))) → Qc (.ref D) H') →
        tLc (fun _ H2 R => R (RZ.ItzT K a b) H2) (gTup K 2 (gCons (gName 1) (gCons (gName 2) gNil))) tYes (tOp (rLtT K) (tVar 1) (tVar 2)) [1, 2] (start ["pairs", "one", "other"] [.ref a]) H1 Qc := by
      intro b H1 Qc s1 hb fin D nD
      refine lc_it (walk_zipT (K := K) (a := a) (b := b) (xs := ks.map fun p => V.ref p.1) (ys := (ks.map fun p => V.ref p.1).drop 1) (n := ks.length - 1) (by rw [List.length_drop, List.length_map]; omega))
        (fun i H' => Same H1 H' ∧ H' D = some (.lst (List.replicate i (V.bl true)))) ⟨same_upd nD, upd_same⟩ (fun i H' _ p => ⟨sqT_same p.1 (sqT_same s1 hT), sqT_same p.1 hb⟩) (fun i x H2 H3 hi p y => ?_) fun H' p => fin D H' p.1 p.2
      obtain ⟨T, x1, x2, rfl, nT, rfl, e1, e2⟩ := y
      have e3 : ((ks.map fun p => V.ref p.1).drop 1)[i]? = some x2 := e2
      rw [List.getElem?_drop] at e3
      obtain ⟨k1, g1, rfl⟩ := map_at e1
      obtain ⟨k2, g2, rfl⟩ := map_at e3
      have sT : Same H2 (upd H2 T (.tup [V.ref k1.1, V.ref k2.1])) := same_upd nT
      have sA : Same H (upd H2 T (.tup [V.ref k1.1, V.ref k2.1])) := (s1.trans p.1).trans sT
      have lt : HT.lexLt k1.2 k2.2 = true := by
        refine hrise i k1.2 k2.2 ?_ ?_
        · rw [List.getElem?_map, g1]; rfl
        · rw [Nat.add_comm, List.getElem?_map, g2]; rfl
      refine ⟨T, _, rfl, tupNew upd_same, rfl, _, _, rfl, _, _, rfl, rfl, rfl, tt_yes ⟨.ref k1.1, rfl, .ref k2.1, rfl, k1.1, k2.1, k1.2, k2.2, rfl, rfl, sqT_same sA (hks k1 (List.mem_of_getElem? g1)), sqT_same sA (hks k2 (List.mem_of_getElem? g2)), _, sT _ _ p.2, ?_, ?_, ?_⟩⟩
      · rw [List.length_replicate]; rw [List.length_map] at hl; exact few1 (by omega)
      · exact fun b o e => by rw [upd_ne (ne_of_none e nD)]; exact sT b o (p.1 b o e)
      · rw [upd_same, lt, rep_next]
    have fin : ∀ (H1 : Hp), Same H H1 → ∀ D H', Same H1 H' → H' D = some (.lst (List.replicate (ks.length - 1) (V.bl true))) → ∃ (a : Addr) (bs : List Bool), [V.ref D] = [V.ref a] ∧ SqL K H' a (bs.map V.bl) ∧ Q (.bl (bs.all id)) H' := by
      intro H1 s1 D H' s2 e
      refine ⟨D, List.replicate (ks.length - 1) true, rfl, lstNew (by rw [e, rep_bl]), ?_⟩
      rw [all_true]
      exact q H' (s1.trans s2)
    refine ⟨.ref a, rfl, .ref a, rfl, 1, rfl, a, _, rfl, hT, fun hw => ?_, fun hw c nc => ?_⟩
    · have e0 : ks.map (fun p => V.ref p.1) = [] := by
        cases hk : ks.map (fun p => V.ref p.1) with
        | nil => rfl
        | cons x r =>
          rw [hk] at hw
          have h1 := hw.1
          rw [show HT.sIx (x :: r).length 0 (some 1) = min 1 (x :: r).length from HT.sIx_nat _ 0 1, List.length_cons] at h1
          omega
      refine ⟨a, a, _, _, rfl, .inr ⟨hT, hT, ?_⟩⟩
      refine go a H (fun v H2 => ∃ (a : Addr) (bs : List Bool), [v] = [V.ref a] ∧ SqL K H2 a (bs.map V.bl) ∧ Q (.bl (bs.all id)) H2) (Same.refl H) ?_ ?_
      · rw [e0]; rw [e0] at hT; exact hT
      · exact fin H (Same.refl H)
    · have s1 : Same H (upd H c (.tup (cutV (ks.map fun p => V.ref p.1) (some 1) none))) := same_upd nc
      refine ⟨a, c, _, _, rfl, .inr ⟨sqT_same s1 hT, tupNew upd_same, ?_⟩⟩
      refine go c _ (fun v H2 => ∃ (a : Addr) (bs : List Bool), [v] = [V.ref a] ∧ SqL K H2 a (bs.map V.bl) ∧ Q (.bl (bs.all id)) H2) s1 ?_ ?_
      · exact tupNew (by rw [upd_same, cut1])
      · exact fin _ s1
end
end K20
set_option maxHeartbeats 4000000
namespace K20
open PySem PySem.Spec PyProof.Rows L2 RV
/-- the marks behind m by the steps ps -/
def behindOf (ps : List (List Int)) (m : Int) : List Int := (ps.filter fun p => decide (p.getD 0 0 = m)).map fun p => p.getD 1 0
section
variable {P : Program} {w : World} {K : PySem.W.Frag} {mg : Str → Option Value} {base : Heap}
/-! ### marks_behind -/
theorem scBehind : FnScope ["steps", "mark", "a", "b"] ["steps", "mark"] (defScope sBehind) := ⟨rfl, rfl, rfl, by decide +kernel, rfl, by decide +kernel, by decide +kernel⟩
def spBehind (K : PySem.W.Frag) : Sp := fun vs H Q _ => ∃ (a : Addr) (ps : List (List Int)) (m : Int), vs = [.ref a, .int m] ∧ Tups K H a ps ∧ ps.length ≤ 1000 ∧ (∀ p ∈ ps, ∃ x y : Int, p = [x, y]) ∧
  ∀ H' t, Same H H' → H t = none → H' t = some (.tup ((behindOf ps m).map V.int)) → Q (.ref t) H'
theorem behind_next {ps : List (List Int)} {m : Int} {i : Nat} {x y : Int} (h : ps[i]? = some [x, y]) : behindOf (ps.take (i + 1)) m = behindOf (ps.take i) m ++ (if x = m then [y] else []) := by
  unfold behindOf
  rw [List.take_add_one, h]
  show List.map _ (List.filter _ (ps.take i ++ [[x, y]])) = _
  rw [List.filter_append, List.map_append]
  by_cases e : x = m
  · simp [e]
  · simp [e]
theorem behind_len (ps : List (List Int)) (m : Int) : (behindOf ps m).length ≤ ps.length := by
  unfold behindOf
  rw [List.length_map]
  exact List.length_filter_le _ _
theorem ok_behind {f : Addr} {fd : FuncData} (F : Fun K "marks_behind" "marks_behind" sBehind f fd) (B : Bare mg) : FnOk P w K mg base CX0 1 f fd ["steps", "mark"] (spBehind K) := by
  refine F.ok scBehind (fun vs H Q E h => ?_) (fun cdv A outer s H vs Q E hr h => ?_)
  · obtain ⟨a, ps, m, rfl, _⟩ := h
    rfl
  · obtain ⟨a, ps, m, rfl, hTT, hl, hp, q⟩ := h
    obtain ⟨ks, rfl, hT, hks⟩ := hTT
    refine ⟨_, pss_one (ps_ret (pe_tupleOf (by rfl) B.tuple
        (pe_lc (own := [("a", 2), ("b", 3)]) (g := gTup K 2 (gCons (gName 2) (gCons (gName 3) gNil))) rfl scBehind.nd (pi_tup (pv 0)) (blkOk_by (N := ["steps", "mark", "a", "b"]) (sc := defScope sBehind) (by decide +kernel))
          (fun _ _ _ _ _ => pg_tupK rfl rfl (pgs_cons (pg_name (i := 2) scBehind.nd rfl (Or.inl rfl)) (pgs_cons (pg_name (i := 3) scBehind.nd rfl (Or.inl rfl)) pgs_nil))) (fun _ _ _ _ _ => pts_one (pt_cmpR op_eq (pv 2) (pv 1) (nomark _)))
          (fun _ _ _ _ _ => pv 3)))), ?_⟩
    refine ⟨.ref a, rfl, a, rfl, ⟨_, hT⟩, fun D nD => ?_⟩
    refine lc_tup (K := K) (a := a) (xs := ks.map fun p => V.ref p.1) (fun i H' => Same H H' ∧ H' D = some (.lst ((behindOf ((ks.map (·.2)).take i) m).map V.int))) ⟨same_upd nD, by rw [upd_same]; rfl⟩ (fun i H' _ p => sqT_same p.1 hT) (fun i x H' hx p => ?_) fun H' p => ?_
    · obtain ⟨k, g, rfl⟩ := map_at hx
      have hk : k ∈ ks := List.mem_of_getElem? g
      obtain ⟨x, y, e⟩ := hp k.2 (List.mem_map_of_mem hk)
      have hkT : SqT K H' k.1 ([x, y].map V.int) := by rw [← e]; exact sqT_same p.1 (hks k hk)
      have gi : (ks.map (·.2))[i]? = some [x, y] := by rw [List.getElem?_map, g, ← e]; rfl
      refine ⟨k.1, _, rfl, hkT, rfl, _, _, rfl, _, _, rfl, rfl, rfl, .int x, rfl, .int m, rfl, rfl, _, rfl, ?_⟩
      have hle := behind_len ((ks.map (·.2)).take i) m
      rw [List.length_take] at hle
      by_cases e : x = m
      · subst e
        rw [decide_eq_true rfl]
        refine iteT ⟨.int y, rfl, _, p.2, ?_, ?_, ?_⟩
        · rw [List.length_map]; exact few1 (by omega)
        · exact fun b o z => by rw [upd_ne (ne_of_none z nD)]; exact p.1 b o z
        · rw [upd_same, behind_next gi, if_pos rfl, List.map_append]; rfl
      · rw [decide_eq_false (fun z => e (V.int.inj z))]
        refine iteF ⟨p.1, ?_⟩
        rw [p.2, behind_next gi, if_neg e, List.append_nil]
    · rw [List.length_map] at p
      have e : (ks.map (·.2)).take ks.length = ks.map (·.2) := List.take_of_length_le (by rw [List.length_map]; exact Nat.le_refl _)
      rw [e] at p
      refine .inl ⟨D, _, rfl, lstNew p.2, fun t nt => ?_⟩
      exact q _ t (p.1.trans (same_upd nt)) (p.1.free nt) upd_same
/-! ### are_steps -/
theorem scSteps : FnScope ["mirrors", "thing", "pair", "a", "b"] ["mirrors", "thing"] (defScope sSteps) := ⟨rfl, rfl, rfl, by decide +kernel, rfl, by decide +kernel, by decide +kernel⟩
def spSteps (K : PySem.W.Frag) : Sp := fun vs H Q _ => ∃ (a b : Addr) (ns : List Int) (ps : List (List Int)), vs = [.ref a, .ref b] ∧ SqT K H a (ns.map V.int) ∧ Tups K H b ps ∧ Mir ns ∧ Stp ns ps ∧ ∀ H', Same H H' → Q (.bl true) H'
theorem ok_steps {f fS fR : Addr} {fd fdS fdR : FuncData} (F : Fun K "are_steps" "are_steps" sSteps f fd) (DS : DefAt K mg "is_step" sStep ["thing", "many"] fS fdS) (GS : FnOk P w K mg base CX0 4 fS fdS ["thing", "many"] (spStep K))
    (DR : DefAt K mg "is_rising" sRising ["pairs"] fR fdR) (B : Bare mg) : FnOk P w K mg base CX0 5 f fd ["mirrors", "thing"] (spSteps K) := by
  have GR : FnOk P w K mg base CX0 1 fR fdR ["pairs"] (spRising K) := ok_rising DR.fn B
  refine F.ok scSteps (fun vs H Q E h => ?_) (fun cdv A outer s H vs Q E hr h => ?_)
  · obtain ⟨a, b, ns, ps, rfl, _⟩ := h
    rfl
  · obtain ⟨a, b, ns, ps, rfl, hA, hTT, hM, hS, q⟩ := h
    have hTT0 := hTT
    obtain ⟨ks, rfl, hT, hks⟩ := hTT
    have h64 := hS.few
    rw [List.length_map] at h64
    refine ⟨_, pss_cons (ps_if (pt_not (pt_val (pe_callB call_isi (by rfl) B.isinstance (by decide +kernel) (pa_cons (pv 1) (pa_cons (pe_bltn (v := .ty "tuple") (by rfl) B.tuple (by decide +kernel) rfl) pa_nil))))) (pss_one (ps_ret pe_bl)) pss_nil)
      (pss_cons (ps_if (pt_not (pt_val (pe_callB (cr_all rfl) (by rfl) B.all (by decide +kernel) (pa_cons
        (pe_lc (own := [("pair", 2)]) (g := gName 2) (tt := tYes) rfl scSteps.nd (pi_tup (pv 1)) (blkOk_by (N := ["mirrors", "thing", "pair", "a", "b"]) (sc := defScope sSteps) (by decide +kernel)) (fun _ _ _ _ _ => pg_name (i := 2) scSteps.nd rfl (Or.inl rfl)) (fun _ _ _ _ _ => pts_nil)
          (fun _ _ _ _ _ => pe_call GS hr (by rfl) DS.mg DS.fn.kp DS.bi .nil pass0 (pa_cons (pv 2) (pa_cons (pe_callB (call_lenK (K := K) rfl) (by rfl) B.len PySem.boot_len (pa_cons (pv 0) pa_nil)) pa_nil)))) pa_nil)))) (pss_one (ps_ret pe_bl)) pss_nil)
      (pss_cons (ps_if (pt_not (pt_val (pe_call GR (hr.mono (by decide)) (by rfl) DR.mg DR.fn.kp DR.bi .nil pass0 (pa_cons (pv 1) pa_nil)))) (pss_one (ps_ret pe_bl)) pss_nil)
      (pss_one (ps_ret (pe_callB (cr_all rfl) (by rfl) B.all (by decide +kernel) (pa_cons
        (pe_lc (own := [("a", 3), ("b", 4)]) (g := gTup K 2 (gCons (gName 3) (gCons (gName 4) gNil))) (tt := tYes) rfl scSteps.nd (pi_tup (pv 1)) (blkOk_by (N := ["mirrors", "thing", "pair", "a", "b"]) (sc := defScope sSteps) (by decide +kernel))
          (fun _ _ _ _ _ => pg_tupK rfl rfl (pgs_cons (pg_name (i := 3) scSteps.nd rfl (Or.inl rfl)) (pgs_cons (pg_name (i := 4) scSteps.nd rfl (Or.inl rfl)) pgs_nil))) (fun _ _ _ _ _ => pts_nil)
          (fun _ _ _ _ _ => pe_cmpR (op_inTsK (K := K) rfl (un65 hr)) (pe_tup (pa_cons (pe_ix (ix_tupK (K := K) rfl) (pv 0) (pv 4) (fun _ _ => rfl)) (pa_cons (pe_ix (ix_tupK (K := K) rfl) (pv 0) (pv 3) (fun _ _ => rfl)) pa_nil))) (pv 1) (by rfl))) pa_nil)))))), ?_⟩
    -- isinstance(thing, tuple)
    refine ⟨.ref b, rfl, .ref b, .ty "tuple", _, _, true, rfl, .ty "tuple", tyT hT, kit_ty (by decide +kernel), true, rfl, iteF ?_⟩
    -- all of them are steps
    refine ⟨.ref b, rfl, b, rfl, ⟨_, hT⟩, fun D nD => ?_⟩
    refine lc_tup (K := K) (a := b) (xs := ks.map fun p => V.ref p.1) (fun i H' => Same H H' ∧ H' D = some (.lst (List.replicate i (V.bl true)))) ⟨same_upd nD, upd_same⟩ (fun i H' _ p => sqT_same p.1 hT) (fun i x H' hx p => ?_) fun H1 p => ?_
    · obtain ⟨k, g, rfl⟩ := map_at hx
      have hk : k ∈ ks := List.mem_of_getElem? g
      have hi : i < ks.length := (List.getElem?_eq_some_iff.mp g).1
      obtain ⟨x, y, e, hx1, hy1⟩ := hS.pair k.2 (List.mem_map_of_mem hk)
      have hkT : SqT K H' k.1 ([x, y].map V.int) := by rw [← e]; exact sqT_same p.1 (hks k hk)
      refine ⟨rfl, tt_yes ⟨.ref k.1, rfl, .ref a, rfl, a, _, rfl, .inr (sqT_same p.1 hA), k.1, x, y, _, rfl, hkT, ?_, ?_, fun H2 s2 => ⟨_, s2 _ _ p.2, ?_, ?_, ?_⟩⟩⟩
      · rw [List.length_map]; exact hx1
      · rw [List.length_map]; exact hy1
      · rw [List.length_replicate]; exact few1 (by omega)
      · exact fun c o z => by rw [upd_ne (ne_of_none z nD)]; exact s2 c o (p.1 c o z)
      · rw [upd_same, rep_next]
    · rw [rep_bl] at p
      refine ⟨D, _, rfl, lstNew p.2, ?_⟩
      rw [all_true]
      refine ⟨true, rfl, iteF ?_⟩
      -- they rise
      refine ⟨.ref b, rfl, b, _, rfl, hTT0.same p.1, by rw [List.length_map]; omega, hS.rise, fun H2 s2 => ⟨true, rfl, iteF ?_⟩⟩
      have s02 : Same H H2 := p.1.trans s2
      -- their mirror steps
      refine ⟨.ref b, rfl, b, rfl, ⟨_, sqT_same s02 hT⟩, fun D2 nD2 => ?_⟩
      refine lc_tup (K := K) (a := b) (xs := ks.map fun p => V.ref p.1) (fun i H' => Same H2 H' ∧ H' D2 = some (.lst (List.replicate i (V.bl true)))) ⟨same_upd nD2, upd_same⟩ (fun i H' _ p => sqT_same p.1 (sqT_same s02 hT)) (fun i x H' hx p => ?_) fun H3 p => ?_
      · obtain ⟨k, g, rfl⟩ := map_at hx
        have hk : k ∈ ks := List.mem_of_getElem? g
        have hi : i < ks.length := (List.getElem?_eq_some_iff.mp g).1
        obtain ⟨x, y, e, hx1, hy1⟩ := hS.pair k.2 (List.mem_map_of_mem hk)
        have s0' : Same H H' := s02.trans p.1
        have hkT : SqT K H' k.1 ([x, y].map V.int) := by rw [← e]; exact sqT_same s0' (hks k hk)
        obtain ⟨mx, gx⟩ : ∃ mx, ns[x.toNat]? = some mx := ⟨_, List.getElem?_eq_getElem (by omega)⟩
        obtain ⟨my, gy⟩ : ∃ my, ns[y.toNat]? = some my := ⟨_, List.getElem?_eq_getElem (by omega)⟩
        have hin : [my, mx] ∈ ks.map (·.2) := hS.mirr x y mx my (by rw [← e]; exact List.mem_map_of_mem hk) gx gy
        have ax : atI (ns.map V.int) x = some (.int mx) := by
          rw [show x = ((x.toNat : Nat) : Int) by omega]; exact atI_nat (by rw [List.getElem?_map, gx]; rfl)
        have ay : atI (ns.map V.int) y = some (.int my) := by
          rw [show y = ((y.toNat : Nat) : Int) by omega]; exact atI_nat (by rw [List.getElem?_map, gy]; rfl)
        refine ⟨k.1, _, rfl, hkT, rfl, _, _, rfl, _, _, rfl, rfl, rfl, tt_yes ⟨.ref a, rfl, .int y, rfl, a, _, y, _, rfl, rfl, sqT_same s0' hA, ay, .ref a, rfl, .int x, rfl, a, _, x, _, rfl, rfl, sqT_same s0' hA, ax, (by show 2 ≤ sizeLine; decide), fun T nT => ?_⟩⟩
        have sT : Same H' (upd H' T (.tup [.int my, .int mx])) := same_upd nT
        refine ⟨.ref b, rfl, T, b, [my, mx], _, rfl, rfl, tupNew upd_same, (hTT0.same s0').same sT, _, sT _ _ p.2, ?_, ?_, ?_⟩
        · rw [List.length_replicate]; exact few1 (by omega)
        · exact fun c o z => by rw [upd_ne (ne_of_none z nD2)]; exact sT c o (p.1 c o z)
        · rw [upd_same, decide_eq_true hin, rep_next]
      · rw [rep_bl] at p
        refine ⟨D2, _, rfl, lstNew p.2, ?_⟩
        rw [all_true]
        exact q H3 (s02.trans p.1)
end
end K20
set_option maxHeartbeats 4000000
namespace K20
open PySem PySem.Spec PyProof.Rows L2 RV
/-! ### a Rule's fields -/
theorem n1 : ¬ (("mirrors" : Str) = "steps") := by decide +kernel
theorem n2 : ¬ (("mirrors" : Str) = "followers") := by decide +kernel
theorem n3 : ¬ (("steps" : Str) = "followers") := by decide +kernel
def flds (a b t : Addr) : List (Str × V) := putF "followers" (.ref t) (putF "steps" (.ref b) (putF "mirrors" (.ref a) []))
theorem flds_m (a b t : Addr) : (flds a b t).lookup ("mirrors" : Str) = some (.ref a) := by
  unfold flds
  rw [lookup_putF, if_neg n2, lookup_putF, if_neg n1, lookup_putF, if_pos rfl]
theorem flds_s (a b t : Addr) : (flds a b t).lookup ("steps" : Str) = some (.ref b) := by
  unfold flds
  rw [lookup_putF, if_neg n3, lookup_putF, if_pos rfl]
/-- all that a mark is followed by, mark by mark -/
def follow (n : Nat) (ps : List (List Int)) : List (List Int) := (List.range n).map fun (i : Nat) => behindOf ps (i : Int)
/-- a Rule stands at p -/
structure RuleAt (K : PySem.W.Frag) (C : Addr) (H : Hp) (p : Addr) (ns : List Int) (ps : List (List Int)) : Prop where
  ex : ∃ dx a b t, H p = some (.ins C dx (flds a b t)) ∧ SqT K H a (ns.map V.int) ∧ Tups K H b ps ∧ Tups K H t (follow ns.length ps)
theorem RuleAt.same {K : PySem.W.Frag} {C : Addr} {H H' : Hp} {p : Addr} {ns : List Int} {ps : List (List Int)} (r : RuleAt K C H p ns ps) (s : Same H H') : RuleAt K C H' p ns ps := by
  obtain ⟨dx, a, b, t, h1, h2, h3, h4⟩ := r.ex
  exact ⟨dx, a, b, t, s _ _ h1, sqT_same s h2, h3.same s, h4.same s⟩
/-- what the class is, behind the top -/
structure Txt (K : PySem.W.Frag) (mg : Str → Option Value) (C : Addr) : Prop where
  cl : Cls K C
  nM : NoAttr K C "mirrors"
  nS : NoAttr K C "steps"
  nF : NoAttr K C "followers"
  mgC : mg "Rule" = some (.ref C)
  c1 : PySem.W.findIn K (.ref C) "__class__" = some (some (.builtin "object.__class__"))
  c2 : PySem.W.specialIn K (.builtin "object.__class__") "__get__" = some (some (.builtin "getset_descriptor.__get__"))
  c3 : PySem.W.takesIn K (.builtin "object.__class__") = some true
  c4 : PySem.W.mroIn K C (.type "object") = some true
  c5 : PySem.W.kitOne K (.ref C) (.ref C) = some true
section
variable {P : Program} {w : World} {K : PySem.W.Frag} {mg : Str → Option Value} {base : Heap}
/-! ### __init__ -/
theorem scInit : FnScope ["self", "mirrors", "steps", "mark"] ["self", "mirrors", "steps"] (defScope sInit) := ⟨rfl, rfl, rfl, by decide +kernel, rfl, by decide +kernel, by decide +kernel⟩
def spInit (K : PySem.W.Frag) (C : Addr) : Sp := fun vs H Q _ => ∃ (p dx a b : Addr) (ns : List Int) (ps : List (List Int)), vs = [.ref p, .ref a, .ref b] ∧ H p = some (.ins C dx []) ∧ SqT K H a (ns.map V.int) ∧ Tups K H b ps ∧ Mir ns ∧ Stp ns ps ∧
  ∀ H' t, (∀ c o, H c = some o → c ≠ p → H' c = some o) → H' p = some (.ins C dx (flds a b t)) → Tups K H' t (follow ns.length ps) → Q .non H'
theorem sqT_but {H H' : Hp} {p C dx : Addr} {fs : List (Str × V)} (hp : H p = some (.ins C dx fs)) (k : ∀ c o, H c = some o → c ≠ p → H' c = some o) {a : Addr} {xs : List V} (h : SqT K H a xs) : SqT K H' a xs := by
  rcases h with (h | ⟨o, h⟩) | h
  · exact .inl (.inl (k _ _ h fun z => by rw [z, hp] at h; cases h))
  · exact .inl (.inr ⟨o, k _ _ h fun z => by rw [z, hp] at h; cases h⟩)
  · exact .inr h
theorem tups_but {H H' : Hp} {p C dx : Addr} {fs : List (Str × V)} (hp : H p = some (.ins C dx fs)) (k : ∀ c o, H c = some o → c ≠ p → H' c = some o) {a : Addr} {ps : List (List Int)} (h : Tups K H a ps) : Tups K H' a ps := by
  obtain ⟨ks, h1, h2, h3⟩ := h
  exact ⟨ks, h1, sqT_but hp k h2, fun q hq => sqT_but hp k (h3 q hq)⟩
theorem follow_next (i : Nat) (ps : List (List Int)) : follow (i + 1) ps = follow i ps ++ [behindOf ps (i : Int)] := by
  unfold follow
  rw [List.range_succ, List.map_append]; rfl
theorem ok_init {f fM fS fB C : Addr} {fd fdM fdS fdB : FuncData} (F : Fun K "__init__" "Rule.__init__" sInit f fd) (T : Txt K mg C)
    (DM : DefAt K mg "are_mirrors" sMirrors ["thing"] fM fdM) (GM : FnOk P w K mg base CX0 4 fM fdM ["thing"] (spMirrors K)) (DS : DefAt K mg "are_steps" sSteps ["mirrors", "thing"] fS fdS) (GS : FnOk P w K mg base CX0 5 fS fdS ["mirrors", "thing"] (spSteps K))
    (DB : DefAt K mg "marks_behind" sBehind ["steps", "mark"] fB fdB) (B : Bare mg) : FnOk P w K mg base CX0 6 f fd ["self", "mirrors", "steps"] (spInit K C) := by
  have GB : FnOk P w K mg base CX0 1 fB fdB ["steps", "mark"] (spBehind K) := ok_behind DB.fn B
  refine F.ok scInit (fun vs H Q E h => ?_) (fun cdv A outer s H vs Q E hr h => ?_)
  · obtain ⟨p, dx, a, b, ns, ps, rfl, _⟩ := h
    rfl
  · obtain ⟨p, dx, a, b, ns, ps, rfl, hp, hA, hB, hM, hS, q⟩ := h
    refine ⟨_, pss_cons (ps_if (pt_not (pt_val (pe_call GM (hr.mono (by decide)) (by rfl) DM.mg DM.fn.kp DM.bi .nil pass0 (pa_cons (pv 1) pa_nil)))) (pss_one ps_never) pss_nil)
      (pss_cons (ps_if (pt_not (pt_val (pe_call GS hr (by rfl) DS.mg DS.fn.kp DS.bi .nil pass0 (pa_cons (pv 1) (pa_cons (pv 2) pa_nil))))) (pss_one ps_never) pss_nil)
      (pss_cons (ps_fld (pv 0) (pv 1) rfl)
      (pss_cons (ps_fld (pv 0) (pv 2) rfl)
      (pss_one (ps_fld (pv 0) (pe_tupleOf (by rfl) B.tuple
        (pe_lc (own := [("mark", 3)]) (g := gName 3) (tt := tYes) rfl scInit.nd (pi_range1 (by rfl) B.range (pa_cons (pe_callB call_len_seq (by rfl) B.len PySem.boot_len (pa_cons (pv 1) pa_nil)) pa_nil)) (blkOk_by (N := ["self", "mirrors", "steps", "mark"]) (sc := defScope sInit) (by decide +kernel))
          (fun _ _ _ _ _ => pg_name (i := 3) scInit.nd rfl (Or.inl rfl)) (fun _ _ _ _ _ => pts_nil)
          (fun _ _ _ _ _ => pe_call GB (hr.mono (by decide)) (by rfl) DB.mg DB.fn.kp DB.bi .nil pass0 (pa_cons (pv 2) (pa_cons (pv 3) pa_nil))))) rfl))))), ?_⟩
    refine ⟨.ref a, rfl, a, ns, rfl, hA, hM, fun H1 s1 => ⟨true, rfl, iteF ?_⟩⟩
    refine ⟨.ref a, rfl, .ref b, rfl, a, b, ns, ps, rfl, sqT_same s1 hA, hB.same s1, hM, hS, fun H2 s2 => ⟨true, rfl, iteF ?_⟩⟩
    have s02 : Same H H2 := s1.trans s2
    have hp2 := s02 _ _ hp
    refine ⟨.ref a, rfl, .ref p, rfl, p, C, dx, [], rfl, hp2, T.cl, T.nM, (by show 0 < 1000; decide), ?_⟩
    refine ⟨.ref b, rfl, .ref p, rfl, p, C, dx, _, rfl, upd_same, T.cl, T.nS, (by show 1 < 1000; decide), ?_⟩
    -- the heap behind both stores
    have k4 : ∀ c o, H2 c = some o → c ≠ p → (upd (upd H2 p (.ins C dx (putF "mirrors" (.ref a) []))) p (.ins C dx (putF "steps" (.ref b) (putF "mirrors" (.ref a) [])))) c = some o := fun c o e z => by
      rw [upd_ne z, upd_ne z]; exact e
    generalize e4 : upd (upd H2 p (.ins C dx (putF "mirrors" (.ref a) []))) p (.ins C dx (putF "steps" (.ref b) (putF "mirrors" (.ref a) []))) = H4 at k4 ⊢
    have hp4 : H4 p = some (.ins C dx (putF "steps" (.ref b) (putF "mirrors" (.ref a) []))) := by rw [← e4, upd_same]
    have hA4 : SqT K H4 a (ns.map V.int) := sqT_but hp2 k4 (sqT_same s02 hA)
    have hB4 : Tups K H4 b ps := tups_but hp2 k4 (hB.same s02)
    have h8 := hM.few
    refine ⟨.ref a, rfl, a, _, rfl, .inr hA4, _, rfl, ?_, ?_, fun D nD => ?_⟩
    · rw [List.length_map]; omega
    · rw [List.length_map]; omega
    rw [List.length_map, Int.toNat_natCast]
    refine lc_range (lo := 0) (n := ns.length) (fun i H' => Same H4 H' ∧ ∃ ks : List (Addr × List Int), ks.map (·.2) = follow i ps ∧ H' D = some (.lst (ks.map fun p => V.ref p.1)) ∧ ∀ q ∈ ks, SqT K H' q.1 (q.2.map V.int)) ⟨same_upd nD, [], rfl, upd_same, fun _ z => nomatch z⟩ (fun i H' hi z => ?_) fun H' z => ?_
    · obtain ⟨s5, ks, e1, e2, e3⟩ := z
      have hkl : ks.length = i := by
        have := congrArg List.length e1
        rw [List.length_map] at this
        rw [this]; unfold follow; rw [List.length_map, List.length_range]
      refine ⟨rfl, tt_yes ⟨.ref b, rfl, .int (0 + (i : Nat)), rfl, b, ps, _, rfl, hB4.same s5, by have := hS.few; omega, fun q hq => ?_, fun H6 t s6 nt et => ⟨_, s6 _ _ e2, ?_, ?_, ?_⟩⟩⟩
      · obtain ⟨x, y, e, _⟩ := hS.pair q hq
        exact ⟨x, y, e⟩
      · rw [List.length_map]; exact few1 (by omega)
      · exact fun c o e => by rw [upd_ne (ne_of_none e nD)]; exact s6 c o (s5 c o e)
      · have hk6 : ∀ c o, H6 c = some o → c ≠ D → (upd H6 D (.lst ((ks.map fun p => V.ref p.1) ++ [V.ref t]))) c = some o := fun c o e z => by rw [upd_ne z]; exact e
        have tk : ∀ {c : Addr} {xs : List V}, SqT K H6 c xs → SqT K (upd H6 D (.lst ((ks.map fun p => V.ref p.1) ++ [V.ref t]))) c xs := by
          intro c xs h
          have eD := s6 _ _ e2
          rcases h with (h | ⟨o, h⟩) | h
          · exact .inl (.inl (hk6 _ _ h fun z => by rw [z, eD] at h; cases h))
          · exact .inl (.inr ⟨o, hk6 _ _ h fun z => by rw [z, eD] at h; cases h⟩)
          · exact .inr h
        refine ⟨ks ++ [(t, behindOf ps (i : Int))], ?_, ?_, fun q hq => ?_⟩
        · rw [List.map_append, e1, follow_next]; rfl
        · rw [upd_same, List.map_append]; rfl
        · rcases List.mem_append.mp hq with z | z
          · exact tk (sqT_same s6 (e3 q z))
          · rw [List.mem_singleton.mp z]
            refine tk (tupNew ?_)
            rw [et, show (0 + ((i : Nat) : Int)) = (i : Int) by omega]
    · obtain ⟨s5, ks, e1, e2, e3⟩ := z
      refine .inl ⟨D, _, rfl, lstNew e2, fun t nt => ?_⟩
      have sT : Same H' (upd H' t (.tup (ks.map fun p => V.ref p.1))) := same_upd nt
      have hpT := sT _ _ (s5 _ _ hp4)
      refine ⟨.ref p, rfl, p, C, dx, _, rfl, hpT, T.cl, T.nF, (by
        show (putF "steps" (V.ref b) (putF "mirrors" (V.ref a) [])).length < 1000
        show (if ("mirrors" : Str) = "steps" then [(("mirrors" : Str), V.ref b)] else (("mirrors" : Str), V.ref a) :: putF "steps" (V.ref b) []).length < 1000
        rw [if_neg n1]; show 2 < 1000; decide), ?_⟩
      refine q _ t (fun c o e z => ?_) upd_same ?_
      · rw [upd_ne z]
        exact sT _ _ (s5 _ _ (k4 _ _ (s02 _ _ e) z))
      · have tt : Tups K (upd H' t (.tup (ks.map fun p => V.ref p.1))) t (follow ns.length ps) := ⟨ks, e1, tupNew upd_same, fun q hq => sqT_same sT (e3 q hq)⟩
        exact tups_but hpT (fun c o e z => by rw [upd_ne z]; exact e) tt
end
end K20
set_option maxHeartbeats 4000000
namespace K20
open PySem PySem.Spec PyProof.Rows L2 RV
theorem mro_tuple : PySem.fastBuiltinMro "tuple" = some [.type "tuple", .type "object"] := by decide +kernel
theorem mro_none : PySem.fastBuiltinMro "NoneType" = some [.type "NoneType", .type "object"] := by decide +kernel
theorem mro_str : PySem.fastBuiltinMro "str" = some [.type "str", .type "object"] := by decide +kernel
theorem mro_int : PySem.fastBuiltinMro "int" = some [.type "int", .type "object"] := by decide +kernel
theorem kit_other {K : PySem.W.Frag} {C : Addr} {T : String} (h1 : (PySem.W.clsIn K C).isSome = true) (h2 : PySem.W.typeIn K (.ref C) = some (.type "type")) (h3 : PySem.fastBuiltinMro T = some [.type T, .type "object"]) : PySem.W.kitOne K (.type T) (.ref C) = some false := by
  unfold PySem.W.kitOne PySem.W.kitCls
  rw [if_neg (by simp)]
  show (if ((PySem.W.clsIn K C).isSome && PySem.W.typeIn K (.ref C) == some (.type "type")) = true then PySem.W.subIn K (.type T) (.ref C) else none) = some false
  rw [h1, h2, if_pos (by simp)]
  show (PySem.fastBuiltinMro T).map (·.contains (.ref C)) = some false
  rw [h3]
  simp
theorem kit_self {K : PySem.W.Frag} {C : Addr} : PySem.W.kitOne K (.ref C) (.ref C) = some true := by
  unfold PySem.W.kitOne
  simp
section
variable {P : Program} {w : World} {K : PySem.W.Frag} {mg : Str → Option Value} {base : Heap}
/-! ### __eq__ -/
theorem scEq : FnScope ["self", "other"] ["self", "other"] (defScope sEq) := ⟨rfl, rfl, rfl, by decide +kernel, rfl, by decide +kernel, by decide +kernel⟩
def spEq (K : PySem.W.Frag) (C : Addr) : Sp := fun vs H Q _ => ∃ (p : Addr) (v : V) (ns : List Int) (ps : List (List Int)), vs = [.ref p, v] ∧ RuleAt K C H p ns ps ∧
  ((∃ (q : Addr) (ns' : List Int) (ps' : List (List Int)), v = .ref q ∧ RuleAt K C H q ns' ps' ∧ Q (.bl (decide (ns = ns') && decide (ps = ps'))) H) ∨ (∃ t, TyX K H v t ∧ PySem.W.kitOne K t (.ref C) = some false ∧ Q (.bl false) H))
theorem ok_eq {f C : Addr} {fd : FuncData} (F : Fun K "__eq__" "Rule.__eq__" sEq f fd) (T : Txt K mg C) (B : Bare mg) : FnOk P w K mg base CX0 1 f fd ["self", "other"] (spEq K C) := by
  refine F.ok scEq (fun vs H Q E h => ?_) (fun cdv A outer s H vs Q E hr h => ?_)
  · obtain ⟨p, v, ns, ps, rfl, _⟩ := h
    rfl
  · obtain ⟨p, v, ns, ps, rfl, R1, h⟩ := h
    obtain ⟨dx, a, b, t, h1, h2, h3, h4⟩ := R1.ex
    refine ⟨_, pss_one (ps_ret (pe_and (pe_callB call_isi (by rfl) B.isinstance (by decide +kernel) (pa_cons (pv 1) (pa_cons (pe_glob (v := .ref C) rfl T.mgC rfl) pa_nil)))
      (pe_and (pe_cmpR (op_eqI1 hr.units) (pe_fld (pv 0) rfl) (pe_fld (pv 1) rfl) (nomark _)) (pe_one (pe_cmpR (op_eqTs hr.units) (pe_fld (pv 0) rfl) (pe_fld (pv 1) rfl) (nomark _)))))), ?_⟩
    rcases h with ⟨q, ns', ps', rfl, R2, k⟩ | ⟨ty, hty, hk, k⟩
    · obtain ⟨dx', a', b', t', g1, g2, g3, g4⟩ := R2.ex
      refine ⟨.ref q, rfl, .ref q, .ref C, _, _, true, rfl, .own C, .base (.ins g1 T.cl T.c1 T.c2 T.c3 T.c4), T.c5, true, rfl, iteT ?_⟩
      refine ⟨.ref p, rfl, p, C, dx, _, _, rfl, h1, T.cl, T.nM, flds_m _ _ _, .ref q, rfl, q, C, dx', _, _, rfl, g1, T.cl, T.nM, flds_m _ _ _, a, a', ns, ns', rfl, rfl, h2, g2, _, rfl, ?_⟩
      by_cases e : ns = ns'
      · rw [decide_eq_true e] at k ⊢
        refine iteT ⟨.ref p, rfl, p, C, dx, _, _, rfl, h1, T.cl, T.nS, flds_s _ _ _, .ref q, rfl, q, C, dx', _, _, rfl, g1, T.cl, T.nS, flds_s _ _ _, b, b', ps, ps', rfl, rfl, h3, g3, ?_⟩
        rw [Bool.true_and] at k
        exact k
      · rw [decide_eq_false e] at k ⊢
        rw [Bool.false_and] at k
        exact iteF k
    · exact ⟨v, rfl, v, .ref C, _, _, false, rfl, .own C, hty, hk, false, rfl, iteF k⟩
/-! ### marks, mirror, behind -/
theorem scMarksM : FnScope ["self"] ["self"] (defScope sMarksM) := ⟨rfl, rfl, rfl, by decide +kernel, rfl, by decide +kernel, by decide +kernel⟩
def spMarksM (K : PySem.W.Frag) (C : Addr) : Sp := fun vs H Q _ => ∃ (p : Addr) (ns : List Int) (ps : List (List Int)), vs = [.ref p] ∧ RuleAt K C H p ns ps ∧ Q (.int (ns.length : Int)) H
theorem ok_marksM {f C : Addr} {fd : FuncData} (F : Fun K "marks" "Rule.marks" sMarksM f fd) (T : Txt K mg C) (B : Bare mg) : FnOk P w K mg base CX0 1 f fd ["self"] (spMarksM K C) := by
  refine F.ok scMarksM (fun vs H Q E h => ?_) (fun cdv A outer s H vs Q E hr h => ?_)
  · obtain ⟨p, ns, ps, rfl, _⟩ := h
    rfl
  · obtain ⟨p, ns, ps, rfl, R1, k⟩ := h
    obtain ⟨dx, a, b, t, h1, h2, h3, h4⟩ := R1.ex
    refine ⟨_, pss_one (ps_ret (pe_callB call_len_seq (by rfl) B.len PySem.boot_len (pa_cons (pe_fld (pv 0) rfl) pa_nil))), ?_⟩
    refine ⟨.ref p, rfl, p, C, dx, _, _, rfl, h1, T.cl, T.nM, flds_m _ _ _, a, _, rfl, .inr h2, ?_⟩
    rw [List.length_map]; exact k
theorem scMirrorM : FnScope ["self", "mark"] ["self", "mark"] (defScope sMirrorM) := ⟨rfl, rfl, rfl, by decide +kernel, rfl, by decide +kernel, by decide +kernel⟩
def spMirrorM (K : PySem.W.Frag) (C : Addr) : Sp := fun vs H Q _ => ∃ (p : Addr) (ns : List Int) (ps : List (List Int)) (i : Nat) (x : Int), vs = [.ref p, .int (i : Int)] ∧ RuleAt K C H p ns ps ∧ ns[i]? = some x ∧ Q (.int x) H
theorem ok_mirrorM {f C : Addr} {fd : FuncData} (F : Fun K "mirror" "Rule.mirror" sMirrorM f fd) (T : Txt K mg C) : FnOk P w K mg base CX0 1 f fd ["self", "mark"] (spMirrorM K C) := by
  refine F.ok scMirrorM (fun vs H Q E h => ?_) (fun cdv A outer s H vs Q E hr h => ?_)
  · obtain ⟨p, ns, ps, i, x, rfl, _⟩ := h
    rfl
  · obtain ⟨p, ns, ps, i, x, rfl, R1, e, k⟩ := h
    obtain ⟨dx, a, b, t, h1, h2, h3, h4⟩ := R1.ex
    refine ⟨_, pss_one (ps_ret (pe_ix ix_tup (pe_fld (pv 0) rfl) (pv 1) (fun _ _ => rfl))), ?_⟩
    exact ⟨.ref p, rfl, p, C, dx, _, _, rfl, h1, T.cl, T.nM, flds_m _ _ _, .int (i : Int), rfl, a, _, _, _, rfl, rfl, h2, atI_nat (by rw [List.getElem?_map, e]; rfl), k⟩
theorem n4 : ¬ (("followers" : Str) = "steps") := by decide +kernel
theorem flds_f (a b t : Addr) : (flds a b t).lookup ("followers" : Str) = some (.ref t) := by
  unfold flds
  rw [lookup_putF, if_pos rfl]
theorem scBehindM : FnScope ["self", "mark"] ["self", "mark"] (defScope sBehindM) := ⟨rfl, rfl, rfl, by decide +kernel, rfl, by decide +kernel, by decide +kernel⟩
def spBehindM (K : PySem.W.Frag) (C : Addr) : Sp := fun vs H Q _ => ∃ (p : Addr) (ns : List Int) (ps : List (List Int)) (i : Nat), vs = [.ref p, .int (i : Int)] ∧ RuleAt K C H p ns ps ∧ i < ns.length ∧ ∀ c, SqT K H c ((behindOf ps (i : Int)).map V.int) → Q (.ref c) H
theorem ok_behindM {f C : Addr} {fd : FuncData} (F : Fun K "behind" "Rule.behind" sBehindM f fd) (T : Txt K mg C) : FnOk P w K mg base CX0 1 f fd ["self", "mark"] (spBehindM K C) := by
  refine F.ok scBehindM (fun vs H Q E h => ?_) (fun cdv A outer s H vs Q E hr h => ?_)
  · obtain ⟨p, ns, ps, i, rfl, _⟩ := h
    rfl
  · obtain ⟨p, ns, ps, i, rfl, R1, hi, k⟩ := h
    obtain ⟨dx, a, b, t, h1, h2, h3, h4⟩ := R1.ex
    obtain ⟨ks, e1, e2, e3⟩ := h4
    refine ⟨_, pss_one (ps_ret (pe_ix ix_tup (pe_fld (pv 0) rfl) (pv 1) (fun _ _ => rfl))), ?_⟩
    have hkl : ks.length = ns.length := by
      have z := congrArg List.length e1
      rw [List.length_map] at z
      rw [z]; unfold follow; rw [List.length_map, List.length_range]
    have hk : i < ks.length := by omega
    have e4 : (ks.map (·.2))[i]? = some ks[i].2 := by rw [List.getElem?_map, List.getElem?_eq_getElem hk]; rfl
    have e5 : ks[i].2 = behindOf ps (i : Int) := by
      rw [e1] at e4
      unfold follow at e4
      rw [List.getElem?_map, List.getElem?_range hi] at e4
      exact (Option.some.inj e4).symm
    refine ⟨.ref p, rfl, p, C, dx, _, _, rfl, h1, T.cl, T.nF, flds_f _ _ _, .int (i : Int), rfl, t, _, _, .ref ks[i].1, rfl, rfl, e2, atI_nat (by rw [List.getElem?_map, List.getElem?_eq_getElem hk]; rfl), k _ ?_⟩
    rw [← e5]; exact e3 _ (List.getElem_mem hk)
/-- what a call Rule(a, b) comes to -/
theorem make_rule {C a b x dx : Addr} {H : Hp} {Qh : Hp → Prop} {E : XK} {ns : List Int} {ps : List (List Int)} (hA : SqT K H a (ns.map V.int)) (hB : Tups K H b ps) (hM : Mir ns) (hS : Stp ns ps) (nx : H x = none) (nd : H dx = none) (ne : dx ≠ x)
    (k : ∀ H', Same H H' → RuleAt K C H' x ns ps → Qh H') :
    spInit K C (.ref x :: ([.ref a, .ref b] ++ [])) (upd (upd H dx (.own x)) x (.ins C dx [])) (fun v H2 => v = .non ∧ Qh H2) E := by
  have s0 : Same H (upd (upd H dx (.own x)) x (.ins C dx [])) := fun c o e => by
    rw [upd_ne (ne_of_none e nx), upd_ne (ne_of_none e nd)]; exact e
  refine ⟨x, dx, a, b, ns, ps, rfl, upd_same, sqT_same s0 hA, hB.same s0, hM, hS, fun H' t k1 k2 k3 => ⟨rfl, ?_⟩⟩
  have s1 : Same H H' := fun c o e => k1 c o (s0 c o e) (ne_of_none e nx)
  exact k H' s1 ⟨dx, a, b, t, k2, sqT_same s1 hA, hB.same s1, k3⟩
end
end K20
namespace RV
open PySem L2
/-! ### who comes to whom by one step or more -/
inductive Rch (ps : List (List Int)) : Int → Int → Prop where
  | one {i j : Int} : [i, j] ∈ ps → Rch ps i j
  | more {i j k : Int} : Rch ps i j → [j, k] ∈ ps → Rch ps i k
theorem Rch.trans {ps : List (List Int)} {i j k : Int} (h : Rch ps i j) (g : Rch ps j k) : Rch ps i k := by
  induction g with
  | one e => exact .more h e
  | more _ e ih => exact .more ih e
theorem Rch.bound {ps : List (List Int)} {n : Int} (hb : ∀ p ∈ ps, Pr n p) {i j : Int} (h : Rch ps i j) : (0 ≤ i ∧ i < n) ∧ (0 ≤ j ∧ j < n) := by
  induction h with
  | one e =>
    obtain ⟨x, y, e2, hx, hy⟩ := hb _ e
    injection e2 with e3 e4
    injection e4 with e4 _
    subst e3 e4
    exact ⟨hx, hy⟩
  | more _ e ih =>
    obtain ⟨x, y, e2, hx, hy⟩ := hb _ e
    injection e2 with e3 e4
    injection e4 with e4 _
    subst e3 e4
    exact ⟨ih.1, hy⟩
/-- a lot that holds all right behind m and is closed -/
theorem rch_closed {ps : List (List Int)} {m : Int} {fs : List Int} (h1 : ∀ j, [m, j] ∈ ps → j ∈ fs) (h2 : ∀ x ∈ fs, ∀ j, [x, j] ∈ ps → j ∈ fs) {j : Int} (h : Rch ps m j) : j ∈ fs := by
  induction h with
  | one e => exact h1 _ e
  | more _ e ih => exact h2 _ ih _ e
noncomputable def rB (ps : List (List Int)) (i j : Int) : Bool := @decide (Rch ps i j) (Classical.propDecidable _)
theorem rB_iff {ps : List (List Int)} {i j : Int} : rB ps i j = true ↔ Rch ps i j := by
  unfold rB
  exact @decide_eq_true_iff _ (Classical.propDecidable _)
/-! ### numbers below n -/
def upN (n : Nat) : List Int := (List.range n).map fun (i : Nat) => (i : Int)
theorem upN_get {n k : Nat} (h : k < n) : (upN n)[k]? = some (k : Int) := by
  unfold upN
  rw [List.getElem?_map, List.getElem?_range h]; rfl
theorem upN_len (n : Nat) : (upN n).length = n := by unfold upN; rw [List.length_map, List.length_range]
theorem mem_upN {n : Nat} {x : Int} : x ∈ upN n ↔ 0 ≤ x ∧ x < (n : Int) := by
  unfold upN
  rw [List.mem_map]
  constructor
  · rintro ⟨k, hk, rfl⟩
    have := List.mem_range.mp hk
    omega
  · rintro ⟨h0, h1⟩
    exact ⟨x.toNat, List.mem_range.mpr (by omega), by omega⟩
theorem upN_rise (n : Nat) : (upN n).Pairwise (· < ·) := by
  unfold upN
  rw [List.pairwise_map]
  exact List.Pairwise.imp (fun {a b} (h : a < b) => by omega) List.pairwise_lt_range
/-! ### the lot of a mark -/
noncomputable def lotOf (ps : List (List Int)) (n : Nat) (m : Int) : List Int := (upN n).filter fun j => rB ps m j && rB ps j m
theorem mem_lot {ps : List (List Int)} {n : Nat} {m j : Int} : j ∈ lotOf ps n m ↔ (0 ≤ j ∧ j < (n : Int)) ∧ Rch ps m j ∧ Rch ps j m := by
  unfold lotOf
  rw [List.mem_filter, mem_upN, Bool.and_eq_true, rB_iff, rB_iff]
theorem lot_rise (ps : List (List Int)) (n : Nat) (m : Int) : (lotOf ps n m).Pairwise (· < ·) := (upN_rise n).filter _
theorem lot_len (ps : List (List Int)) (n : Nat) (m : Int) : (lotOf ps n m).length ≤ n := by
  have := List.length_filter_le (fun j => rB ps m j && rB ps j m) (upN n)
  rw [upN_len] at this
  exact this
theorem lot_eq {ps : List (List Int)} {n : Nat} {m j : Int} (h : j ∈ lotOf ps n m) : lotOf ps n j = lotOf ps n m := by
  obtain ⟨_, h1, h2⟩ := mem_lot.mp h
  unfold lotOf
  refine List.filter_congr fun x _ => ?_
  rw [Bool.eq_iff_iff, Bool.and_eq_true, Bool.and_eq_true, rB_iff, rB_iff, rB_iff, rB_iff]
  exact ⟨fun ⟨a, b⟩ => ⟨h1.trans a, b.trans h2⟩, fun ⟨a, b⟩ => ⟨h2.trans a, b.trans h1⟩⟩
theorem lot_self {ps : List (List Int)} {n : Nat} {m : Int} (hm : 0 ≤ m ∧ m < (n : Int)) (h : Rch ps m m) : m ∈ lotOf ps n m := mem_lot.mpr ⟨hm, h, h⟩
theorem lot_none {ps : List (List Int)} {n : Nat} {m : Int} (h : ¬ Rch ps m m) : lotOf ps n m = [] := by
  refine List.eq_nil_iff_forall_not_mem.mpr fun j hj => ?_
  obtain ⟨_, h1, h2⟩ := mem_lot.mp hj
  exact h (h1.trans h2)
theorem lot_some {ps : List (List Int)} {n : Nat} {m j : Int} (h : j ∈ lotOf ps n m) : Rch ps m m := by
  obtain ⟨_, h1, h2⟩ := mem_lot.mp h
  exact h1.trans h2
/-! ### the parts -/
noncomputable def isHead (ps : List (List Int)) (n : Nat) (m : Int) : Bool := decide ((lotOf ps n m).head? = some m)
noncomputable def partsOf (ps : List (List Int)) (n : Nat) : List (List Int) := ((upN n).filter (isHead ps n)).map (lotOf ps n)
theorem mem_parts {ps : List (List Int)} {n : Nat} {p : List Int} : p ∈ partsOf ps n ↔ ∃ m : Int, (0 ≤ m ∧ m < (n : Int)) ∧ (lotOf ps n m).head? = some m ∧ p = lotOf ps n m := by
  unfold partsOf isHead
  rw [List.mem_map]
  constructor
  · rintro ⟨m, hm, rfl⟩
    obtain ⟨h1, h2⟩ := List.mem_filter.mp hm
    exact ⟨m, mem_upN.mp h1, of_decide_eq_true h2, rfl⟩
  · rintro ⟨m, h1, h2, rfl⟩
    exact ⟨m, List.mem_filter.mpr ⟨mem_upN.mpr h1, decide_eq_true h2⟩, rfl⟩
theorem lot_part {ps : List (List Int)} {n : Nat} {m j : Int} (h : j ∈ lotOf ps n m) : lotOf ps n m ∈ partsOf ps n := by
  cases e : lotOf ps n m with
  | nil => rw [e] at h; cases h
  | cons x r =>
    have hx : x ∈ lotOf ps n m := by rw [e]; exact List.mem_cons_self ..
    have ex := lot_eq hx
    refine mem_parts.mpr ⟨x, (mem_lot.mp hx).1, ?_, ?_⟩
    · rw [ex, e]; rfl
    · rw [ex, e]
theorem part_ne {ps : List (List Int)} {n : Nat} {p : List Int} (h : p ∈ partsOf ps n) : p ≠ [] := by
  obtain ⟨m, _, h2, rfl⟩ := mem_parts.mp h
  intro e
  rw [e] at h2; cases h2
theorem part_lot {ps : List (List Int)} {n : Nat} {p : List Int} {x : Int} (h : p ∈ partsOf ps n) (hx : x ∈ p) : lotOf ps n x = p := by
  obtain ⟨m, _, _, rfl⟩ := mem_parts.mp h
  exact lot_eq hx
def hd0 (l : List Int) : Int := l.headD 0
theorem parts_rise (ps : List (List Int)) (n : Nat) : (partsOf ps n).Pairwise fun p q => hd0 p < hd0 q := by
  unfold partsOf
  rw [List.pairwise_map]
  refine List.Pairwise.imp_of_mem (fun {a b} ha hb (h : a < b) => ?_) ((upN_rise n).filter _)
  have ea : (lotOf ps n a).head? = some a := of_decide_eq_true (List.mem_filter.mp ha).2
  have eb : (lotOf ps n b).head? = some b := of_decide_eq_true (List.mem_filter.mp hb).2
  unfold hd0
  rw [List.headD_eq_head?_getD, List.headD_eq_head?_getD, ea, eb]
  exact h
theorem parts_nodup (ps : List (List Int)) (n : Nat) : (partsOf ps n).Nodup := (parts_rise ps n).imp fun {a b} h e => by rw [e] at h; omega
theorem parts_len (ps : List (List Int)) (n : Nat) : (partsOf ps n).length ≤ n := by
  unfold partsOf
  rw [List.length_map]
  have := List.length_filter_le (isHead ps n) (upN n)
  rw [upN_len] at this
  exact this
/-- of two lots unlike heads tell which is ahead -/
theorem part_hd {ps : List (List Int)} {n : Nat} {p q : List Int} (hp : p ∈ partsOf ps n) (hq : q ∈ partsOf ps n) (h : hd0 p = hd0 q) : p = q := by
  obtain ⟨a, _, ea, rfl⟩ := mem_parts.mp hp
  obtain ⟨b, _, eb, rfl⟩ := mem_parts.mp hq
  unfold hd0 at h
  rw [List.headD_eq_head?_getD, List.headD_eq_head?_getD, ea, eb] at h
  have h' : a = b := h
  rw [h']
/-! ### the table that is gone on with, mark by mark -/
def Wsh (ps : List (List Int)) : Nat → Int → Int → Prop
  | 0, i, j => [i, j] ∈ ps
  | k + 1, i, j => Wsh ps k i j ∨ (Wsh ps k i (k : Int) ∧ Wsh ps k (k : Int) j)
theorem Wsh.up {ps : List (List Int)} {i j : Int} (h : [i, j] ∈ ps) : ∀ k, Wsh ps k i j
  | 0 => h
  | k + 1 => .inl (Wsh.up h k)
theorem Wsh.rch {ps : List (List Int)} : ∀ {k : Nat} {i j : Int}, Wsh ps k i j → Rch ps i j
  | 0, _, _, h => .one h
  | k + 1, _, _, .inl h => Wsh.rch h
  | k + 1, _, _, .inr h => (Wsh.rch h.1).trans (Wsh.rch h.2)
theorem Wsh.amid {ps : List (List Int)} : ∀ (k : Nat) (m : Nat) (i j : Int), m < k → Wsh ps k i (m : Int) → Wsh ps k (m : Int) j → Wsh ps k i j
  | 0, _, _, _, h, _, _ => absurd h (Nat.not_lt_zero _)
  | k + 1, m, i, j, h, h1, h2 => by
    by_cases e : m = k
    · subst e
      have a1 : Wsh ps m i (m : Int) := h1.elim id fun z => z.1
      have a2 : Wsh ps m (m : Int) j := h2.elim id fun z => z.2
      exact .inr ⟨a1, a2⟩
    · have hm : m < k := by omega
      have T := fun i j => Wsh.amid (ps := ps) k m i j hm
      rcases h1 with h1 | ⟨p1, p2⟩
      · rcases h2 with h2 | ⟨q1, q2⟩
        · exact .inl (T _ _ h1 h2)
        · exact .inr ⟨T _ _ h1 q1, q2⟩
      · rcases h2 with h2 | ⟨q1, q2⟩
        · exact .inr ⟨p1, T _ _ p2 h2⟩
        · exact .inr ⟨p1, q2⟩
theorem rch_wsh {ps : List (List Int)} {n : Nat} (hb : ∀ p ∈ ps, Pr (n : Int) p) {i j : Int} (h : Rch ps i j) : Wsh ps n i j := by
  induction h with
  | one e => exact Wsh.up e n
  | @more j k _ e ih =>
    have b := (Rch.bound hb (.one e)).1
    have ej : j = ((j.toNat : Nat) : Int) := by omega
    rw [ej] at ih e
    exact Wsh.amid n j.toNat _ _ (by omega) ih (Wsh.up e n)
end RV
set_option maxHeartbeats 4000000
namespace K20
open PySem PySem.Spec PyProof.Rows L2 RV
theorem flds_no (a b t : Addr) {m : Str} (h1 : ¬ m = "mirrors") (h2 : ¬ m = "steps") (h3 : ¬ m = "followers") : (flds a b t).lookup m = none := by
  unfold flds
  rw [lookup_putF, if_neg h3, lookup_putF, if_neg h2, lookup_putF, if_neg h1]
  all_goals rfl
theorem mem_behind {n : Int} {ps : List (List Int)} (hp : ∀ p ∈ ps, Pr n p) {m j : Int} : j ∈ behindOf ps m ↔ [m, j] ∈ ps := by
  unfold behindOf
  rw [List.mem_map]
  constructor
  · rintro ⟨p, h1, h2⟩
    obtain ⟨h3, h4⟩ := List.mem_filter.mp h1
    obtain ⟨x, y, rfl, _⟩ := hp p h3
    have e1 : x = m := of_decide_eq_true h4
    have e2 : y = j := h2
    subst e1 e2
    exact h3
  · intro h
    exact ⟨[m, j], List.mem_filter.mpr ⟨h, decide_eq_true rfl⟩, rfl⟩
theorem behind_nodup {n : Int} {ps : List (List Int)} (hp : ∀ p ∈ ps, Pr n p) (nd : ps.Nodup) (m : Int) : (behindOf ps m).Nodup := by
  unfold behindOf
  refine List.pairwise_map.mpr (List.Pairwise.imp_of_mem (fun {a b} ha hb ne e => ?_) (nd.filter _))
  obtain ⟨a1, a2⟩ := List.mem_filter.mp ha
  obtain ⟨b1, b2⟩ := List.mem_filter.mp hb
  obtain ⟨x, y, rfl, _⟩ := hp a a1
  obtain ⟨x', y', rfl, _⟩ := hp b b1
  have e1 : x = m := of_decide_eq_true a2
  have e2 : x' = m := of_decide_eq_true b2
  have e3 : y = y' := e
  exact ne (by rw [e1, e2, e3])
section
variable {P : Program} {w : World} {K : PySem.W.Frag} {mg : Str → Option Value} {base : Heap}
/-! ### led_to -/
theorem scLed : FnScope ["rule", "mark", "found", "at", "fresh", "other"] ["rule", "mark"] (defScope sLed) := ⟨rfl, rfl, rfl, by decide +kernel, rfl, by decide +kernel, by decide +kernel⟩
def spLed (K : PySem.W.Frag) (C : Addr) : Sp := fun vs H Q _ => ∃ (r : Addr) (m : Int) (ns : List Int) (ps : List (List Int)), vs = [.ref r, .int m] ∧ RuleAt K C H r ns ps ∧ Mir ns ∧ Stp ns ps ∧ (0 ≤ m ∧ m < (ns.length : Int)) ∧
  ∀ (H' : Hp) (c : Addr) (fs : List Int), Same H H' → H c = none → H' c = some (.lst (fs.map V.int)) → fs.length ≤ 8 → (∀ j, j ∈ fs ↔ Rch ps m j) → Q (.ref c) H'
def atOf : L2.St → Nat
  | [_, _, _, some (.int a), _, _] => 8 - a.toNat
  | _ => 0
theorem ok_led {f C fB : Addr} {fd dB : FuncData} (F : Fun K "led_to" "led_to" sLed f fd) (T : Txt K mg C) (B : Bare mg)
    (FB : Fun K "behind" "Rule.behind" sBehindM fB dB) (bB : Binds K dB ["self", "mark"] []) (mB : Meth K C "behind" fB) : FnOk P w K mg base CX0 2 f fd ["rule", "mark"] (spLed K C) := by
  have GB : FnOk P w K mg base CX0 1 fB dB ["self", "mark"] (spBehindM K C) := ok_behindM FB T
  refine F.ok scLed (fun vs H Q E h => ?_) (fun cdv A outer s H vs Q E hr h => ?_)
  · obtain ⟨r, m, ns, ps, rfl, _⟩ := h
    rfl
  · obtain ⟨r, m, ns, ps, rfl, R, M, S, hm, q⟩ := h
    have hu5 := un65 hr
    refine ⟨_, pss_cons (ps_set (i := 2) scLed.nd rfl (Or.inr rfl) (pe_callTy call_list_of (by rfl) B.list boot_list (pa_cons (pe_meth (pv 0) T.cl mB GB hr bB .nil pass0 (pa_cons (pv 1) pa_nil)) pa_nil)))
      (pss_cons (ps_set (i := 3) scLed.nd rfl (Or.inl rfl) pe_int)
      (pss_cons (ps_while PassesOwn.never (pt_cmpR op_lt (pv 3) (pe_callB call_len_seq (by rfl) B.len PySem.boot_len (pa_cons (pv 2) pa_nil)) (nomark _))
        (pss_cons (ps_setLc (i := 4) (own := [("other", 5)]) (g := gName 5) rfl scLed.nd rfl rfl (by rfl) (pi_tup (pe_meth (pv 0) T.cl mB GB hr bB .nil pass0 (pa_cons (pe_ix ix_list (pv 2) (pv 3) (fun _ _ => rfl)) pa_nil))) (blkOk_by (N := ["rule", "mark", "found", "at", "fresh", "other"]) (sc := defScope sLed) (by decide +kernel))
            (fun _ _ _ _ _ => pg_name (i := 5) scLed.nd rfl (Or.inl rfl)) (fun _ _ _ _ _ => pts_one (pt_cmpR (op_notInDK (K := K) rfl hu5) (pv 5) (pv 2) (by rfl))) (fun _ _ _ _ _ => pv 5))
        (pss_cons (ps_expr (pe_bm PySem.F.plainAttrs_list PySem.F.slot_list_extend PySem.F.type_list_extend mt_extend (pv 2) (pa_cons (pv 4) pa_nil)))
        (pss_one (ps_aug (i := 3) scLed.nd rfl (.inl rfl) pe_int ip_add)))))
      (pss_one (ps_ret (pv 2))))), ?_⟩
    obtain ⟨dx, a0, b0, t0, g1, g2, g3, g4⟩ := R.ex
    have fno := flds_no a0 b0 t0 (m := "behind") (by decide +kernel) (by decide +kernel) (by decide +kernel)
    have h8 := M.few
    have hP : ∀ p ∈ ps, Pr (ns.length : Int) p := fun p hp => S.pair p hp
    -- found = list(rule.behind(mark))
    refine ⟨.ref r, rfl, r, dx, _, rfl, g1, fno, .int m, rfl, r, ns, ps, m.toNat, by rw [Int.toNat_of_nonneg hm.1]; rfl, R, by omega, fun c hc => ?_⟩
    rw [Int.toNat_of_nonneg hm.1] at hc
    refine ⟨c, _, rfl, .inr hc, fun F0 nF => ?_⟩
    have small : ∀ fs : List Int, fs.Nodup → (∀ x ∈ fs, Rch ps m x) → fs.length ≤ 8 := fun fs nd hr => by
      have z := nodup_le (us := upN ns.length) nd fun x hx => mem_upN.mpr (Rch.bound hP (hr x hx)).2
      rw [upN_len] at z; omega
    refine while_by (fun σ H' => ∃ (fs : List Int) (a : Nat) (y4 y5 : Option V), σ = [some (.ref r), some (.int m), some (.ref F0), some (.int (a : Int)), y4, y5] ∧ Same H H' ∧ H' F0 = some (.lst (fs.map V.int)) ∧ fs.Nodup ∧ (∀ x ∈ fs, Rch ps m x) ∧ (∀ j, [m, j] ∈ ps → j ∈ fs) ∧ (∀ (k : Nat) (x : Int), k < a → fs[k]? = some x → ∀ j, [x, j] ∈ ps → j ∈ fs) ∧ a ≤ fs.length)
      (fun σ _ => atOf σ) ?_ ?_ ?_
    · exact ⟨behindOf ps m, 0, none, none, rfl, same_upd nF, upd_same, behind_nodup hP S.nd m, fun x hx => .one ((mem_behind hP).mp hx), fun j hj => (mem_behind hP).mpr hj, fun k x hk => absurd hk (Nat.not_lt_zero _), Nat.zero_le _⟩
    · rintro σ H1 ⟨fs, a, y4, y5, rfl, s1, eF, nd, rc, cl, up, hle⟩
      have hl8 := small fs nd rc
      refine ⟨.int (a : Int), rfl, .ref F0, rfl, F0, _, rfl, .inl (lstNew eF), _, _, rfl, rfl, _, rfl, ite2 (fun hlt => ?_) (fun hge => ?_)⟩
      · have hlt : a < fs.length := by
          have z := of_decide_eq_true hlt
          rw [List.length_map] at z; omega
        obtain ⟨x, gx⟩ : ∃ x, fs[a]? = some x := ⟨_, List.getElem?_eq_getElem hlt⟩
        have hx := (Rch.bound hP (rc x (List.mem_of_getElem? gx))).2
        have R1 := R.same s1
        refine ⟨.ref r, rfl, r, dx, _, rfl, s1 _ _ g1, fno, .ref F0, rfl, .int (a : Int), rfl, F0, _, _, .int x, rfl, rfl, lstNew eF, atI_nat (by rw [List.getElem?_map, gx]; rfl), ?_⟩
        refine ⟨r, ns, ps, x.toNat, by rw [Int.toNat_of_nonneg hx.1]; rfl, R1, by omega, fun c2 hc2 => ?_⟩
        rw [Int.toNat_of_nonneg hx.1] at hc2
        refine ⟨c2, rfl, ⟨_, hc2⟩, fun D nD => ?_⟩
        have hbl : (behindOf ps x).length ≤ 64 := by
          have := behind_len ps x
          have := S.few
          omega
        refine lc_filtT (f := fun y => decide (y ∉ fs)) hc2 (by omega) nD (fun y hy H' s' A B h => ?_) (fun y H' Q h => ⟨.int y, rfl, h⟩) fun H2 s2 eD => ?_
        · refine ⟨.int y, rfl, .ref F0, rfl, .int y, fs.map PyData.int, .int y, dpL (lstNew (s' _ _ eF)), shapedN y, shapedLI fs, _, rfl, ?_⟩
          rw [any_int, ← decide_not]
          exact h H' (Same.refl H')
        · have eF2 := s2 _ _ eF
          have nF2 : ∀ H' o, Same H H' → Same H (upd H' F0 o) := fun H' o s b u e => by
            rw [upd_ne (ne_of_none e nF)]; exact s b u e
          have fl : ((behindOf ps x).filter fun y => decide (y ∉ fs)).length ≤ 64 := Nat.le_trans (List.length_filter_le _ _) hbl
          refine ⟨.ref F0, rfl, .inl ⟨rfl, _, lstNew eF2⟩, .ref D, rfl, F0, D, _, _, rfl, rfl, eF2, eD, ?_, ?_⟩
          · rw [List.length_map, List.length_map]; exact Nat.le_of_lt (few1 (by omega))
          refine ⟨.int (a : Int), rfl, _, _, rfl, rfl, ?_⟩
          have mem2 : ∀ j, j ∈ fs ++ (behindOf ps x).filter (fun y => decide (y ∉ fs)) ↔ j ∈ fs ∨ [x, j] ∈ ps := fun j => by
            rw [List.mem_append, List.mem_filter, mem_behind hP]
            constructor
            · rintro (z | z)
              · exact .inl z
              · exact .inr z.1
            · rintro (z | z)
              · exact .inl z
              · by_cases e : j ∈ fs
                · exact .inl e
                · exact .inr ⟨z, decide_eq_true e⟩
          refine ⟨⟨fs ++ (behindOf ps x).filter (fun y => decide (y ∉ fs)), a + 1, _, _, rfl, nF2 _ _ (s1.trans s2), ?_, ?_, ?_, ?_, ?_, ?_⟩, ?_⟩
          · rw [upd_same, List.map_append]
          · rw [List.nodup_append]
            refine ⟨nd, (behind_nodup hP S.nd x).filter _, fun u hu v hv e => ?_⟩
            subst e
            exact of_decide_eq_true (List.mem_filter.mp hv).2 hu
          · intro j hj
            rcases (mem2 j).mp hj with z | z
            · exact rc j z
            · exact .more (rc x (List.mem_of_getElem? gx)) z
          · exact fun j hj => (mem2 j).mpr (.inl (cl j hj))
          · intro k z hk hz j hj
            refine (mem2 j).mpr ?_
            by_cases e : k = a
            · subst e
              rw [List.getElem?_append_left hlt, gx] at hz
              cases hz
              exact .inr hj
            · rw [List.getElem?_append_left (by omega)] at hz
              exact .inl (up k z (by omega) hz j hj)
          · rw [List.length_append]; omega
          · show 8 - ((a : Int) + 1).toNat < 8 - ((a : Int)).toNat
            omega
      · have hge : fs.length ≤ a := by
          have z : ¬ ((a : Int) < ((fs.map V.int).length : Int)) := fun z => hge (decide_eq_true z)
          rw [List.length_map] at z; omega
        refine ⟨.ref F0, rfl, q H1 F0 fs s1 nF eF hl8 fun j => ⟨rc j, fun h => ?_⟩⟩
        refine rch_closed cl (fun x hx j hj => ?_) h
        obtain ⟨k, hk, e⟩ := List.getElem_of_mem hx
        exact up k x (by omega) (by rw [List.getElem?_eq_getElem hk, e]) j hj
    · intro σ H1 Q1 Q2 hq h
      obtain ⟨x, e1, y, e2, p, l, e3, e4, i, j, e5, e6, b, e7, h⟩ := h
      exact ⟨x, e1, y, e2, p, l, e3, e4, i, j, e5, e6, b, e7, hq _ _ h⟩
end
end K20
namespace RV
open PySem PySem.Spec PyProof.Rows L2
/-! ### what repr asks of tuples of pairs -/
theorem small_log {i : Int} (h : i.natAbs < 10 ^ 12) : i.natAbs.log2 < 1920 := by
  rcases Nat.eq_zero_or_pos i.natAbs with e | e
  · rw [e]; decide
  · have h1 : i.natAbs < 2 ^ 64 := Nat.lt_of_lt_of_le h (by decide)
    have h2 : i.natAbs.log2 < 64 := (Nat.log2_lt (by omega)).mpr h1
    omega
theorem show_ints : ∀ ns : List Int, (∀ n ∈ ns, n.natAbs < 10 ^ 12) → PyData.showableAll (ns.map PyData.int) = true
  | [], _ => by simp [PyData.showableAll]
  | n :: r, h => by
    have h1 := small_log (h n (List.mem_cons_self ..))
    have h2 := show_ints r fun m hm => h m (List.mem_cons_of_mem _ hm)
    simp [PyData.showableAll, PyData.showable, h1, h2]
theorem show_dIs : ∀ ps : List (List Int), (∀ p ∈ ps, ∀ n ∈ p, n.natAbs < 10 ^ 12) → PyData.showableAll (ps.map dI) = true
  | [], _ => by simp [PyData.showableAll]
  | p :: r, h => by
    have h1 := show_ints p (h p (List.mem_cons_self ..))
    have h2 := show_dIs r fun m hm => h m (List.mem_cons_of_mem _ hm)
    have h3 : (dI p).showable = true := by simp only [dI, PyData.showable]; exact h1
    simp [PyData.showableAll, h3, h2]
theorem short_dIs : ∀ ps : List (List Int), (∀ p ∈ ps, ∀ n ∈ p, n.natAbs < 10 ^ 12) → PyData.intsShortAll 13 (ps.map dI) = true
  | [], _ => by simp [PyData.intsShortAll]
  | p :: r, h => by
    have h1 := PyData.intsShortAll_ints p (h p (List.mem_cons_self ..))
    have h2 := short_dIs r fun m hm => h m (List.mem_cons_of_mem _ hm)
    have h3 : (dI p).intsShort 13 = true := by simp only [dI, PyData.intsShort]; exact h1
    simp [PyData.intsShortAll, h3, h2]
theorem bulk_ints : ∀ ns : List Int, PyData.bulkAll (ns.map PyData.int) = ns.length
  | [] => by simp [PyData.bulkAll]
  | n :: r => by simp [PyData.bulkAll, PyData.bulk, bulk_ints r]; omega
theorem bulk_dIs : ∀ ps : List (List Int), (∀ p ∈ ps, p.length ≤ 2) → PyData.bulkAll (ps.map dI) ≤ 3 * ps.length
  | [], _ => by simp [PyData.bulkAll]
  | p :: r, h => by
    have h1 : (dI p).bulk = p.length := by simp only [dI, PyData.bulk, bulk_ints]
    have h2 := bulk_dIs r fun m hm => h m (List.mem_cons_of_mem _ hm)
    have h3 := h p (List.mem_cons_self ..)
    simp only [List.map_cons, PyData.bulkAll, h1, List.length_cons]
    omega
/-- (ps, os), two tuples of pairs -/
def d2 (ps os : List (List Int)) : PyData := .tuple [dTT ps, dTT os]
theorem pr_small {b : Int} (hb : b ≤ 64) {ps : List (List Int)} (h : ∀ p ∈ ps, Pr b p) : ∀ p ∈ ps, ∀ n ∈ p, n.natAbs < 10 ^ 12 := fun p hp n hn => by
  obtain ⟨x, y, rfl, hx, hy⟩ := h p hp
  simp only [List.mem_cons, List.not_mem_nil, or_false] at hn
  rcases hn with rfl | rfl <;> omega
theorem pr_len {b : Int} {ps : List (List Int)} (h : ∀ p ∈ ps, Pr b p) : ∀ p ∈ ps, p.length ≤ 2 := fun p hp => by
  obtain ⟨x, y, rfl, _⟩ := h p hp
  simp
structure Reprs (ps os : List (List Int)) : Prop where
  h1 : (d2 ps os).showable = true
  h2 : (d2 ps os).hasDict = false
  h3 : (d2 ps os).depth ≤ 64
  h4 : (d2 ps os).shown.length ≤ sizeLine
theorem reprs {b c : Int} (hb : b ≤ 64) (hc : c ≤ 64) {ps os : List (List Int)} (h : ∀ p ∈ ps, Pr b p) (h' : ∀ p ∈ os, Pr c p) (l1 : ps.length ≤ 1000) (l2 : os.length ≤ 1000) : Reprs ps os := by
  have lay : (d2 ps os).canLay0 = true := by
    simp only [d2, dTT, PyData.canLay0, PyData.canLayAll0, lay_dI, Bool.and_self]
  refine ⟨?_, PyData.hasDict_of_canLay _ lay, ?_, ?_⟩
  · simp only [d2, dTT, PyData.showable, PyData.showableAll, show_dIs ps (pr_small hb h), show_dIs os (pr_small hc h'), Bool.and_self]
  · have h1 := dep_dI ps
    have h2 := dep_dI os
    simp only [d2, dTT, PyData.depth, PyData.depthAll]
    omega
  · refine PyData.shown_fits_bulk (B := 13) (by decide) (by decide) (PyData.leavesShort_of_canLay0 13 _ lay ?_) ?_
    · simp only [d2, dTT, PyData.intsShort, PyData.intsShortAll, short_dIs ps (pr_small hb h), short_dIs os (pr_small hc h'), Bool.and_self]
    · have h1 := bulk_dIs ps (pr_len h)
      have h2 := bulk_dIs os (pr_len h')
      simp only [d2, dTT, PyData.bulk, PyData.bulkAll]
      omega
theorem d2_dp {K : PySem.W.Frag} {H : Hp} {T a b : Addr} {ps os : List (List Int)} (h : H T = some (.tup [.ref a, .ref b])) (h1 : Tups K H a ps) (h2 : Tups K H b os) : Dp K H (.ref T) (d2 ps os) :=
  .tup (.inl (.inl h)) (.cons h1.dp (.cons h2.dp .nil))
end RV
namespace RV
open PySem PySem.Spec PyProof.Rows L2
/-- (ns, ps): mirrors and steps -/
def d1 (ns : List Int) (ps : List (List Int)) : PyData := .tuple [dI ns, dTT ps]
structure Shows (d : PyData) : Prop where
  h1 : d.showable = true
  h2 : d.hasDict = false
  h3 : d.depth ≤ 64
  h4 : d.shown.length ≤ sizeLine
theorem shows_d1 {b : Int} (hb : b ≤ 64) {ns : List Int} {ps : List (List Int)} (hn : ∀ n ∈ ns, n.natAbs < 10 ^ 12) (ln : ns.length ≤ 1000) (h : ∀ p ∈ ps, Pr b p) (l1 : ps.length ≤ 1000) : Shows (d1 ns ps) := by
  have lay : (d1 ns ps).canLay0 = true := by
    simp only [d1, dTT, PyData.canLay0, PyData.canLayAll0, lay_dI, dI_lay, Bool.and_self]
  have i1 : (dI ns).showable = true := by simp only [dI, PyData.showable]; exact show_ints ns hn
  have i2 : (dI ns).intsShort 13 = true := by simp only [dI, PyData.intsShort]; exact PyData.intsShortAll_ints ns hn
  have i3 : (dI ns).bulk = ns.length := by simp only [dI, PyData.bulk, bulk_ints]
  refine ⟨?_, PyData.hasDict_of_canLay _ lay, ?_, ?_⟩
  · simp only [d1, dTT, PyData.showable, PyData.showableAll, i1, show_dIs ps (pr_small hb h), Bool.and_self]
  · have h1 := dep_dI ps
    simp only [d1, dTT, PyData.depth, PyData.depthAll, dI_dep]
    omega
  · refine PyData.shown_fits_bulk (B := 13) (by decide) (by decide) (PyData.leavesShort_of_canLay0 13 _ lay ?_) ?_
    · simp only [d1, dTT, PyData.intsShort, PyData.intsShortAll, i2, short_dIs ps (pr_small hb h), Bool.and_self]
    · have h1 := bulk_dIs ps (pr_len h)
      simp only [d1, dTT, PyData.bulk, PyData.bulkAll, i3]
      omega
theorem shows_dI {ns : List Int} (hn : ∀ n ∈ ns, n.natAbs < 10 ^ 12) (ln : ns.length ≤ 1000) : Shows (dI ns) := by
  have i3 : (dI ns).bulk = ns.length := by simp only [dI, PyData.bulk, bulk_ints]
  refine ⟨by simp only [dI, PyData.showable]; exact show_ints ns hn, PyData.hasDict_of_canLay _ (dI_lay ns), by rw [dI_dep]; decide, ?_⟩
  refine PyData.shown_fits_bulk (B := 13) (by decide) (by decide) (PyData.leavesShort_of_canLay0 13 _ (dI_lay ns) ?_) (by rw [i3]; omega)
  simp only [dI, PyData.intsShort]; exact PyData.intsShortAll_ints ns hn
theorem d1_dp {K : PySem.W.Frag} {H : Hp} {T a b : Addr} {ns : List Int} {ps : List (List Int)} (h : H T = some (.tup [.ref a, .ref b])) (h1 : SqT K H a (ns.map V.int)) (h2 : Tups K H b ps) : Dp K H (.ref T) (d1 ns ps) :=
  .tup (.inl (.inl h)) (.cons (dpT h1) (.cons h2.dp .nil))
theorem shaped_d1 (ns : List Int) (ps : List (List Int)) : SeqAt.shaped (d1 ns ps) = true := by
  have h1 := dep_dI ps
  have e : (d1 ns ps).depth ≤ 64 := by simp only [d1, dTT, PyData.depth, PyData.depthAll, dI_dep]; omega
  show ((d1 ns ps).canLay0 && decide ((d1 ns ps).depth ≤ 64)) = true
  rw [decide_eq_true e, Bool.and_true]
  simp only [d1, dTT, PyData.canLay0, PyData.canLayAll0, lay_dI, dI_lay, Bool.and_self]
theorem eqv_d1 (ns ms : List Int) (ps qs : List (List Int)) : PyData.eqv (d1 ns ps) (d1 ms qs) = (decide (ns = ms) && decide (ps = qs)) := by
  simp only [d1, PyData.eqv, PyData.eqvAll, eqvI, eqvTT, Bool.and_true]
end RV
set_option maxHeartbeats 4000000
namespace RV
open PySem PySem.Spec PyProof.Rows L2
section
variable {X : Cx}
/-- ts.index(t), tuples of ints in a tuple -/
def rIndexTs (K : PySem.W.Frag) : V → List V → Hp → VK → Prop := fun x xs H Q => ∃ (a b : Addr) (ps : List (List Int)) (p : List Int) (j : Nat), x = V.ref a ∧ xs = [V.ref b] ∧ Tups K H a ps ∧ SqT K H b (p.map V.int) ∧ ps[j]? = some p ∧ (∀ m, m < j → ps[m]? ≠ some p) ∧ Q (.int (j : Nat)) H
theorem mt_indexTs (hu : X.A.units + 65 < cLine) : MtR X "tuple.index" (rIndexTs X.K) := by
  intro pins s σ H x xs v us Q I rx rxs h
  obtain ⟨a, b, ps, p, j, rfl, rfl, hT, hb, hj, hno, q⟩ := h
  cases rx
  obtain ⟨u, rfl, ru⟩ := vals1 rxs
  cases ru
  obtain ⟨bs, r1⟩ := Dp.reads I (dI p) (.ref b) (.ref b) (dpT hb) rfl
  have lay := lay_dI ps
  have room : X.A.units + 1 + min (PyData.depthAll (ps.map dI)) (dI p).depth < cLine := by
    have := Nat.min_le_right (PyData.depthAll (ps.map dI)) (dI p).depth
    have e := dI_dep p
    omega
  obtain ⟨ks, rfl, hs, hks⟩ := hT
  obtain ⟨its, rv, ⟨⟨cls, dd, dat, sls⟩, ho, hc, n, hd⟩, hlen⟩ := I.tuple hs
  simp only at hc hd
  subst hc hd
  obtain ⟨as, rall⟩ := Dp.readsAll I ((ks.map (·.2)).map dI) _ its (dpTs ks hks) rv
  have ln : its.length = ((ks.map (·.2)).map dI).length := SeqAt.ReadsAll.length _ its as rall
  have mp : its.map (SeqAt.readOf s.heap) = (ks.map (·.2)).map dI := SeqAt.readsAll_map _ its as lay rall
  have jl : j < its.toArray.size := by
    have := (List.getElem?_eq_some_iff.mp hj).1
    rw [List.size_toArray, ln, List.length_map]; exact this
  have at_ : ∀ (m : Nat) (hm : m < its.toArray.size), ∃ z, (ks.map (·.2))[m]? = some z ∧ SeqAt.readOf s.heap its.toArray[m] = dI z := fun m hm => by
    have hm2 : m < (ks.map (·.2)).length := by rw [List.size_toArray, ln, List.length_map] at hm; exact hm
    refine ⟨_, List.getElem?_eq_getElem hm2, ?_⟩
    have e : (its.map (SeqAt.readOf s.heap))[m]? = some (dI (ks.map (·.2))[m]) := by rw [mp, List.getElem?_map, List.getElem?_eq_getElem hm2]; rfl
    have hml : m < its.length := by simpa using hm
    rw [List.getElem?_map, List.getElem?_eq_getElem hml] at e
    have e' := Option.some.inj e
    simpa using e'
  refine call_meets PySem.F.slot_tuple_index ⟨_, ho, rfl⟩ PySem.F.entry_tuple_index (PySem.F.args_tuple_index_2 _ _) (TI.tuple_indexAt a its.toArray n dd sls (.ref b) (fun y => PyData.eqv (SeqAt.readOf s.heap y) (dI p)) j jl ?_ ?_)
    ⟨ho, SeqAt.items_eqAt (vs := its.toArray) (show ReadsAll s.heap its.toArray.toList _ as from rall) r1 lay (dI_lay p) room, ⟨.int (j : Nat), H, I.tok _, ⟨_, rfl⟩, q⟩⟩
  · obtain ⟨z, e1, e2⟩ := at_ j jl
    rw [hj] at e1
    cases e1
    show PyData.eqv (SeqAt.readOf s.heap its.toArray[j]) (dI p) = true
    rw [e2, eqvI]
    exact decide_eq_true rfl
  · intro m hm hmj
    obtain ⟨z, e1, e2⟩ := at_ m hm
    show PyData.eqv (SeqAt.readOf s.heap its.toArray[m]) (dI p) = false
    rw [e2, eqvI]
    exact decide_eq_false fun e => hno m hmj (by rw [e1, e])
/-- repr(None), repr of a whole number -/
def rReprO : List V → Hp → VK → Prop := fun xs H Q => (∃ i : Int, xs = [.int i] ∧ i.natAbs.log2 < 1920 ∧ Q (.str (toString i)) H) ∨ (xs = [.non] ∧ Q (.str "None") H)
theorem call_reprO : CallR X (.builtin "repr") rReprO := by
  intro pins s σ H xs us Q I r h
  rcases h with h | ⟨rfl, q⟩
  · exact SkE.call_repr_int pins s σ H xs us Q I r h
  · obtain ⟨u, rfl, rx⟩ := vals1 r
    cases (show u = Value.none from rx)
    exact PySem.P.repr_of_none ⟨.str "None", H, I.tok _, ⟨_, rfl⟩, q⟩
theorem op_neDK {K : PySem.W.Frag} (h : X.K = K) (hu : X.A.units + 64 < cLine) : OpR X (compareOp .NotEq) (rNeD K) := h ▸ op_neD hu
end
theorem bulk_any : ∀ (ps : List (List Int)) (k : Nat), (∀ p ∈ ps, p.length ≤ k) → PyData.bulkAll (ps.map dI) ≤ (k + 1) * ps.length
  | [], k, _ => by simp [PyData.bulkAll]
  | p :: r, k, h => by
    have h1 : (dI p).bulk = p.length := by simp only [dI, PyData.bulk, bulk_ints]
    have h2 := bulk_any r k fun m hm => h m (List.mem_cons_of_mem _ hm)
    have h3 := h p (List.mem_cons_self ..)
    simp only [List.map_cons, PyData.bulkAll, h1, List.length_cons, Nat.mul_succ]
    omega
theorem shows_dTT {ps : List (List Int)} (hn : ∀ p ∈ ps, ∀ n ∈ p, n.natAbs < 10 ^ 12) (h1 : ∀ p ∈ ps, p.length ≤ 8) (h2 : ps.length ≤ 64) : Shows (dTT ps) := by
  have lay : (dTT ps).canLay0 = true := by simp only [dTT, PyData.canLay0]; exact lay_dI ps
  refine ⟨by simp only [dTT, PyData.showable]; exact show_dIs ps hn, PyData.hasDict_of_canLay _ lay, ?_, ?_⟩
  · have h := dep_dI ps
    simp only [dTT, PyData.depth]; omega
  · refine PyData.shown_fits_bulk (B := 13) (by decide) (by decide) (PyData.leavesShort_of_canLay0 13 _ lay ?_) ?_
    · simp only [dTT, PyData.intsShort]; exact short_dIs ps hn
    · have b := bulk_any ps 8 h1
      simp only [dTT, PyData.bulk]
      omega
/-! ### lots in order -/
end RV
set_option maxHeartbeats 4000000
/-! sorted(s), s a set of tuples of ints of any lengths, none of them empty -/
namespace RV
open PySem PySem.Spec PyProof.Rows L2 TS
/-- one tuple ahead of another -/
def lexA : List Int → List Int → Bool
  | [], [] => false
  | [], _ :: _ => true
  | _ :: _, [] => false
  | p :: ns, q :: ms => if p = q then lexA ns ms else decide (p < q)
section
variable {prog : Program} {w : World} {A : Around} {E : Value → Shared → Prop} {s : Shared}
theorem kat_any {Q : Bool → Shared → Prop} {b fin : Bool} : ∀ {ns ms : List Int} {xs ys : List Value} (i : Nat), IntsAre xs ns → IntsAre ys ms → fin = decide (ns.length < ms.length) → Q (lexA ns ms) s → PySem.W.KatLex prog w A b fin Q (xs.zip ys) i s
  | [], [], _, _, i, .nil, .nil, hf, h => by
    have e : fin = false := hf
    rw [e]; exact PySem.W.kat_nil h
  | [], _ :: ms, _, _, i, .nil, .cons _ _ _, hf, h => by
    have e : fin = true := by rw [hf]; simp
    rw [e]; exact PySem.W.kat_nil h
  | _ :: _, [], _, _, i, .cons _ _ _, .nil, hf, h => by
    have e : fin = false := by rw [hf]; simp
    rw [e]; exact PySem.W.kat_nil h
  | p :: ns, q :: ms, _, _, i, .cons _ t hx, .cons _ u hy, hf, h => by
    refine PySem.W.kat_cons (wpAny_eqBool_int ?_)
    by_cases e : p = q
    · subst e
      rw [beq_self_eq_true]
      have h' : Q (lexA ns ms) s := by simpa [lexA] using h
      refine PySem.W.kat_yes (kat_any (i + 1) hx hy ?_ h')
      rw [hf]; simp
    · rw [beq_eq_false_iff_ne.mpr e]
      refine PySem.W.kat_no (oneLt_ints _ ?_)
      simpa [lexA, e] using h
theorem heads_of {h : Heap} : ∀ vs : List Value, (∀ v ∈ vs, ∃ ns, TupInts h v ns ∧ ns ≠ []) → ∃ fs, PySem.W.KatTups h vs fs ∧ fs.length = vs.length ∧ ∀ f ∈ fs, ∃ n t, f = Value.int n t
  | [], _ => ⟨[], .nil, rfl, fun _ z => nomatch z⟩
  | v :: vs, x => by
    obtain ⟨fs, kt, hlen, hall⟩ := heads_of vs fun z hz => x z (List.mem_cons_of_mem _ hz)
    obtain ⟨ns, ⟨a, xs, rfl, ⟨ob, hob, hcl, k, hdata⟩, hi⟩, hne⟩ := x v (List.mem_cons_self ..)
    cases hxs : xs.toList with
    | nil =>
      rw [hxs] at hi
      cases hi
      exact absurd rfl hne
    | cons y ys =>
      rw [hxs] at hi
      cases hi with
      | cons m t _ =>
        have z : xs[0]? = some (Value.int m t) := by rw [← Array.getElem?_toList, hxs]; rfl
        refine ⟨.int m t :: fs, .cons hob hcl hdata z kt, by rw [List.length_cons, hlen, List.length_cons], fun f hf => ?_⟩
        rcases List.mem_cons.mp hf with rfl | hf
        · exact ⟨m, t, rfl⟩
        · exact hall f hf
theorem kind_any {vs : List Value} (h2 : 2 ≤ vs.length) (x : ∀ v ∈ vs, ∃ ns, TupInts s.heap v ns ∧ ns ≠ []) (r : Value → Int) (hr : ∀ u ∈ vs, ∀ v ∈ vs, ∀ ns ms, TupInts s.heap u ns → TupInts s.heap v ms → lexA ns ms = decide (r u < r v)) (Q : SortKind → Shared → Prop)
    (h : ∀ κ, Cmp prog w A s κ (pairsOf vs) r → Q κ s) : wpAny (model prog w) A (keyKind' vs.toArray) Q E s := by
  obtain ⟨fs, kt, hlen, hall⟩ := heads_of vs x
  refine PySem.W.kat_kind (T := .type "int") kt (by rw [hlen]; omega) (fun f hf => ?_) rfl (h _ fun p q hp hq Q' E' hQ => ?_)
  · obtain ⟨n, t, rfl⟩ := hall f hf
    exact .of_pure rfl
  · rw [pairsOf_toList] at hp hq
    have ip := mem_zip_self hp
    have iq := mem_zip_self hq
    obtain ⟨ns, tp, _⟩ := x _ ip.2
    obtain ⟨ms, tq, _⟩ := x _ iq.2
    have hlex := hr _ ip.2 _ iq.2 ns ms tp tq
    rw [← hlex] at hQ
    obtain ⟨a, xs, e1, ⟨o1, ho1, _, n1, hd1⟩, i1⟩ := tp
    obtain ⟨b, ys, e2, ⟨o2, ho2, _, n2, hd2⟩, i2⟩ := tq
    rw [e1, e2]
    refine PySem.W.kat_lt ho1 hd1 ho2 hd2 (kat_any 0 i1 i2 ?_ hQ)
    rw [← i1.length, ← i2.length, Array.length_toList, Array.length_toList]
theorem call_sort_any {a : Addr} {vs : List Value} {n : Nat} {Q : Value → Shared → Prop} (ρ : List Int → Int) (ho : s.heap.get? a = some (seqObj "list" vs.toArray n)) (h64 : vs.length < 64) (x : ∀ v ∈ vs, ∃ ns, TupInts s.heap v ns ∧ ns ≠ [])
    (hr : ∀ u ∈ vs, ∀ v ∈ vs, ∀ ns ms, TupInts s.heap u ns → TupInts s.heap v ms → lexA ns ms = decide (ρ ns < ρ ms))
    (h : ∀ out : Array Value, out.toList.Perm vs → out.toList.Pairwise (fun u v => ρ (intsOf s.heap u) ≤ ρ (intsOf s.heap v)) → Q .none { s with heap := sortedHeap s.heap a vs out }) :
    wpAny (model prog w) A (call (.builtin "list.sort") [.ref a]) Q E s := by
  have stays : ∀ b o, s.heap.get? b = some o → o.cls = .type "tuple" → (midHeap s.heap a vs).get? b = some o := fun b o e hc => by
    refine midHeap_old (fun z => ?_) e
    rw [z, ho] at e
    cases e
    have hc2 : Value.type "list" = Value.type "tuple" := hc
    injection hc2 with hc3
    exact absurd hc3 (by decide)
  refine wpAny_call_entry slot_list_sort ⟨_, ho, rfl⟩ entry_list_sort (SK.plain_sort (r := fun v => ρ (intsOf s.heap v)) ho h64 (fun h2 Q hQ => ?_) fun ps out h1 h2 h3 => ?_) (args_list_sort _)
  · refine kind_any (s := { s with heap := midHeap s.heap a vs }) h2 (fun v hv => ?_) _ (fun u hu v hv ns ms tu tv => ?_) Q hQ
    · obtain ⟨ns, t, ne⟩ := x v hv
      exact ⟨ns, t.keeps stays, ne⟩
    · obtain ⟨ns0, t0, _⟩ := x u hu
      obtain ⟨ms0, t1, _⟩ := x v hv
      have e0 : ns = ns0 := tu.ints.symm.trans (t0.keeps stays).ints
      have e1 : ms = ms0 := tv.ints.symm.trans (t1.keeps stays).ints
      subst e0 e1
      rw [hr u hu v hv ns ms t0 t1]
      show decide _ = decide (ρ (intsOf s.heap u) < ρ (intsOf s.heap v))
      rw [t0.ints, t1.ints]
  · obtain ⟨p, o⟩ := out_rank (r := fun v => ρ (intsOf s.heap v)) h1 h2 h3
    exact ⟨_, rfl, h out p o⟩
end
section
variable {P : Program} {w : World} {A : Around} {E : Value → Shared → Prop} {s : Shared}
theorem refs_some : ∀ (L : List (Addr × List Int)) (vs : List Value), (∀ v ∈ vs, ∃ q ∈ L, v = Value.ref q.1) → ∃ L1 : List (Addr × List Int), vs = L1.map (fun q => Value.ref q.1) ∧ ∀ q ∈ L1, q ∈ L
  | _, [], _ => ⟨[], rfl, fun _ z => nomatch z⟩
  | L, v :: vs, h => by
    obtain ⟨q, hq, rfl⟩ := h v (List.mem_cons_self ..)
    obtain ⟨L1, rfl, hs⟩ := refs_some L vs fun z hz => h z (List.mem_cons_of_mem _ hz)
    exact ⟨q :: L1, rfl, fun z hz => (List.mem_cons.mp hz).elim (fun e => e ▸ hq) (hs z)⟩
theorem sorted_setA {a : Addr} {L : List (Addr × List Int)} {es : Array (Int × Value)} {ep : Nat} {t : SetTable} {Q : Value → Shared → Prop} (ρ : List Int → Int) (R : SetTR P w s.heap a L es ep t) (hh : A.handled = none)
    (hne : ∀ p ∈ L, p.2 ≠ []) (hr : ∀ p ∈ L, ∀ q ∈ L, lexA p.2 q.2 = decide (ρ p.2 < ρ q.2))
    (hQ : ∀ s' p (out : Array Value) (c : Nat) (L' : List (Addr × List Int)), (∀ b o, s.heap.get? b = some o → s'.heap.get? b = some o) → s'.gens = s.gens → s'.os = s.os → s.heap.objs.size ≤ p → s'.heap.get? p = some (seqObj "list" out c) →
      out.toList = L'.map (fun q => Value.ref q.1) → L'.Perm L → L'.Pairwise (fun q r => ρ q.2 ≤ ρ r.2) → Q (.ref p) s') : wpAny (model P w) A (call (.builtin "sorted") [.ref a]) Q E s := by
  obtain ⟨o, ho, hex, hd⟩ := R.ob
  have size64 := R.size
  have few64 := R.few
  refine Calls.call_function_entry kind_sorted plain_sorted entry_sorted (args_sorted1 _) ?_
  unfold Builtin.«sorted»
  refine wpAny_bind (m := checkCount "sorted" 1 1 _) (wpAny_pure (wpAny_bind (collect_set (A := A.in1) hh ⟨o, ho, hex.1, hd⟩ R.fits (by unfold scanBound; omega) R.tab.ris R.led fun s1 vs k1 hz g1 o1 pm => ?_)))
  have rows : es.toList.map (·.2) = L.map fun q => Value.ref q.1 := by
    rw [R.rows]; unfold rowsOf
    rw [List.map_map]; rfl
  rw [rows] at pm
  have same1 : ∀ q ∈ L, ∀ r ∈ L, q.1 = r.1 → q = r := fun q hq r hr e => by
    have z := R.tup q hq
    rw [e] at z
    exact Prod.ext e (z.inj (R.tup r hr))
  have nodL : L.Nodup := nodup_of_map R.nd
  have nodR : (L.map fun q => Value.ref q.1).Nodup := List.pairwise_map.mpr (List.Pairwise.imp_of_mem (fun {q r} hq hr ne e => ne (same1 q hq r hr (Value.ref.inj e))) nodL)
  have lvs : vs.length < 64 := by rw [pm.length_eq, List.length_map]; exact few64
  refine wpAny_bind (wpAny_newList ?_ (by rw [sizeLine_eq]; omega))
  have atL : (s1.heap.push (seqObj "list" vs.toArray 0)).get? s1.heap.objs.size = some (seqObj "list" vs.toArray 0) := Heap.get?_push_size _ rfl
  have tups : ∀ q ∈ L, TupInts (s1.heap.push (seqObj "list" vs.toArray 0)) (.ref q.1) q.2 := fun q hq => tupInts_of (P := P) (w := w) (isT_keep (R.tup q hq) fun b u e => Heap.get?_push_of_some _ (k1 b u e))
  have from_ : ∀ v ∈ vs, ∃ q ∈ L, v = Value.ref q.1 := fun v hv => by
    obtain ⟨q, hq, e⟩ := List.mem_map.mp (pm.mem_iff.mp hv)
    exact ⟨q, hq, e.symm⟩
  refine wpAny_bind (wpAny_holding (call_sort_any (s := { s1 with heap := s1.heap.push (seqObj "list" vs.toArray 0) }) ρ atL lvs (fun v hv => ?_) (fun u hu v hv ns ms tu tv => ?_) fun out a1 a2 => ?_))
  · obtain ⟨q, hq, rfl⟩ := from_ v hv
    exact ⟨q.2, tups q hq, hne q hq⟩
  · obtain ⟨q, hq, rfl⟩ := from_ u hu
    obtain ⟨r, hr', rfl⟩ := from_ v hv
    have e1 : ns = q.2 := tu.ints.symm.trans (tups q hq).ints
    have e2 : ms = r.2 := tv.ints.symm.trans (tups r hr').ints
    subst e1 e2
    exact hr q hq r hr'
  · obtain ⟨c, hc⟩ := sortedHeap_at (vs := vs) (out := out) atL
    obtain ⟨L', e', hs'⟩ := refs_some L out.toList fun v hv => from_ v (a1.mem_iff.mp hv)
    have pm' : (L'.map fun q => Value.ref q.1).Perm (L.map fun q => Value.ref q.1) := by rw [← e']; exact a1.trans pm
    have pL : L'.Perm L := by
      refine (List.perm_ext_iff_of_nodup (nodup_of_map (pm'.nodup_iff.mpr nodR)) nodL).mpr fun q => ⟨hs' q, fun hq => ?_⟩
      obtain ⟨r, hr', e⟩ := List.mem_map.mp (pm'.mem_iff.mpr (List.mem_map.mpr ⟨q, hq, rfl⟩))
      rw [← same1 r (hs' r hr') q hq (Value.ref.inj e)]; exact hr'
    have pw : L'.Pairwise (fun q r => ρ q.2 ≤ ρ r.2) := by
      rw [e'] at a2
      refine List.Pairwise.imp_of_mem (fun {q r} hq hr' z => ?_) (List.pairwise_map.mp a2)
      have z' : ρ (intsOf (s1.heap.push (seqObj "list" vs.toArray 0)) (.ref q.1)) ≤ ρ (intsOf (s1.heap.push (seqObj "list" vs.toArray 0)) (.ref r.1)) := z
      rwa [(tups q (hs' q hq)).ints, (tups r (hs' r hr')).ints] at z'
    refine wpAny_pure ⟨_, rfl, hQ _ s1.heap.objs.size out c L' (fun b u e => ?_) g1 o1 hz hc e' pL pw⟩
    have lt := Heap.lt_size (k1 b u e)
    show (sortedHeap (s1.heap.push (seqObj "list" vs.toArray 0)) s1.heap.objs.size vs out).get? b = some u
    rw [sortedHeap_old (Nat.ne_of_lt lt) (by rw [size_push']; exact Nat.lt_succ_of_lt lt)]
    exact Heap.get?_push_of_some _ (k1 b u e)
end
section
variable {X : Cx}
def rSortA (K : PySem.W.Frag) (P : Program) (w : World) : List V → Hp → VK → Prop := fun vs H Q => ∃ (a : Addr) (L : List (Addr × List Int)) (ρ : List Int → Int), vs = [V.ref a] ∧ H a = some (SetTO P w a L) ∧ (∀ p ∈ L, SqT K H p.1 (p.2.map V.int)) ∧
  (∀ p ∈ L, p.2 ≠ []) ∧ (∀ p ∈ L, ∀ q ∈ L, lexA p.2 q.2 = decide (ρ p.2 < ρ q.2)) ∧
  ∀ (L' : List (Addr × List Int)) (p : Addr), L'.Perm L → (L'.map (·.2)).Nodup → L'.length < 64 → L'.Pairwise (fun q r => ρ q.2 ≤ ρ r.2) → H p = none → Q (.ref p) (upd H p (.lst (L'.map fun q => V.ref q.1)))
theorem cr_sortedA (hc : X.calm = true) : CallR X (.builtin "sorted") (rSortA X.K X.prog X.w) := by
  intro pins s σ H vs us Q I r h
  obtain ⟨a, L, ρ, rfl, ha, hk, hne, hr, q⟩ := h
  have R0 : SetT0 X.prog X.w s.heap a L := (I.hok a _ ha).1
  obtain ⟨es, ep, t, R⟩ := R0.full fun p hp => I.isT (hk p hp)
  rw [Vals.ref1 r]
  refine sorted_setA ρ R (I.ok.hd hc) hne hr fun s' p out c L' k g o hp hg hout pm pw => ?_
  have few : L'.length < 64 := by rw [pm.length_eq]; exact R.few
  have len : (L'.map fun q => V.ref q.1).length ≤ sizeLine := by rw [List.length_map, sizeLine_eq]; omega
  have new : H p = none := I.hok.fresh hp
  have vals : Vals (L'.map fun q => V.ref q.1) out.toList := by rw [hout]; exact vals_of_refs L'
  have J : Inv X pins σ (upd H p (.lst (L'.map fun q => V.ref q.1))) { s with heap := s'.heap, gens := s'.gens, drawn := s'.drawn, toks := s'.toks } :=
    I.call (ch := []) (Un.laid k hp new) (I.hok.laid k hp ⟨len, out.toList, c, vals, hg⟩) (by rw [g]; exact I.bare) (fun _ z => nomatch z)
  have e : s' = { s with heap := s'.heap, gens := s'.gens, drawn := s'.drawn, toks := s'.toks } := by
    cases s'; cases s; cases o; rfl
  rw [e]
  exact ⟨.ref p, _, J, rfl, q L' p pm ((pm.map (·.2)).nodup_iff.mpr R.nd) few pw new⟩
end
end RV
set_option maxHeartbeats 4000000
namespace RV
open PySem PySem.Spec PyProof.Rows L2
/-- a tuple known to be plain: its methods may be asked -/
def TupD (H : Hp) (a : Addr) (xs : List V) : Prop := ∃ o : Obj, o.dict = none ∧ o.cls = .type "tuple" ∧ H a = some (.frz o (.tup xs))
theorem TupD.sq {K : PySem.W.Frag} {H : Hp} {a : Addr} {xs : List V} (h : TupD H a xs) : SqT K H a xs := by
  obtain ⟨o, _, _, h⟩ := h
  exact .inl (.inr ⟨o, h⟩)
theorem TupD.same {H H' : Hp} {a : Addr} {xs : List V} (h : TupD H a xs) (s : Same H H') : TupD H' a xs := by
  obtain ⟨o, h1, h2, h⟩ := h
  exact ⟨o, h1, h2, s _ _ h⟩
/-- a tuple of plain tuples of ints -/
def TupsD (H : Hp) (a : Addr) (ps : List (List Int)) : Prop := ∃ ks : List (Addr × List Int), ks.map (·.2) = ps ∧ H a = some (.tup (ks.map fun p => V.ref p.1)) ∧ ∀ p ∈ ks, TupD H p.1 (p.2.map V.int)
theorem TupsD.tups {K : PySem.W.Frag} {H : Hp} {a : Addr} {ps : List (List Int)} (h : TupsD H a ps) : Tups K H a ps :=
  let ⟨ks, h1, h2, h3⟩ := h; ⟨ks, h1, tupNew h2, fun p hp => (h3 p hp).sq⟩
theorem TupsD.same {H H' : Hp} {a : Addr} {ps : List (List Int)} (h : TupsD H a ps) (e : Same H H') : TupsD H' a ps :=
  let ⟨ks, h1, h2, h3⟩ := h; ⟨ks, h1, e _ _ h2, fun p hp => (h3 p hp).same e⟩
section
variable {X : Cx} {a : Expr} {ta : TE}
/-- tuple(x) of a list: a new plain tuple -/
def kTupF (K : PySem.W.Frag) (x : V) (H : Hp) (Q : VK) : Prop := ∃ p xs, x = .ref p ∧ SqL K H p xs ∧ ∀ (q : Addr) (o : Obj), H q = none → o.dict = none → o.cls = .type "tuple" → Q (.ref q) (upd H q (.frz o (.tup xs)))
theorem rl_tupleF (pins : List (Addr × Obj)) (s : Shared) (σ : L2.St) (H : Hp) (x : V) (v : Value) (Q : VK) (I : Inv X pins σ H s) (r : RelV x v) (h : kTupF X.K x H Q) :
    wpAny (model X.prog X.w) X.A (call (.type "tuple") [v]) (EP X pins σ Q) X.xe s := by
  obtain ⟨p, xs, rfl, hs, q⟩ := h
  obtain rfl : v = .ref p := r
  obtain ⟨its, rv, pl, hz⟩ := I.list hs
  refine call_tuple_list pl.isList (fun h' hk => ?_) (by rw [List.size_toArray, ← rv.length]; exact hz)
  have I1 : Inv X pins σ H { s with heap := h' } := I.kept (t' := s.toks) hk
  have I2 : Inv X pins σ (upd H h'.objs.size (.frz { cls := .type "tuple", data := .seq its.toArray } (.tup xs))) { s with heap := h'.push { cls := .type "tuple", data := .seq its.toArray } } :=
    I1.laid (t' := s.toks) (fun b o e => Heap.get?_push_of_some _ e) (Nat.le_refl _) (show ObjOk X.prog X.w _ _ _ (.frz { cls := .type "tuple", data := .seq its.toArray } (.tup xs)) from ⟨Heap.get?_push_size _ rfl, hz, its, rv, IsTup.new _ _⟩)
  exact ⟨.ref h'.objs.size, _, I2, rfl, q _ _ (I1.hok.fresh (Nat.le_refl _)) rfl rfl⟩
theorem pe_tupleF {p pos : Pos} (hg : Gl X "tuple") (hm : X.mg "tuple" = none) (ha : PE X a ta) (na : starEach [a] X.env = (false, eval a X.env) :: starEach [] X.env := by rfl) :
    PE X (.Call (.Name "tuple" p) [a] [] pos) (tThen ta (kTupF X.K)) := by
  refine ⟨fun pins s σ H Q I h => ?_⟩
  exact Call_ (ld_blt I hg hm boot_tuple (PyProof.Rows.callWith_type1 (one_arg ha I h (fun v s2 x H2 I2 r q => rl_tupleF pins s2 σ H2 x v Q I2 r q) na) na))
def tBMT (r : V → List V → Hp → VK → Prop) (to : TE) (t : TA) : TE := fun σ H Q => to σ H fun x H1 => (∃ p xs, x = .ref p ∧ TupD H1 p xs) ∧ t σ H1 fun xs H2 => r x xs H2 Q
variable {o e : Expr} {es : List Expr} {to : TE} {t : TA} {name : Str} {apos cpos : Pos} {id : String} {r : V → List V → Hp → VK → Prop}
/-- t.m(e, ..), a plain tuple's method -/
theorem pe_bmT (slot : Slot "tuple" name id) (hty : typeOf (.builtin id) = pure (.type "method_descriptor")) (hm : MtR X id r) (ho : PE X o to) (ha : PA X (e :: es) t)
    (hbase : attributeBase o name X.env (eval o X.env) = eval o X.env := by rfl)
    (hfew : ((backTo cpos (starEach (e :: es) X.env)).all (fun x => !x.1) && (backToKw cpos (keywordEach [] X.env)).all (fun x => x.1.isSome)
      && decide ((e :: es).length + ([] : List Keyword).length + (if ([] : List Keyword).isEmpty then 0 else 1) < 30)) = true := by rfl)
    (hline : (apos.endLine == cpos.line) = true := by rfl) (hs : starEach (e :: es) X.env = (false, eval e X.env) :: starEach es X.env := by rfl) (hplain : (backTo cpos (starEach es X.env)).any (·.1) = false := by rfl) :
    PE X (.Call (.Attribute o name apos) (e :: es) [] cpos) (tBMT r to t) := by
  refine ⟨fun pins s σ H Q I h => ?_⟩
  refine wpAny_Call_method_late hbase hfew hline rfl (thn (ho.run pins s σ H _ I h) fun v s1 ⟨x, H1, I1, r1, ty, q1⟩ => ?_)
  obtain ⟨p, xs, rfl, ob, od, oc, hp⟩ := ty
  obtain rfl : v = .ref p := r1
  have g : s1.heap.get? p = some ob := (I1.hok p _ hp).1
  refine ⟨"tuple", id, PySem.F.plainAttrs_tuple, slot, hty, ⟨ob, g, oc⟩, fun a e => ?_, ?_⟩
  · cases e
    exact ⟨ob, g, od⟩
  have hA := ha.run cpos pins s1 σ H1 _ I1 q1
  rw [hs] at hA ⊢
  refine Calls.callWith_builtin (by show (false || (backTo cpos (starEach es X.env)).any (·.1)) = false; rw [hplain] <;> rfl) (Calls.evalArgs_plain ?_)
  exact thn hA fun us s2 ⟨vs, H2, I2, r2, q2⟩ => hm pins s2 σ H2 (.ref p) vs (.ref p) us Q I2 rfl r2 q2
end
section
variable {X : Cx}
/-- t.index(n), t a tuple of ints -/
def rIndexI (K : PySem.W.Frag) : V → List V → Hp → VK → Prop := fun x xs H Q => ∃ (a : Addr) (ns : List Int) (n : Int) (j : Nat), x = V.ref a ∧ xs = [V.int n] ∧ SqT K H a (ns.map V.int) ∧ ns[j]? = some n ∧ (∀ m, m < j → ns[m]? ≠ some n) ∧ Q (.int (j : Nat)) H
theorem mt_indexI (hu : X.A.units + 65 < cLine) : MtR X "tuple.index" (rIndexI X.K) := by
  intro pins s σ H x xs v us Q I rx rxs h
  obtain ⟨a, ns, n, j, rfl, rfl, hs, hj, hno, q⟩ := h
  cases rx
  obtain ⟨u, rfl, ru⟩ := vals1 rxs
  obtain ⟨bs, r1⟩ := Dp.reads I (.int n) (.int n) u (.int n) ru
  have lay := lay_ints ns
  have room : X.A.units + 1 + min (PyData.depthAll (ns.map PyData.int)) (PyData.int n).depth < cLine := by
    have := Nat.min_le_right (PyData.depthAll (ns.map PyData.int)) (PyData.int n).depth
    have e : (PyData.int n).depth = 0 := by simp [PyData.depth]
    omega
  obtain ⟨its, rv, ⟨⟨cls, dd, dat, sls⟩, ho, hc, m, hd⟩, hlen⟩ := I.tuple hs
  simp only at hc hd
  subst hc hd
  obtain ⟨as, rall⟩ := Dp.readsAll I (ns.map PyData.int) _ its (dpInts ns) rv
  have ln : its.length = (ns.map PyData.int).length := SeqAt.ReadsAll.length _ its as rall
  have mp : its.map (SeqAt.readOf s.heap) = ns.map PyData.int := SeqAt.readsAll_map _ its as lay rall
  have jl : j < its.toArray.size := by
    have := (List.getElem?_eq_some_iff.mp hj).1
    rw [List.size_toArray, ln, List.length_map]; exact this
  have at_ : ∀ (m : Nat) (hm : m < its.toArray.size), ∃ z, ns[m]? = some z ∧ SeqAt.readOf s.heap its.toArray[m] = PyData.int z := fun m hm => by
    have hm2 : m < ns.length := by rw [List.size_toArray, ln, List.length_map] at hm; exact hm
    refine ⟨_, List.getElem?_eq_getElem hm2, ?_⟩
    have e : (its.map (SeqAt.readOf s.heap))[m]? = some (PyData.int ns[m]) := by rw [mp, List.getElem?_map, List.getElem?_eq_getElem hm2]; rfl
    have hml : m < its.length := by simpa using hm
    rw [List.getElem?_map, List.getElem?_eq_getElem hml] at e
    have e' := Option.some.inj e
    simpa using e'
  refine call_meets PySem.F.slot_tuple_index ⟨_, ho, rfl⟩ PySem.F.entry_tuple_index (PySem.F.args_tuple_index_2 _ _) (TI.tuple_indexAt a its.toArray m dd sls u (fun y => PyData.eqv (SeqAt.readOf s.heap y) (.int n)) j jl ?_ ?_)
    ⟨ho, SeqAt.items_eqAt (vs := its.toArray) (show ReadsAll s.heap its.toArray.toList _ as from rall) r1 lay (by simp [PyData.canLay0]) room, ⟨.int (j : Nat), H, I.tok _, ⟨_, rfl⟩, q⟩⟩
  · obtain ⟨z, e1, e2⟩ := at_ j jl
    rw [hj] at e1
    cases e1
    show PyData.eqv (SeqAt.readOf s.heap its.toArray[j]) (.int n) = true
    rw [e2]
    simp [PyData.eqv]
  · intro m hm hmj
    obtain ⟨z, e1, e2⟩ := at_ m hm
    show PyData.eqv (SeqAt.readOf s.heap its.toArray[m]) (.int n) = false
    rw [e2]
    have ne : z ≠ n := fun e => hno m hmj (by rw [e1, e])
    simp [PyData.eqv, ne]
end
section
variable {X : Cx} {P : Program} {w : World} {K : PySem.W.Frag}
theorem cr_setNK (h : X.K = K) (hP : X.prog = P) (hw : X.w = w) (hc : X.calm = true) (hu : X.A.units + 64 < cLine) : CallR X (.type "set") (rSetN K P w) := by
  subst h hP hw
  exact cr_setN hc hu
theorem cr_sortedAK (h : X.K = K) (hP : X.prog = P) (hw : X.w = w) (hc : X.calm = true) : CallR X (.builtin "sorted") (rSortA K P w) := by
  subst h hP hw
  exact cr_sortedA hc
end
end RV
set_option maxHeartbeats 4000000
namespace K20
open PySem PySem.Spec PyProof.Rows L2 RV
theorem rgV_upN (n : Nat) : rgV 0 (n : Int) = (upN n).map V.int := by
  rw [rgV_rgI]
  unfold rgI upN
  rw [show ((n : Int) - 0).toNat = n by omega]
  congr 1
  refine List.map_congr_left fun i _ => ?_
  omega
/-- the ways of the first i marks -/
def Ways (H : Hp) (D : Addr) (ps : List (List Int)) (ws : List (Addr × List Int)) : Prop := H D = some (.lst (ws.map fun p => V.ref p.1)) ∧ ∀ (k : Nat) (x : Addr × List Int), ws[k]? = some x → H x.1 = some (.lst (x.2.map V.int)) ∧ x.1 ≠ D ∧ x.2.length ≤ 8 ∧ ∀ j, j ∈ x.2 ↔ Rch ps (k : Int) j
theorem Ways.same {H H' : Hp} {D : Addr} {ps : List (List Int)} {ws : List (Addr × List Int)} (h : Ways H D ps ws) (s : Same H H') : Ways H' D ps ws :=
  ⟨s _ _ h.1, fun k x g => let ⟨a, b⟩ := h.2 k x g; ⟨s _ _ a, b⟩⟩
theorem in_way {ps : List (List Int)} {k : Nat} {y : Int} {fs : List Int} (h : ∀ j, j ∈ fs ↔ Rch ps (k : Int) j) : decide (y ∈ fs) = rB ps (k : Int) y := by
  rw [Bool.eq_iff_iff, decide_eq_true_iff, rB_iff]
  exact h y
noncomputable def partsTo (ps : List (List Int)) (n i : Nat) : List (List Int) := (((upN n).take i).filter (isHead ps n)).map (lotOf ps n)
theorem partsTo_next {ps : List (List Int)} {n i : Nat} {m : Int} (g : (upN n)[i]? = some m) : partsTo ps n (i + 1) = partsTo ps n i ++ (if isHead ps n m = true then [lotOf ps n m] else []) := by
  unfold partsTo
  rw [take_filt g, List.map_append]
  by_cases e : isHead ps n m = true
  · rw [if_pos e, if_pos e]; rfl
  · rw [if_neg e, if_neg e]; rfl
theorem partsTo_all (ps : List (List Int)) (n : Nat) : partsTo ps n n = partsOf ps n := by
  unfold partsTo partsOf
  rw [List.take_of_length_le (by rw [upN_len]; exact Nat.le_refl _)]
theorem partsTo_len (ps : List (List Int)) (n i : Nat) : (partsTo ps n i).length ≤ n := by
  unfold partsTo
  rw [List.length_map]
  refine Nat.le_trans (List.length_filter_le _ _) ?_
  rw [List.length_take, upN_len]; omega
section
variable {P : Program} {w : World} {K : PySem.W.Frag} {mg : Str → Option Value} {base : Heap}
/-! ### parts -/
theorem scParts : FnScope ["rule", "every", "mark", "ways", "found", "part", "other"] ["rule"] (defScope sParts) := ⟨rfl, rfl, rfl, by decide +kernel, rfl, by decide +kernel, by decide +kernel⟩
def spParts (K : PySem.W.Frag) (C : Addr) : Sp := fun vs H Q _ => ∃ (r : Addr) (ns : List Int) (ps : List (List Int)), vs = [.ref r] ∧ RuleAt K C H r ns ps ∧ Mir ns ∧ Stp ns ps ∧
  ∀ (H' : Hp) (c : Addr), Same H H' → H c = none → TupsD H' c (partsOf ps ns.length) → Q (.ref c) H'
theorem ok_parts {f C fL fM : Addr} {fd dL dM : FuncData} (F : Fun K "parts" "parts" sParts f fd) (T : Txt K mg C) (B : Bare mg) (DL : DefAt K mg "led_to" sLed ["rule", "mark"] fL dL) (GL : FnOk P w K mg base CX0 2 fL dL ["rule", "mark"] (spLed K C))
    (FM : Fun K "marks" "Rule.marks" sMarksM fM dM) (bM : Binds K dM ["self"] []) (mM : Meth K C "marks" fM) : FnOk P w K mg base CX0 3 f fd ["rule"] (spParts K C) := by
  have GM : FnOk P w K mg base CX0 1 fM dM ["self"] (spMarksM K C) := ok_marksM FM T B
  refine F.ok scParts (fun vs H Q E h => ?_) (fun cdv A outer s H vs Q E hr h => ?_)
  · obtain ⟨r, ns, ps, rfl, _⟩ := h
    rfl
  · obtain ⟨r, ns, ps, rfl, R, M, S, q⟩ := h
    have hu5 := un65 hr
    have hr1 := hr.mono (show 1 ≤ 2 by decide)
    refine ⟨_, pss_cons (ps_set (i := 1) scParts.nd rfl (Or.inl rfl) (pe_listRg rfl (by rfl) B.list (prg_1 (by rfl) B.range (pe_meth0 (pv 0) T.cl mM GM hr1 bM .nil pass0))))
      (pss_cons (ps_set (i := 3) scParts.nd rfl (Or.inr rfl) (pe_lc (own := [("mark", 2)]) (g := gName 2) (tt := tYes) rfl scParts.nd (pi_list (pv 1)) (blkOk_by (N := ["rule", "every", "mark", "ways", "found", "part", "other"]) (sc := defScope sParts) (by decide +kernel))
          (fun _ _ _ _ _ => pg_name (i := 2) scParts.nd rfl (Or.inl rfl)) (fun _ _ _ _ _ => pts_nil) (fun _ _ _ _ _ => pe_call GL hr (by rfl) DL.mg DL.fn.kp DL.bi .nil pass0 (pa_cons (pv 0) (pa_cons (pv 2) pa_nil)))))
      (pss_cons (ps_set (i := 4) scParts.nd rfl (Or.inl rfl) (pe_lst pa_nil))
      (pss_cons (ps_for PassesOwn.never rfl (pi_list (pv 1)) (pg_name (i := 2) scParts.nd rfl (Or.inr rfl))
        (pss_cons (ps_set (i := 5) scParts.nd rfl (Or.inl rfl) (pe_tupleF (by rfl) B.tuple
          (pe_lc (own := [("other", 6)]) (g := gName 6) rfl scParts.nd (pi_list (pv 1)) (blkOk_by (N := ["rule", "every", "mark", "ways", "found", "part", "other"]) (sc := defScope sParts) (by decide +kernel))
            (fun _ _ _ _ _ => pg_name (i := 6) scParts.nd rfl (Or.inl rfl))
            (fun _ _ _ _ _ => pts_one (PW.pt (pw_and (pt_cmpR (op_inDK (K := K) rfl hu5) (pv 6) (pe_ix (ix_listK (K := K) rfl) (pv 3) (pv 2) (fun _ _ => rfl)) (by rfl)) (pw_and1 (pt_cmpR (op_inDK (K := K) rfl hu5) (pv 2) (pe_ix (ix_listK (K := K) rfl) (pv 3) (pv 6) (fun _ _ => rfl)) (by rfl))))))
            (fun _ _ _ _ _ => pv 6))))
        (pss_one (ps_if (PW.pt (pw_and (pt_cmpR op_gt (pe_callB call_len_seq (by rfl) B.len PySem.boot_len (pa_cons (pv 5) pa_nil)) pe_int (nomark _)) (pw_and1 (pt_cmpR op_eq (pe_ix ix_tup (pv 5) pe_int (fun _ _ => rfl)) (pv 2) (nomark _)))))
          (pss_one (ps_expr (pe_bm PySem.F.plainAttrs_list PySem.F.slot_list_append PySem.F.type_list_append mt_append (pv 4) (pa_cons (pv 5) pa_nil)))) pss_nil))))
      (pss_one (ps_ret (pe_tupleOf (by rfl) B.tuple (pv 4))))))), ?_⟩
    obtain ⟨dx, a0, b0, t0, g1, g2, g3, g4⟩ := R.ex
    have fno := flds_no a0 b0 t0 (m := "marks") (by decide +kernel) (by decide +kernel) (by decide +kernel)
    have h8 := M.few
    have hP : ∀ p ∈ ps, Pr (ns.length : Int) p := fun p hp => S.pair p hp
    -- every
    refine ⟨.ref r, rfl, r, dx, _, rfl, g1, fno, r, ns, ps, rfl, R, _, rfl, RgOk.of_le (by omega) (by omega) (by omega) (by omega), fun E0 nE => ?_⟩
    rw [rgV_upN]
    have s1 := same_upd (o := .lst ((upN ns.length).map V.int)) nE
    have eE : (upd H E0 (.lst ((upN ns.length).map V.int))) E0 = some (.lst ((upN ns.length).map V.int)) := upd_same
    generalize upd H E0 (.lst ((upN ns.length).map V.int)) = H1 at s1 eE ⊢
    -- ways
    refine ⟨.ref E0, rfl, E0, rfl, ⟨_, lstNew eE⟩, fun D nD => ?_⟩
    refine lc_list (K := K) (a := E0) (xs := (upN ns.length).map V.int) (fun i H' => Same H1 H' ∧ ∃ ws, ws.length = i ∧ Ways H' D ps ws) ⟨same_upd nD, [], rfl, upd_same, fun k x g => nomatch g⟩ (fun i H' _ p => lstNew (p.1 _ _ eE)) (fun i x H' hx p => ?_) fun H2 p => ?_
    · obtain ⟨k, g, rfl⟩ := map_at hx
      have hil : i < ns.length := by
        have := (List.getElem?_eq_some_iff.mp g).1
        rwa [upN_len] at this
      rw [upN_get hil] at g
      have ek : (i : Int) = k := Option.some.inj g
      subst ek
      obtain ⟨p1, ws, hws, W⟩ := p
      refine ⟨rfl, tt_yes ⟨.ref r, rfl, .int (i : Int), rfl, r, (i : Int), ns, ps, rfl, R.same (s1.trans p1), M, S, ⟨by omega, by omega⟩, fun H3 c fs s3 nc e3 l3 m3 => ?_⟩⟩
      have W3 := W.same s3
      have cD : c ≠ D := (ne_of_none W.1 nc).symm
      refine ⟨_, W3.1, by rw [List.length_map]; exact few1 (by omega), fun b o z => ?_, ws ++ [(c, fs)], by rw [List.length_append, hws]; rfl, ?_, fun k x gx => ?_⟩
      · rw [upd_ne (ne_of_none z nD)]; exact s3 _ _ (p1 b o z)
      · rw [upd_same, List.map_append]; rfl
      · by_cases hk : k < ws.length
        · rw [List.getElem?_append_left hk] at gx
          obtain ⟨w1, w2, w3, w4⟩ := W3.2 k x gx
          exact ⟨by rw [upd_ne w2]; exact w1, w2, w3, w4⟩
        · have hk2 := (List.getElem?_eq_some_iff.mp gx).1
          rw [List.length_append] at hk2
          have hk3 : k = ws.length := by
            have : ([(c, fs)] : List (Addr × List Int)).length = 1 := rfl
            omega
          subst hk3
          rw [List.getElem?_append_right (Nat.le_refl _), Nat.sub_self] at gx
          have ex : (c, fs) = x := Option.some.inj gx
          subst ex
          exact ⟨by rw [upd_ne cD]; exact e3, cD, l3, by rw [hws]; exact m3⟩
    · obtain ⟨p1, ws, hws, W⟩ := p
      rw [List.length_map, upN_len] at hws
      refine nx_step ?_
      dsimp only
      -- found
      refine ⟨Nat.zero_le _, fun F0 nF => ?_⟩
      have sF := same_upd (o := .lst []) nF
      refine ⟨.ref E0, rfl, E0, rfl, ⟨_, lstNew (sF _ _ (p1 _ _ eE))⟩, ?_⟩
      have nFH : H F0 = none := s1.free (p1.free nF)
      refine for_list (K := K) (a := E0) (xs := (upN ns.length).map V.int) (fun i σ H' => ∃ (ks : List (Addr × List Int)) (y2 y5 y6 : Option V), σ = [some (.ref r), some (.ref E0), y2, some (.ref D), some (.ref F0), y5, y6] ∧ Same H2 H' ∧ H' F0 = some (.lst (ks.map fun p => V.ref p.1)) ∧ ks.map (·.2) = partsTo ps ns.length i ∧ ∀ k ∈ ks, TupD H' k.1 (k.2.map V.int))
        ⟨[], none, none, none, rfl, sF, upd_same, rfl, fun _ z => nomatch z⟩ (fun i σ H' _ h => ?_) (fun i x σ H' hx h => ?_) (fun σ H' h => ?_)
      · obtain ⟨_, _, _, _, _, s', _⟩ := h
        exact lstNew (s' _ _ (p1 _ _ eE))
      · obtain ⟨ks, y2, y5, y6, rfl, s', eF, eks, hks⟩ := h
        obtain ⟨m, g, rfl⟩ := map_at hx
        have hil : i < ns.length := by
          have := (List.getElem?_eq_some_iff.mp g).1
          rwa [upN_len] at this
        have g' := g
        rw [upN_get hil] at g'
        have ek : (i : Int) = m := Option.some.inj g'
        subst ek
        have W' := W.same s'
        have lks : ks.length ≤ ns.length := by
          have z := congrArg List.length eks
          rw [List.length_map] at z
          have := partsTo_len ps ns.length i
          omega
        -- part
        refine ⟨.ref E0, rfl, E0, rfl, ⟨_, lstNew (s' _ _ (p1 _ _ eE))⟩, fun D2 nD2 => ?_⟩
        refine lc_filtL (f := fun y => rB ps (i : Int) y && rB ps y (i : Int)) (lstNew (s' _ _ (p1 _ _ eE))) (by rw [upN_len]; omega) nD2 (fun y hy H4 s4 A B h => ?_) (fun y H' Q h => ⟨.int y, rfl, h⟩) fun H4 s4 eD2 => ?_
        · have W4 := W'.same s4
          have hy' := mem_upN.mp hy
          obtain ⟨wi, gwi⟩ : ∃ x, ws[i]? = some x := ⟨_, List.getElem?_eq_getElem (by omega)⟩
          obtain ⟨wy, gwy⟩ : ∃ x, ws[y.toNat]? = some x := ⟨_, List.getElem?_eq_getElem (by omega)⟩
          obtain ⟨u1, _, _, u4⟩ := W4.2 _ _ gwi
          obtain ⟨v1, _, _, v4⟩ := W4.2 _ _ gwy
          have hh := h H4 (Same.refl H4)
          refine ⟨.int y, rfl, .ref D, rfl, .int (i : Int), rfl, D, _, _, .ref wi.1, rfl, rfl, lstNew W4.1, atI_nat (by rw [List.getElem?_map, gwi]; rfl), .int y, wi.2.map PyData.int, .int y, dpL (lstNew u1), shapedN y, shapedLI _, _, rfl, ?_⟩
          rw [any_int, in_way u4]
          cases e1 : rB ps (i : Int) y with
          | false =>
            rw [e1] at hh
            exact iteF hh
          | true =>
            rw [e1] at hh
            refine iteT ?_
            have ey : atI (ws.map fun p => V.ref p.1) y = some (.ref wy.1) := by
              have z : atI (ws.map fun p => V.ref p.1) ((y.toNat : Nat) : Int) = some (.ref wy.1) := atI_nat (by rw [List.getElem?_map, gwy]; rfl)
              rwa [Int.toNat_of_nonneg hy'.1] at z
            refine ⟨.int (i : Int), rfl, .ref D, rfl, .int y, rfl, D, _, _, .ref wy.1, rfl, rfl, lstNew W4.1, ey, .int (i : Int), wy.2.map PyData.int, .int (i : Int), dpL (lstNew v1), shapedN _, shapedLI _, _, rfl, ?_⟩
            rw [any_int, in_way v4, Int.toNat_of_nonneg hy'.1]
            rw [Bool.true_and] at hh
            exact hh
        · change H4 D2 = some (.lst ((lotOf ps ns.length (i : Int)).map V.int)) at eD2
          refine ⟨D2, _, rfl, lstNew eD2, fun T0 ob nT od oc => ?_⟩
          have sT := same_upd (o := .frz ob (.tup ((lotOf ps ns.length (i : Int)).map V.int))) nT
          have eT : TupD (upd H4 T0 (.frz ob (.tup ((lotOf ps ns.length (i : Int)).map V.int)))) T0 ((lotOf ps ns.length (i : Int)).map V.int) := ⟨ob, od, oc, upd_same⟩
          have s5 := s4.trans sT
          generalize upd H4 T0 (.frz ob (.tup ((lotOf ps ns.length (i : Int)).map V.int))) = H5 at eT s5 ⊢
          have eF5 := s5 _ _ eF
          have s25 := s'.trans s5
          refine ⟨.ref T0, rfl, T0, _, rfl, .inr eT.sq, _, _, rfl, rfl, _, rfl, ?_⟩
          have nxt := partsTo_next (ps := ps) g
          have no : isHead ps ns.length (i : Int) = false → partsTo ps ns.length (i + 1) = partsTo ps ns.length i := fun e => by
            rw [nxt, e, if_neg (by simp), List.append_nil]
          cases el : lotOf ps ns.length (i : Int) with
          | nil =>
            have e0 : isHead ps ns.length (i : Int) = false := by unfold isHead; rw [el]; rfl
            refine iteF (iteF ?_)
            exact ⟨ks, _, _, _, rfl, s25, eF5, by rw [no e0]; exact eks, fun k hk => (hks k hk).same s5⟩
          | cons x l =>
            rw [el] at eT
            have e0 : decide ((List.map V.int (x :: l)).length > (0 : Int)) = true := decide_eq_true (by rw [List.map_cons, List.length_cons]; omega)
            rw [e0]
            refine iteT ⟨.ref T0, rfl, T0, _, 0, .int x, rfl, rfl, eT.sq, atI_nat (j := 0) rfl, .int (i : Int), rfl, rfl, _, rfl, ?_⟩
            by_cases ex : x = (i : Int)
            · have e1 : isHead ps ns.length (i : Int) = true := by unfold isHead; rw [el, ex]; exact decide_eq_true rfl
              rw [decide_eq_true (by rw [ex])]
              refine iteT ⟨.ref F0, rfl, .inl ⟨rfl, _, lstNew eF5⟩, .ref T0, rfl, F0, _, _, rfl, rfl, eF5, by rw [List.length_map]; exact few1 (by omega), ?_⟩
              have tF : ∀ (c : Addr) (xs : List V), TupD H5 c xs → TupD (upd H5 F0 (.lst (ks.map (fun p => V.ref p.1) ++ [.ref T0]))) c xs := fun c xs ⟨o, z1, z2, e⟩ => ⟨o, z1, z2, by
                rw [upd_ne (fun z => by rw [z, eF5] at e; cases e)]; exact e⟩
              refine ⟨ks ++ [(T0, lotOf ps ns.length (i : Int))], _, _, _, rfl, fun b o z => ?_, ?_, ?_, fun k hk => ?_⟩
              · rw [upd_ne (ne_of_none z nF)]; exact s25 b o z
              · rw [upd_same, List.map_append]; rfl
              · rw [nxt, if_pos e1, List.map_append, eks]; rfl
              · rcases List.mem_append.mp hk with z | z
                · exact tF _ _ ((hks k z).same s5)
                · rw [List.mem_singleton.mp z]
                  refine tF _ _ ?_
                  rw [el]; exact eT
            · have e1 : isHead ps ns.length (i : Int) = false := by
                unfold isHead
                rw [el]
                exact decide_eq_false fun z => ex (Option.some.inj z)
              rw [decide_eq_false (fun z => ex (V.int.inj z))]
              refine iteF ?_
              exact ⟨ks, _, _, _, rfl, s25, eF5, by rw [no e1]; exact eks, fun k hk => (hks k hk).same s5⟩
      · obtain ⟨ks, y2, y5, y6, rfl, s', eF, eks, hks⟩ := h
        rw [List.length_map, upN_len, partsTo_all] at eks
        refine ⟨.ref F0, rfl, .inl ⟨F0, _, rfl, lstNew eF, fun c nc => ?_⟩⟩
        have sc := same_upd (o := .tup (ks.map fun p => V.ref p.1)) nc
        have s02 := s1.trans (p1.trans s')
        exact q _ c (s02.trans sc) (s02.free nc) ⟨ks, eks, upd_same, fun k hk => (hks k hk).same sc⟩
end
end K20
set_option maxHeartbeats 4000000
namespace RV
open PySem PySem.Spec PyProof.Rows L2
section
variable {K : PySem.W.Frag} {tt : TT} {te : TE} {f : Int → Bool} {σ : L2.St} {H1 : Hp} {D : Addr} {v n : Nat} {Qd : Hp → Prop}
/-- [x for x in range(n) if ..] -/
theorem lc_filtR (hl : n ≤ 1000) (nD : H1 D = none)
    (htest : ∀ x : Int, 0 ≤ x → x < (n : Int) → ∀ H', Same H1 H' → ∀ A B : Hp → Prop, (∀ H2, Same H' H2 → if f x = true then A H2 else B H2) → tt ((wipe σ [v]).set v (some (.int x))) H' (fun b H3 => if b = true then A H3 else B H3))
    (hte : ∀ (x : Int) (H' : Hp) (Q : VK), Q (.int x) H' → te ((wipe σ [v]).set v (some (.int x))) H' Q)
    (hd : ∀ H', Same H1 H' → H' D = some (.lst (((upN n).filter f).map V.int)) → Qd H') :
    ∃ W : Nat → Nat → Hp → Prop, (∃ m, W 0 m (upd H1 D (.lst []))) ∧ ∀ i m H, W i m H →
      ((Itr 0 n).stop i H ∧ Qd H) ∨ ((Itr 0 n).go i H ∧ ∃ Nx : Hp → Prop, (∀ H', Nx H' → ∃ m', m' < m ∧ W (i + 1) m' H') ∧ ∀ x H', (Itr 0 n).yld i H x H' → gName v x (wipe σ [v]) H' fun σ2 H2 => wipe σ2 [v] = wipe σ [v] ∧ tt σ2 H2 fun b H3 =>
        if b = true then te σ2 H3 fun y H4 => ∃ acc, H4 D = some (.lst acc) ∧ acc.length < sizeLine ∧ Nx (upd H4 D (.lst (acc ++ [y]))) else Nx H3) := by
  refine lc_range (lo := 0) (n := n) (fun i H' => Same H1 H' ∧ H' D = some (.lst ((((upN n).take i).filter f).map V.int))) ⟨same_upd nD, upd_same⟩ (fun i H' hi p => ?_) fun H' p => ?_
  · have g : (upN n)[i]? = some (i : Int) := upN_get hi
    rw [Int.zero_add]
    refine ⟨by simp [wipe, List.set_set], htest (i : Int) (by omega) (by omega) H' p.1 _ _ fun H2 s2 => ?_⟩
    have s12 := p.1.trans s2
    have e2 := s2 _ _ p.2
    by_cases e : f (i : Int) = true
    · rw [if_pos e]
      refine hte _ H2 _ ⟨_, e2, ?_, fun b o z => ?_, ?_⟩
      · rw [List.length_map]
        exact few1 (Nat.le_trans (List.length_filter_le _ _) (by rw [List.length_take, upN_len]; omega))
      · rw [upd_ne (ne_of_none z nD)]; exact s12 b o z
      · rw [upd_same, take_filt g, if_pos e, List.map_append]; rfl
    · rw [if_neg e]
      exact ⟨s12, by rw [take_filt g, if_neg e, List.append_nil]; exact e2⟩
  · rw [List.take_of_length_le (by rw [upN_len]; exact Nat.le_refl _)] at p
    exact hd H' p.1 p.2
end
end RV
set_option maxHeartbeats 4000000
namespace RV
open PySem PySem.Spec PyProof.Rows L2
def fromN (lo : Int) (n : Nat) : List Int := (List.range n).map fun (i : Nat) => lo + (i : Int)
theorem fromN_get {lo : Int} {n k : Nat} (h : k < n) : (fromN lo n)[k]? = some (lo + (k : Int)) := by
  unfold fromN
  rw [List.getElem?_map, List.getElem?_range h]; rfl
theorem fromN_len (lo : Int) (n : Nat) : (fromN lo n).length = n := by unfold fromN; rw [List.length_map, List.length_range]
theorem mem_fromN {lo : Int} {n : Nat} {x : Int} : x ∈ fromN lo n ↔ lo ≤ x ∧ x < lo + (n : Int) := by
  unfold fromN
  rw [List.mem_map]
  constructor
  · rintro ⟨k, hk, rfl⟩
    have := List.mem_range.mp hk
    omega
  · rintro ⟨h0, h1⟩
    exact ⟨(x - lo).toNat, List.mem_range.mpr (by omega), by omega⟩
theorem pe_weakR {X : Cx} {e : Expr} {t t' : TE} (h : PE X e t) (imp : ∀ σ H Q, t' σ H Q → t σ H Q) : PE X e t' := ⟨fun pins s σ H Q I q => h.run pins s σ H Q I (imp σ H Q q)⟩
section
variable {X : Cx} {K : PySem.W.Frag}
theorem cr_allK (h : X.K = K) (hc : X.calm = true) : CallR X (.builtin "all") (rAll K) := h ▸ cr_all hc
theorem pi_listK {tg l : Expr} {tl : TE} (h : X.K = K) (hl : PE X l tl) : PI X tg l (iList K tl) := h ▸ pi_list hl
theorem pi_tupK {tg l : Expr} {tl : TE} (h : X.K = K) (hl : PE X l tl) : PI X tg l (iTup K tl) := h ▸ pi_tup hl
end
section
variable {K : PySem.W.Frag} {tt : TT} {te : TE} {f : Int → Bool} {h : Int → Int} {σ : L2.St} {H1 : Hp} {D : Addr} {v n : Nat} {lo : Int} {Qd : Hp → Prop}
/-- [h(x) for x in range(lo, ..) if f(x)] -/
theorem lc_mapR (hl : n ≤ 1000) (nD : H1 D = none)
    (htest : ∀ x ∈ fromN lo n, ∀ H', Same H1 H' → ∀ A B : Hp → Prop, (∀ H2, Same H' H2 → if f x = true then A H2 else B H2) → tt ((wipe σ [v]).set v (some (.int x))) H' (fun b H3 => if b = true then A H3 else B H3))
    (hte : ∀ x ∈ fromN lo n, ∀ (H' : Hp) (Q : VK), Same H1 H' → f x = true → (∀ H2, Same H' H2 → Q (.int (h x)) H2) → te ((wipe σ [v]).set v (some (.int x))) H' Q)
    (hd : ∀ H', Same H1 H' → H' D = some (.lst ((((fromN lo n).filter f).map h).map V.int)) → Qd H') :
    ∃ W : Nat → Nat → Hp → Prop, (∃ m, W 0 m (upd H1 D (.lst []))) ∧ ∀ i m H, W i m H →
      ((Itr lo n).stop i H ∧ Qd H) ∨ ((Itr lo n).go i H ∧ ∃ Nx : Hp → Prop, (∀ H', Nx H' → ∃ m', m' < m ∧ W (i + 1) m' H') ∧ ∀ x H', (Itr lo n).yld i H x H' → gName v x (wipe σ [v]) H' fun σ2 H2 => wipe σ2 [v] = wipe σ [v] ∧ tt σ2 H2 fun b H3 =>
        if b = true then te σ2 H3 fun y H4 => ∃ acc, H4 D = some (.lst acc) ∧ acc.length < sizeLine ∧ Nx (upd H4 D (.lst (acc ++ [y]))) else Nx H3) := by
  refine lc_range (lo := lo) (n := n) (fun i H' => Same H1 H' ∧ H' D = some (.lst (((((fromN lo n).take i).filter f).map h).map V.int))) ⟨same_upd nD, upd_same⟩ (fun i H' hi p => ?_) fun H' p => ?_
  · have g : (fromN lo n)[i]? = some (lo + (i : Int)) := fromN_get hi
    have hm := List.mem_of_getElem? g
    refine ⟨by simp [wipe, List.set_set], htest _ hm H' p.1 _ _ fun H2 s2 => ?_⟩
    have s12 := p.1.trans s2
    have e2 := s2 _ _ p.2
    by_cases e : f (lo + (i : Int)) = true
    · rw [if_pos e]
      refine hte _ hm H2 _ s12 e fun H3 s3 => ⟨_, s3 _ _ e2, ?_, fun b o z => ?_, ?_⟩
      · rw [List.length_map, List.length_map]
        exact few1 (Nat.le_trans (List.length_filter_le _ _) (by rw [List.length_take, fromN_len]; omega))
      · rw [upd_ne (ne_of_none z nD)]; exact s3 _ _ (s12 b o z)
      · rw [upd_same, take_filt g, if_pos e, List.map_append, List.map_append]; rfl
    · rw [if_neg e]
      exact ⟨s12, by rw [take_filt g, if_neg e, List.append_nil]; exact e2⟩
  · rw [List.take_of_length_le (by rw [fromN_len]; exact Nat.le_refl _)] at p
    exact hd H' p.1 p.2
end
/-- [c(x) for x in l] of truths, l a list of ints -/
theorem lc_blL {K : PySem.W.Frag} {te : TE} {c : Int → Bool} {σ : L2.St} {H1 : Hp} {a D : Addr} {v : Nat} {ns : List Int} {Qd : Hp → Prop} (hT : SqL K H1 a (ns.map V.int)) (hl : ns.length ≤ 1000) (nD : H1 D = none)
    (hte : ∀ x ∈ ns, ∀ (H' : Hp) (Q : VK), Same H1 H' → Q (.bl (c x)) H' → te ((wipe σ [v]).set v (some (.int x))) H' Q)
    (hd : ∀ H', Same H1 H' → H' D = some (.lst ((ns.map c).map V.bl)) → Qd H') :
    ∃ W : Nat → Nat → Hp → Prop, (∃ m, W 0 m (upd H1 D (.lst []))) ∧ ∀ i m H, W i m H →
      ((Itl K a).stop i H ∧ Qd H) ∨ ((Itl K a).go i H ∧ ∃ Nx : Hp → Prop, (∀ H', Nx H' → ∃ m', m' < m ∧ W (i + 1) m' H') ∧ ∀ x H', (Itl K a).yld i H x H' → gName v x (wipe σ [v]) H' fun σ2 H2 => wipe σ2 [v] = wipe σ [v] ∧ tYes σ2 H2 fun b H3 =>
        if b = true then te σ2 H3 fun y H4 => ∃ acc, H4 D = some (.lst acc) ∧ acc.length < sizeLine ∧ Nx (upd H4 D (.lst (acc ++ [y]))) else Nx H3) := by
  refine lc_list (K := K) (a := a) (xs := ns.map V.int) (fun i H' => Same H1 H' ∧ H' D = some (.lst (((ns.take i).map c).map V.bl))) ⟨same_upd nD, upd_same⟩ (fun i H' _ p => sqL_same p.1 hT) (fun i x H' hx p => ?_) fun H' p => ?_
  · obtain ⟨k, g, rfl⟩ := map_at hx
    refine ⟨by simp [wipe, List.set_set], tt_yes (hte k (List.mem_of_getElem? g) H' _ p.1 ⟨_, p.2, ?_, fun b o z => ?_, ?_⟩)⟩
    · rw [List.length_map, List.length_map, List.length_take]; exact few1 (by omega)
    · rw [upd_ne (ne_of_none z nD)]; exact p.1 b o z
    · rw [upd_same, List.take_add_one, g, List.map_append, List.map_append]; rfl
  · rw [List.length_map, List.take_of_length_le (Nat.le_refl _)] at p
    exact hd H' p.1 p.2
end RV
set_option maxHeartbeats 4000000
namespace K20
open PySem PySem.Spec PyProof.Rows L2 RV
/-- a list of tuples of ints, all of them seen -/
def LotsH (H : Hp) (a : Addr) (ls : List (List Int)) : Prop := ∃ ks : List (Addr × List Int), ks.map (·.2) = ls ∧ H a = some (.lst (ks.map fun p => V.ref p.1)) ∧ ∀ p ∈ ks, H p.1 = some (.tup (p.2.map V.int))
theorem LotsH.same {H H' : Hp} {a : Addr} {ls : List (List Int)} (h : LotsH H a ls) (s : Same H H') : LotsH H' a ls := by
  obtain ⟨ks, h1, h2, h3⟩ := h
  exact ⟨ks, h1, s _ _ h2, fun p hp => s _ _ (h3 p hp)⟩
theorem half_sub {m : Nat} {fs ls xs : List Int} (h : Half m fs ls) (nd : xs.Nodup) (sub : ∀ x ∈ xs, x ∈ ls) : Half m fs xs := ⟨h.len, h.inn, h.back, nd, fun x hx => h.lin x (sub x hx), fun x hx => h.self x (sub x hx)⟩
theorem half_len {m : Nat} {fs ls : List Int} (h : Half m fs ls) (h8 : m ≤ 8) : ls.length ≤ 8 := by
  have := nodup_le (us := rgI 0 (m : Int)) h.nd fun z hz => by
    have h1 := h.lin z hz
    exact List.mem_of_getElem? (i := z.toNat) (rgI_get.mpr ⟨by omega, by omega⟩)
  rw [rgI_len] at this; omega
def leftAt : L2.St → Hp → Nat
  | [_, _, _, _, some (.ref lf), _, _], H => lenAt H lf
  | _, _ => 0
section
variable {P : Program} {w : World} {K : PySem.W.Frag} {mg : Str → Option Value} {base : Heap}
/-! ### _law_closed -/
def spClosed (K : PySem.W.Frag) : Sp := fun vs H Q _ => ∃ (u l : Addr) (ns : List Int) (qs : List (List Int)), vs = [.ref u, .ref l] ∧ SqT K H u (ns.map V.int) ∧ LotsH H l qs ∧ Mir ns ∧ (∀ q ∈ qs, Pr (ns.length : Int) q) ∧ qs.length ≤ 1000 ∧
  ∀ (H' : Hp) (c : Addr) (ps : List (List Int)), Same H H' → H c = none → TupsH H' c ps → Stp ns ps → Q (.ref c) H'
/-! ### _law_drawn_mirrors -/
def spDrawn (K : PySem.W.Frag) : Sp := fun vs H Q _ => ∃ (p : Addr) (t m : Nat) (st : Int), vs = [.ref p, .int (m : Int), .int st] ∧ PailAt H p t ∧ t ≤ 23000 ∧ 1 ≤ m ∧ m ≤ 8 ∧
  ∀ (H' : Hp) (u : Addr) (t' : Nat) (ns : List Int), PailAt H' p t' → t' ≤ t + 20 → But p H H' → SqT K H' u (ns.map V.int) → Mir ns → ns.length = m → Q (.ref u) H'
end
end K20
set_option maxHeartbeats 4000000
namespace K20
open PySem PySem.Spec PyProof.Rows L2 RV
def Kd (wh : Int) (v : V) : Prop := v = .non ∨ ∃ n : Int, v = .int n ∧ 0 ≤ n ∧ n < wh
section
variable {P : Program} {w : World} {K : PySem.W.Frag} {mg : Str → Option Value} {base : Heap}
/-! ### _law_kinds -/
def spKinds (K : PySem.W.Frag) : Sp := fun vs H Q _ => ∃ (p u : Addr) (t : Nat) (wh : Nat) (kd : Int) (ns : List Int), vs = [.ref p, .ref u, .int (wh : Int), .int kd] ∧ PailAt H p t ∧ t ≤ 23500 ∧ SqT K H u (ns.map V.int) ∧ Mir ns ∧ 1 ≤ wh ∧ wh ≤ 100 ∧ 0 ≤ kd ∧ kd < (wh : Int) ∧
  ∀ (H' : Hp) (L : Addr) (t' : Nat) (xs : List V), PailAt H' p t' → t' ≤ t + 8 → But p H H' → H L = none → H' L = some (.lst xs) → xs.length = ns.length → (∀ v ∈ xs, Kd (wh : Int) v) → Q (.ref L) H'
end
end K20
set_option maxHeartbeats 4000000
namespace K20
open PySem PySem.Spec PyProof.Rows L2 RV
/-- a list of at most n pairs of marks -/
def PairsH (m : Int) (H : Hp) (L : Addr) (n : Nat) : Prop := ∃ qs : List (List Int), LotsH H L qs ∧ (∀ q ∈ qs, Pr m q) ∧ qs.length ≤ n
theorem PairsH.nil {m : Int} {H : Hp} {L : Addr} (e : H L = some (.lst [])) : PairsH m H L 0 := ⟨[], ⟨[], rfl, e, fun _ z => nomatch z⟩, fun _ z => (nomatch z), Nat.le_refl _⟩
theorem PairsH.le {m : Int} {H : Hp} {L : Addr} {n k : Nat} (h : PairsH m H L n) (e : n ≤ k) : PairsH m H L k := let ⟨qs, h1, h2, h3⟩ := h; ⟨qs, h1, h2, Nat.le_trans h3 e⟩
theorem PairsH.same {m : Int} {H H' : Hp} {L : Addr} {n : Nat} (h : PairsH m H L n) (s : Same H H') : PairsH m H' L n := let ⟨qs, h1, h2, h3⟩ := h; ⟨qs, h1.same s, h2, h3⟩
theorem PairsH.but {m : Int} {H H' : Hp} {L p : Addr} {n t : Nat} (h : PairsH m H L n) (hp : PailAt H p t) (b : But p H H') (hn : L ≠ p) : PairsH m H' L n := by
  obtain ⟨qs, ⟨ks, h1, h2, h3⟩, h4, h5⟩ := h
  obtain ⟨x, y, e, _⟩ := hp
  exact ⟨qs, ⟨ks, h1, b _ _ h2 hn, fun k hk => b _ _ (h3 k hk) fun z => by have w := h3 k hk; rw [z, e] at w; cases w⟩, h4, h5⟩
theorem PairsH.lst {m : Int} {H : Hp} {L : Addr} {n : Nat} (h : PairsH m H L n) : ∃ vs : List V, H L = some (.lst vs) ∧ vs.length ≤ n := by
  obtain ⟨qs, ⟨ks, h1, h2, h3⟩, h4, h5⟩ := h
  exact ⟨_, h2, by rw [List.length_map, ← List.length_map (f := fun p : Addr × List Int => p.2), h1]; exact h5⟩
theorem PairsH.add {m : Int} {H : Hp} {L T : Addr} {n : Nat} {x y : Int} {vs : List V} (h : PairsH m H L n) (e : H L = some (.lst vs)) (nT : H T = none) (hx : 0 ≤ x ∧ x < m) (hy : 0 ≤ y ∧ y < m) : PairsH m (upd (upd H T (.tup [.int x, .int y])) L (.lst (vs ++ [.ref T]))) L (n + 1) := by
  obtain ⟨qs, ⟨ks, h1, h2, h3⟩, h4, h5⟩ := h
  have sT := same_upd (o := .tup [.int x, .int y]) nT
  have ev : vs = ks.map fun p => V.ref p.1 := by rw [e] at h2; cases h2; rfl
  subst ev
  refine ⟨qs ++ [[x, y]], ⟨ks ++ [(T, [x, y])], by rw [List.map_append, h1]; rfl, by rw [upd_same, List.map_append]; rfl, fun k hk => ?_⟩, fun q hq => ?_, by rw [List.length_append]; simp; omega⟩
  · rcases List.mem_append.mp hk with hk | hk
    · rw [upd_ne (fun z => by have w := h3 k hk; rw [z, e] at w; cases w)]; exact sT _ _ (h3 k hk)
    · rw [List.mem_singleton.mp hk, upd_ne (ne_of_none e nT).symm]; exact upd_same
  · rcases List.mem_append.mp hq with hq | hq
    · exact h4 q hq
    · rw [List.mem_singleton.mp hq]; exact ⟨x, y, rfl, hx, hy⟩
theorem but_free {p a : Addr} {H H' : Hp} {t : Nat} (b : But p H H') (hp : PailAt H' p t) (n : H' a = none) : H a = none := by
  cases e : H a with
  | none => rfl
  | some o =>
    have z := b a o e (pail_ne hp n)
    rw [n] at z; cases z
section
variable {P : Program} {w : World} {K : PySem.W.Frag} {mg : Str → Option Value} {base : Heap}
/-! ### _law_wheel_pairs -/
def spWheel (K : PySem.W.Frag) : Sp := fun vs H Q _ => ∃ (p u : Addr) (t : Nat) (wh : Nat) (kd th : Int) (ns : List Int), vs = [.ref p, .ref u, .int (wh : Int), .int kd, .int th] ∧ PailAt H p t ∧ t ≤ 23400 ∧ SqT K H u (ns.map V.int) ∧ Mir ns ∧ 1 ≤ wh ∧ wh ≤ 100 ∧ 0 ≤ kd ∧ kd < (wh : Int) ∧
  ∀ (H' : Hp) (L : Addr) (t' : Nat), PailAt H' p t' → t' ≤ t + 80 → But p H H' → H L = none → PairsH (ns.length : Int) H' L 64 → Q (.ref L) H'
end
end K20
set_option maxHeartbeats 4000000
namespace K20
open PySem PySem.Spec PyProof.Rows L2 RV
section
variable {P : Program} {w : World} {K : PySem.W.Frag} {mg : Str → Option Value} {base : Heap}
/-! ### _law_side_pairs -/
def spSide (K : PySem.W.Frag) : Sp := fun vs H Q _ => ∃ (p u : Addr) (t : Nat) (th : Int) (ns : List Int), vs = [.ref p, .ref u, .int th] ∧ PailAt H p t ∧ t ≤ 23400 ∧ SqT K H u (ns.map V.int) ∧ Mir ns ∧
  ∀ (H' : Hp) (L : Addr) (t' : Nat), PailAt H' p t' → t' ≤ t + 128 → But p H H' → H L = none → PairsH (ns.length : Int) H' L 64 → Q (.ref L) H'
end
end K20
set_option maxHeartbeats 4000000
namespace K20
open PySem PySem.Spec PyProof.Rows L2 RV
/-- mirrors and steps as one pair -/
def OwnH (K : PySem.W.Frag) (H : Hp) (R : Addr) (ns : List Int) (ps : List (List Int)) : Prop := ∃ u c : Addr, H R = some (.tup [.ref u, .ref c]) ∧ SqT K H u (ns.map V.int) ∧ TupsH H c ps ∧ Mir ns ∧ Stp ns ps
theorem sqT_lst {K : PySem.W.Frag} {H : Hp} {D : Addr} {vs : List V} {o' : HO} (e : H D = some (.lst vs)) {a : Addr} {xs : List V} (h : SqT K H a xs) : SqT K (upd H D o') a xs := by
  rcases h with (h | ⟨o, h⟩) | h
  · exact .inl (.inl (by rw [upd_ne (fun z => by rw [z, e] at h; cases h)]; exact h))
  · exact .inl (.inr ⟨o, by rw [upd_ne (fun z => by rw [z, e] at h; cases h)]; exact h⟩)
  · exact .inr h
section
variable {P : Program} {w : World} {K : PySem.W.Frag} {mg : Str → Option Value} {base : Heap}
/-! ### _law_rule -/
def spRule (K : PySem.W.Frag) : Sp := fun vs H Q _ => ∃ (p : Addr) (t m : Nat), vs = [.ref p, .int (m : Int)] ∧ PailAt H p t ∧ t ≤ 22500 ∧ 1 ≤ m ∧ m ≤ 8 ∧
  ∀ (H' : Hp) (R : Addr) (t' : Nat) (ns : List Int) (ps : List (List Int)), PailAt H' p t' → t' ≤ t + 200 → But p H H' → OwnH K H' R ns ps → Q (.ref R) H'
end
end K20
set_option maxHeartbeats 4000000
namespace K20
open PySem PySem.Spec PyProof.Rows L2 RV
/-! ### sorted of a list of pairs -/
def kOf (H : Hp) : V → Int × Int
  | .ref t => match H t with
    | some (.tup [.int i, .int j]) => (i, j)
    | _ => (0, 0)
  | _ => (0, 0)
def adOf : V → Addr
  | .ref t => t
  | _ => 0
theorem LotsH.add {H : Hp} {L T : Addr} {qs : List (List Int)} {q : List Int} {vs : List V} (h : LotsH H L qs) (e : H L = some (.lst vs)) (nT : H T = none) : LotsH (upd (upd H T (.tup (q.map V.int))) L (.lst (vs ++ [.ref T]))) L (qs ++ [q]) := by
  obtain ⟨ks, h1, h2, h3⟩ := h
  have sT := same_upd (o := .tup (q.map V.int)) nT
  have ev : vs = ks.map fun p => V.ref p.1 := by rw [e] at h2; cases h2; rfl
  subst ev
  refine ⟨ks ++ [(T, q)], by rw [List.map_append, h1]; rfl, by rw [upd_same, List.map_append]; rfl, fun k hk => ?_⟩
  rcases List.mem_append.mp hk with hk | hk
  · rw [upd_ne (fun z => by have w := h3 k hk; rw [z, e] at w; cases w)]; exact sT _ _ (h3 k hk)
  · rw [List.mem_singleton.mp hk, upd_ne (ne_of_none e nT).symm]; exact upd_same
theorem sort_lots {K : PySem.W.Frag} {H : Hp} {a : Addr} {ps : List (List Int)} {Q : VK} (h : LotsH H a ps) (pr : ∀ p ∈ ps, ∃ x y : Int, p = [x, y])
    (q : ∀ (L : List (Addr × List Int)) (p : Addr), (L.map (·.2)).Perm ps → L.Pairwise (fun a b => SrtO.lexB (two b.2) (two a.2) = false) → (∀ k ∈ L, H k.1 = some (.tup (k.2.map V.int))) → H p = none → Q (.ref p) (upd H p (.lst (L.map fun p => V.ref p.1)))) : rSortedPO K [.ref a] H Q := by
  obtain ⟨ks, h1, h2, h3⟩ := h
  have two_ : ∀ k ∈ ks, kOf H (.ref k.1) = two k.2 ∧ k.2 = [(kOf H (.ref k.1)).1, (kOf H (.ref k.1)).2] := fun k hk => by
    obtain ⟨x, y, e⟩ := pr k.2 (by rw [← h1]; exact List.mem_map_of_mem hk)
    have z := h3 k hk
    rw [e] at z
    have z2 : kOf H (.ref k.1) = (x, y) := by
      show (match H k.1 with | some (.tup [.int i, .int j]) => (i, j) | _ => (0, 0)) = _
      rw [z]; rfl
    rw [z2, e]
    exact ⟨rfl, rfl⟩
  refine ⟨a, _, kOf H, rfl, lstNew h2, fun x hx => ?_, fun ys p srt stb np => ?_⟩
  · obtain ⟨k, hk, rfl⟩ := List.mem_map.mp hx
    refine ⟨k.1, rfl, ?_⟩
    have z := h3 k hk
    rw [(two_ k hk).2] at z
    exact z
  · have pm := stb.perm
    have hy : ∀ y ∈ ys, ∃ k ∈ ks, y = V.ref k.1 := fun y hy => by
      obtain ⟨k, hk, e⟩ := List.mem_map.mp (pm.mem_iff.mp hy)
      exact ⟨k, hk, e.symm⟩
    let g : V → Addr × List Int := fun v => (adOf v, [(kOf H v).1, (kOf H v).2])
    have gk : ∀ k ∈ ks, g (V.ref k.1) = k := fun k hk => by
      show (k.1, _) = k
      rw [← (two_ k hk).2]
    have e1 : (ys.map g).map (fun p => V.ref p.1) = ys := by
      rw [List.map_map]
      conv => rhs; rw [← List.map_id ys]
      refine List.map_congr_left fun y m => ?_
      obtain ⟨k, hk, rfl⟩ := hy y m
      show V.ref (g (V.ref k.1)).1 = _
      rw [gk k hk]; rfl
    have pk : (ys.map g).Perm ks := by
      have z := pm.map g
      rw [List.map_map] at z
      have e2 : ks.map (g ∘ fun p => V.ref p.1) = ks := by
        conv => rhs; rw [← List.map_id ks]
        exact List.map_congr_left fun k hk => gk k hk
      rwa [e2] at z
    have z := q (ys.map g) p (by rw [← h1]; exact pk.map _) ?_ (fun k hk => h3 k (pk.mem_iff.mp hk)) np
    · rwa [e1] at z
    · rw [List.pairwise_map]
      refine List.Pairwise.imp_of_mem ?_ srt
      intro y y' m m' l
      obtain ⟨k, hk, rfl⟩ := hy y m
      obtain ⟨k', hk', rfl⟩ := hy y' m'
      rw [gk k hk, gk k' hk', ← (two_ k hk).1, ← (two_ k' hk').1]
      exact l
end K20
set_option maxHeartbeats 4000000
namespace K20
open PySem PySem.Spec PyProof.Rows L2 RV
/-! ### [b for a, b in pairs if ..] -/
def sel (c : Int → Int → Bool) (ps : List (List Int)) : List Int := (ps.filter fun p => c (p.getD 0 0) (p.getD 1 0)).map fun p => p.getD 1 0
theorem sel_next {c : Int → Int → Bool} {ps : List (List Int)} {i : Nat} {x y : Int} (h : ps[i]? = some [x, y]) : sel c (ps.take (i + 1)) = sel c (ps.take i) ++ (if c x y = true then [y] else []) := by
  unfold sel
  rw [List.take_add_one, h]
  show List.map _ (List.filter _ (ps.take i ++ [[x, y]])) = _
  rw [List.filter_append, List.map_append]
  by_cases e : c x y = true
  · simp [e]
  · simp [e]
theorem sel_len (c : Int → Int → Bool) (ps : List (List Int)) : (sel c ps).length ≤ ps.length := by
  unfold sel
  rw [List.length_map]
  exact List.length_filter_le _ _
theorem mem_sel {c : Int → Int → Bool} {n : Int} {ps : List (List Int)} (hp : ∀ p ∈ ps, Pr n p) {j : Int} : j ∈ sel c ps ↔ ∃ x : Int, [x, j] ∈ ps ∧ c x j = true := by
  unfold sel
  rw [List.mem_map]
  constructor
  · rintro ⟨p, h1, h2⟩
    obtain ⟨h3, h4⟩ := List.mem_filter.mp h1
    obtain ⟨x, y, rfl, _⟩ := hp p h3
    have e2 : y = j := h2
    subst e2
    exact ⟨x, h3, h4⟩
  · rintro ⟨x, h, e⟩
    exact ⟨[x, j], List.mem_filter.mpr ⟨h, e⟩, rfl⟩
theorem sel_nodup {c : Int → Int → Bool} {n m : Int} {ps : List (List Int)} (hp : ∀ p ∈ ps, Pr n p) (nd : ps.Nodup) (hc : ∀ x y, c x y = true → x = m) : (sel c ps).Nodup := by
  unfold sel
  refine List.pairwise_map.mpr (List.Pairwise.imp_of_mem (fun {a b} ha hb ne e => ?_) (nd.filter _))
  obtain ⟨a1, a2⟩ := List.mem_filter.mp ha
  obtain ⟨b1, b2⟩ := List.mem_filter.mp hb
  obtain ⟨x, y, rfl, _⟩ := hp a a1
  obtain ⟨x', y', rfl, _⟩ := hp b b1
  have e1 := hc x y a2
  have e2 := hc x' y' b2
  have e3 : y = y' := e
  exact ne (by rw [e1, e2, e3])
theorem lc_pairs {K : PySem.W.Frag} {tt : TT} {te : TE} {c : Int → Int → Bool} {σ : L2.St} {H1 : Hp} {a D : Addr} {va vb : Nat} {ps : List (List Int)} {Qd : Hp → Prop} (hT : Tups K H1 a ps) (hl : ps.length ≤ 1000) (hp : ∀ p ∈ ps, ∃ x y : Int, p = [x, y]) (nD : H1 D = none) (hw : ∀ x y : Int, wipe (((wipe σ [va, vb]).set va (some (.int x))).set vb (some (.int y))) [va, vb] = wipe σ [va, vb])
    (htest : ∀ x y : Int, [x, y] ∈ ps → ∀ H', Same H1 H' → ∀ A B : Hp → Prop, (∀ H2, Same H' H2 → if c x y = true then A H2 else B H2) → tt (((wipe σ [va, vb]).set va (some (.int x))).set vb (some (.int y))) H' (fun b H3 => if b = true then A H3 else B H3))
    (hte : ∀ (x y : Int) (H' : Hp) (Q : VK), Q (.int y) H' → te (((wipe σ [va, vb]).set va (some (.int x))).set vb (some (.int y))) H' Q)
    (hd : ∀ H', Same H1 H' → H' D = some (.lst ((sel c ps).map V.int)) → Qd H') :
    ∃ W : Nat → Nat → Hp → Prop, (∃ m, W 0 m (upd H1 D (.lst []))) ∧ ∀ i m H, W i m H →
      ((Itt K a).stop i H ∧ Qd H) ∨ ((Itt K a).go i H ∧ ∃ Nx : Hp → Prop, (∀ H', Nx H' → ∃ m', m' < m ∧ W (i + 1) m' H') ∧ ∀ x H', (Itt K a).yld i H x H' → gTup K 2 (gCons (gName va) (gCons (gName vb) gNil)) x (wipe σ [va, vb]) H' fun σ2 H2 => wipe σ2 [va, vb] = wipe σ [va, vb] ∧ tt σ2 H2 fun b H3 =>
        if b = true then te σ2 H3 fun y H4 => ∃ acc, H4 D = some (.lst acc) ∧ acc.length < sizeLine ∧ Nx (upd H4 D (.lst (acc ++ [y]))) else Nx H3) := by
  obtain ⟨ks, rfl, hT, hks⟩ := hT
  refine lc_tup (K := K) (a := a) (xs := ks.map fun p => V.ref p.1) (fun i H' => Same H1 H' ∧ H' D = some (.lst ((sel c ((ks.map (·.2)).take i)).map V.int))) ⟨same_upd nD, by rw [upd_same]; rfl⟩ (fun i H' _ p => sqT_same p.1 hT) (fun i x H' hx p => ?_) fun H' p => ?_
  · obtain ⟨k, g, rfl⟩ := map_at hx
    have hk : k ∈ ks := List.mem_of_getElem? g
    have hm : k.2 ∈ ks.map (·.2) := List.mem_map_of_mem hk
    obtain ⟨x, y, e⟩ := hp k.2 hm
    rw [e] at hm
    have hkT : SqT K H' k.1 ([x, y].map V.int) := by rw [← e]; exact sqT_same p.1 (hks k hk)
    have gi : (ks.map (·.2))[i]? = some [x, y] := by rw [List.getElem?_map, g, ← e]; rfl
    have hle := sel_len c ((ks.map (·.2)).take i)
    rw [List.length_take] at hle
    refine ⟨k.1, _, rfl, hkT, rfl, _, _, rfl, _, _, rfl, rfl, hw x y, htest x y hm H' p.1 _ _ fun H2 s2 => ?_⟩
    have s12 := p.1.trans s2
    have e2 := s2 _ _ p.2
    by_cases e : c x y = true
    · rw [if_pos e]
      refine hte x y H2 _ ⟨_, e2, ?_, fun b o z => ?_, ?_⟩
      · rw [List.length_map]; exact few1 (by omega)
      · rw [upd_ne (ne_of_none z nD)]; exact s12 b o z
      · rw [upd_same, sel_next gi, if_pos e, List.map_append]; rfl
    · rw [if_neg e]
      exact ⟨s12, by rw [sel_next gi, if_neg e, List.append_nil]; exact e2⟩
  · rw [List.length_map] at p
    have e : (ks.map (·.2)).take ks.length = ks.map (·.2) := List.take_of_length_le (by rw [List.length_map]; exact Nat.le_refl _)
    rw [e] at p
    exact hd H' p.1 p.2
end K20
set_option maxHeartbeats 4000000
namespace K20
open PySem PySem.Spec PyProof.Rows L2 RV
section
variable {P : Program} {w : World} {K : PySem.W.Frag} {mg : Str → Option Value} {base : Heap}
/-! ### _law_come_to -/
def spCome (K : PySem.W.Frag) : Sp := fun vs H Q _ => ∃ (c : Addr) (m : Int) (n : Nat) (ps : List (List Int)), vs = [.ref c, .int m] ∧ TupsH H c ps ∧ n ≤ 8 ∧ ps.length ≤ 64 ∧ (∀ p ∈ ps, Pr (n : Int) p) ∧ ps.Nodup ∧
  ∀ (H' : Hp) (d : Addr) (fs : List Int), Same H H' → H d = none → H' d = some (.lst (fs.map V.int)) → fs.length ≤ 8 → fs.Nodup → (∀ j, j ∈ fs ↔ Rch ps m j) → Q (.ref d) H'
abbrev nCome : List Str := ["_law_steps", "_law_mark", "_law_met", "_law_at", "_law_a", "_law_b"]
end
end K20
set_option maxHeartbeats 4000000
/-! sorted(l), l a list of unlike tuples of ints of any lengths, none of them empty -/
namespace RV
open PySem PySem.Spec PyProof.Rows L2 TS
section
variable {P : Program} {w : World} {A : Around} {E : Value → Shared → Prop} {s : Shared}
theorem sorted_listA {a : Addr} {L : List (Addr × List Int)} {Q : Value → Shared → Prop} (ρ : List Int → Int) (hl : s.heap.IsList a (L.map fun q => Value.ref q.1).toArray) (tup : ∀ q ∈ L, IsT P w s.heap q.2 q.1) (nd : (L.map (·.2)).Nodup) (few64 : L.length < 64)
    (hne : ∀ p ∈ L, p.2 ≠ []) (hr : ∀ p ∈ L, ∀ q ∈ L, lexA p.2 q.2 = decide (ρ p.2 < ρ q.2))
    (hQ : ∀ (h' : Heap) (d : Addr) (out : Array Value) (c : Nat) (L' : List (Addr × List Int)), (∀ b o, s.heap.get? b = some o → h'.get? b = some o) → s.heap.objs.size ≤ d → h'.get? d = some (seqObj "list" out c) →
      out.toList = L'.map (fun q => Value.ref q.1) → L'.Perm L → L'.Pairwise (fun q r => ρ q.2 ≤ ρ r.2) → Q (.ref d) { s with heap := h' }) : wpAny (model P w) A (call (.builtin "sorted") [.ref a]) Q E s := by
  have same1 : ∀ q ∈ L, ∀ r ∈ L, q.1 = r.1 → q = r := fun q hq r hr e => by
    have z := tup q hq
    rw [e] at z
    exact Prod.ext e (z.inj (tup r hr))
  have nodL : L.Nodup := nodup_of_map nd
  have nodR : (L.map fun q => Value.ref q.1).Nodup := List.pairwise_map.mpr (List.Pairwise.imp_of_mem (fun {q r} hq hr ne e => ne (same1 q hq r hr (Value.ref.inj e))) nodL)
  have lvs : (L.map fun q => Value.ref q.1).length < 64 := by rw [List.length_map]; exact few64
  have hz : (L.map fun q => Value.ref q.1).length ≤ sizeLine := by rw [sizeLine_eq]; omega
  have from_ : ∀ v ∈ L.map (fun q => Value.ref q.1), ∃ q ∈ L, v = Value.ref q.1 := fun v hv => by
    obtain ⟨q, hq, e⟩ := List.mem_map.mp hv
    exact ⟨q, hq, e.symm⟩
  generalize ev : L.map (fun q => Value.ref q.1) = vs at hl lvs hz from_ nodR
  refine Calls.call_function_entry kind_sorted plain_sorted entry_sorted (args_sorted1 _) (show wpAny _ _ _ _ _ _ from ?_)
  unfold Builtin.«sorted»
  refine wpAny_bind (m := checkCount "sorted" 1 1 _) (wpAny_pure (wpAny_bind (collect_list hl (wpAny_bind (wpAny_newList ?_ hz)) hz)))
  have hsz : ((s.heap.push (seqObj "list" #[] 0)).update s.heap.objs.size (Obj.mapSeq (· ++ vs.toArray))).objs.size = s.heap.objs.size + 1 := (Heap.size_update ..).trans (size_push' ..)
  have hoL : (((s.heap.push (seqObj "list" #[] 0)).update s.heap.objs.size (Obj.mapSeq (· ++ vs.toArray))).push (seqObj "list" vs.toArray 0)).get? (s.heap.objs.size + 1) = some (seqObj "list" vs.toArray 0) := hsz ▸ Heap.get?_push_size _ rfl
  have keep : ∀ b o, s.heap.get? b = some o → b < s.heap.objs.size ∧ (((s.heap.push (seqObj "list" #[] 0)).update s.heap.objs.size (Obj.mapSeq (· ++ vs.toArray))).push (seqObj "list" vs.toArray 0)).get? b = some o := fun b o z => by
    have hlt := Heap.lt_size z
    refine ⟨hlt, Heap.get?_push_of_some _ ?_⟩
    exact (Heap.get?_update_ne _ _ _ _ (Nat.ne_of_lt hlt)).trans (Heap.get?_push_of_some _ z)
  show wpAny _ _ _ _ _ { s with heap := ((s.heap.push (seqObj "list" #[] 0)).update s.heap.objs.size (Obj.mapSeq (· ++ vs.toArray))).push (seqObj "list" vs.toArray 0) }
  rw [hsz]
  generalize ((s.heap.push (seqObj "list" #[] 0)).update s.heap.objs.size (Obj.mapSeq (· ++ vs.toArray))).push (seqObj "list" vs.toArray 0) = h1 at hoL keep ⊢
  have tups : ∀ q ∈ L, TupInts h1 (.ref q.1) q.2 := fun q hq => tupInts_of (P := P) (w := w) (isT_keep (tup q hq) fun b u e => (keep b u e).2)
  refine wpAny_bind (wpAny_holding (call_sort_any (s := { s with heap := h1 }) ρ hoL lvs (fun v hv => ?_) (fun u hu v hv ns ms tu tv => ?_) fun out a1 a2 => ?_))
  · obtain ⟨q, hq, rfl⟩ := from_ v hv
    exact ⟨q.2, tups q hq, hne q hq⟩
  · obtain ⟨q, hq, rfl⟩ := from_ u hu
    obtain ⟨r, hr', rfl⟩ := from_ v hv
    have e1 : ns = q.2 := tu.ints.symm.trans (tups q hq).ints
    have e2 : ms = r.2 := tv.ints.symm.trans (tups r hr').ints
    subst e1 e2
    exact hr q hq r hr'
  · obtain ⟨c, hc⟩ := sortedHeap_at (vs := vs) (out := out) hoL
    obtain ⟨L', e', hs'⟩ := refs_some L out.toList fun v hv => from_ v (a1.mem_iff.mp hv)
    have pm' : (L'.map fun q => Value.ref q.1).Perm (L.map fun q => Value.ref q.1) := by rw [← e', ev]; exact a1
    have pL : L'.Perm L := by
      refine (List.perm_ext_iff_of_nodup (nodup_of_map (pm'.nodup_iff.mpr (ev ▸ nodR))) nodL).mpr fun q => ⟨hs' q, fun hq => ?_⟩
      obtain ⟨r, hr', e⟩ := List.mem_map.mp (pm'.mem_iff.mpr (List.mem_map.mpr ⟨q, hq, rfl⟩))
      rw [← same1 r (hs' r hr') q hq (Value.ref.inj e)]; exact hr'
    have pw : L'.Pairwise (fun q r => ρ q.2 ≤ ρ r.2) := by
      rw [e'] at a2
      refine List.Pairwise.imp_of_mem (fun {q r} hq hr' z => ?_) (List.pairwise_map.mp a2)
      have z' : ρ (intsOf h1 (.ref q.1)) ≤ ρ (intsOf h1 (.ref r.1)) := z
      rwa [(tups q (hs' q hq)).ints, (tups r (hs' r hr')).ints] at z'
    refine wpAny_pure ⟨_, rfl, hQ _ (s.heap.objs.size + 1) out c L' (fun b u e => ?_) (Nat.le_succ _) hc e' pL pw⟩
    have lt := (keep b u e).1
    have lt1 := Heap.lt_size hoL
    show (sortedHeap h1 (s.heap.objs.size + 1) vs out).get? b = some u
    rw [sortedHeap_old (Nat.ne_of_lt (Nat.lt_succ_of_lt lt)) (Nat.lt_trans (Nat.lt_succ_of_lt lt) lt1)]
    exact (keep b u e).2
end
section
variable {X : Cx}
def rSortL (K : PySem.W.Frag) : List V → Hp → VK → Prop := fun vs H Q => ∃ (a : Addr) (L : List (Addr × List Int)) (ρ : List Int → Int), vs = [V.ref a] ∧ SqL K H a (L.map fun q => V.ref q.1) ∧ (∀ p ∈ L, SqT K H p.1 (p.2.map V.int)) ∧ (L.map (·.2)).Nodup ∧ L.length < 64 ∧
  (∀ p ∈ L, p.2 ≠ []) ∧ (∀ p ∈ L, ∀ q ∈ L, lexA p.2 q.2 = decide (ρ p.2 < ρ q.2)) ∧
  ∀ (L' : List (Addr × List Int)) (p : Addr), L'.Perm L → L'.Pairwise (fun q r => ρ q.2 ≤ ρ r.2) → H p = none → Q (.ref p) (upd H p (.lst (L'.map fun q => V.ref q.1)))
theorem cr_sortedL : CallR X (.builtin "sorted") (rSortL X.K) := by
  intro pins s σ H vs us Q I r h
  obtain ⟨a, L, ρ, rfl, hs, hk, nd, few, hne, hr, q⟩ := h
  obtain ⟨its, rv, hl, hz⟩ := I.list hs
  rw [Vals.ref1 r]
  have ei : its = L.map fun q => Value.ref q.1 := by
    clear hs hk nd few hne hr q hl hz
    induction L generalizing its with
    | nil => cases rv; rfl
    | cons k L ih =>
      cases rv with
      | cons r1 r2 =>
        cases r1
        rw [List.map_cons, ih _ r2]
  subst ei
  refine sorted_listA ρ hl.isList (fun p hp => I.isT (hk p hp)) nd few hne hr fun h' d out c L' kp hd hg hout pm pw => ?_
  have len : (L'.map fun q => V.ref q.1).length ≤ sizeLine := by rw [List.length_map, sizeLine_eq, pm.length_eq]; omega
  have vals : Vals (L'.map fun q => V.ref q.1) out.toList := by rw [hout]; exact vals_of_refs L'
  exact ⟨.ref d, upd H d (.lst (L'.map fun q => V.ref q.1)), I.laid (t' := s.toks) kp hd ⟨len, out.toList, c, vals, by simpa using hg⟩, rfl, q L' d pm pw (I.hok.fresh hd)⟩
end
end RV
set_option maxHeartbeats 4000000
namespace K20
open PySem PySem.Spec PyProof.Rows L2 RV
/-- what the first i marks come to -/
def Rches (H : Hp) (D : Addr) (ps : List (List Int)) (ws : List (Addr × List Int)) : Prop := H D = some (.lst (ws.map fun p => V.ref p.1)) ∧ ∀ (k : Nat) (x : Addr × List Int), ws[k]? = some x → H x.1 = some (.lst (x.2.map V.int)) ∧ x.1 ≠ D ∧ x.2.length ≤ 8 ∧ x.2.Nodup ∧ ∀ j, j ∈ x.2 ↔ Rch ps (k : Int) j
theorem Rches.same {H H' : Hp} {D : Addr} {ps : List (List Int)} {ws : List (Addr × List Int)} (h : Rches H D ps ws) (s : Same H H') : Rches H' D ps ws :=
  ⟨s _ _ h.1, fun k x g => let ⟨a, b⟩ := h.2 k x g; ⟨s _ _ a, b⟩⟩
theorem eq_of_rise {xs ys : List Int} (h : xs.Perm ys) (h1 : xs.Pairwise (· ≤ ·)) (h2 : ys.Pairwise (· ≤ ·)) : xs = ys := List.Perm.eq_of_pairwise (le := (· ≤ ·)) (fun a b _ _ x y => Int.le_antisymm x y) h1 h2 h
/-- what sorted tells of the marks that are come to and come back -/
theorem some_lot {ps : List (List Int)} {n : Nat} {m : Int} {fs zs : List Int} (hp : ∀ p ∈ ps, Pr (n : Int) p) (nd : fs.Nodup) (hf : ∀ j, j ∈ fs ↔ Rch ps m j) (pm : zs.Perm (fs.filter fun j => rB ps j m)) (pw : zs.Pairwise (· ≤ ·)) : zs = lotOf ps n m := by
  have nd2 : (lotOf ps n m).Nodup := (lot_rise ps n m).imp fun h => by omega
  refine eq_of_rise (pm.trans ((List.perm_ext_iff_of_nodup (nd.filter _) nd2).mpr fun x => ?_)) pw ((lot_rise ps n m).imp fun h => Int.le_of_lt h)
  rw [List.mem_filter, mem_lot, hf, rB_iff]
  exact ⟨fun h => ⟨(Rch.bound hp h.1).2, h⟩, fun h => h.2⟩
theorem head_iff {ps : List (List Int)} {n i : Nat} (hi : i < n) : isHead ps n (i : Int) = (decide ((i : Int) ∈ lotOf ps n (i : Int)) && decide (lotOf ps n (i : Int) ∉ partsTo ps n i)) := by
  rw [Bool.eq_iff_iff, Bool.and_eq_true, decide_eq_true_iff, decide_eq_true_iff]
  unfold isHead
  rw [decide_eq_true_iff]
  have memT : ∀ p, p ∈ partsTo ps n i ↔ ∃ m : Int, (0 ≤ m ∧ m < (i : Int)) ∧ (lotOf ps n m).head? = some m ∧ p = lotOf ps n m := fun p => by
    unfold partsTo isHead
    rw [List.mem_map]
    constructor
    · rintro ⟨m, hm, rfl⟩
      obtain ⟨h1, h2⟩ := List.mem_filter.mp hm
      obtain ⟨k, hk, e⟩ := List.getElem_of_mem h1
      rw [List.length_take, upN_len] at hk
      have e2 : ((upN n).take i)[k]? = some m := by rw [List.getElem?_eq_getElem (by rw [List.length_take, upN_len]; exact hk), e]
      rw [List.getElem?_take, if_pos (by omega), upN_get (by omega)] at e2
      have e3 : (k : Int) = m := Option.some.inj e2
      exact ⟨m, by omega, of_decide_eq_true h2, rfl⟩
    · rintro ⟨m, h1, h2, rfl⟩
      refine ⟨m, List.mem_filter.mpr ⟨?_, decide_eq_true h2⟩, rfl⟩
      refine List.mem_of_getElem? (i := m.toNat) ?_
      rw [List.getElem?_take, if_pos (by omega), upN_get (by omega), Int.toNat_of_nonneg h1.1]
  constructor
  · intro h
    refine ⟨List.mem_of_mem_head? (by rw [h]; rfl), fun z => ?_⟩
    obtain ⟨m, h1, h2, h3⟩ := (memT _).mp z
    rw [← h3, h] at h2
    have := Option.some.inj h2
    omega
  · rintro ⟨h1, h2⟩
    cases e : lotOf ps n (i : Int) with
    | nil => rw [e] at h1; cases h1
    | cons x r =>
      by_cases ex : x = (i : Int)
      · rw [ex]; rfl
      · exfalso
        have hx : x ∈ lotOf ps n (i : Int) := by rw [e]; exact List.mem_cons_self ..
        have exl := lot_eq hx
        have hlt : x < (i : Int) := by
          have rise := lot_rise ps n (i : Int)
          rw [e] at rise h1
          rcases List.mem_cons.mp h1 with z | z
          · exact absurd z.symm ex
          · exact (List.pairwise_cons.mp rise).1 _ z
        refine h2 ((memT _).mpr ⟨x, ⟨(mem_lot.mp hx).1.1, hlt⟩, by rw [exl, e]; rfl, exl.symm⟩)
theorem lexA_hd {ps : List (List Int)} {n : Nat} {p q : List Int} (hp : p ∈ partsOf ps n) (hq : q ∈ partsOf ps n) : lexA p q = decide (hd0 p < hd0 q) := by
  have irr : ∀ xs : List Int, lexA xs xs = false := fun xs => by
    induction xs with
    | nil => rfl
    | cons x xs ih =>
      show (if x = x then lexA xs xs else decide (x < x)) = false
      rw [if_pos rfl]; exact ih
  by_cases e : hd0 p = hd0 q
  · have := part_hd hp hq e
    subst this
    rw [irr, decide_eq_false (Int.lt_irrefl _)]
  · have np := part_ne hp
    have nq := part_ne hq
    cases p with
    | nil => exact absurd rfl np
    | cons x xs =>
      cases q with
      | nil => exact absurd rfl nq
      | cons y ys =>
        have e : x ≠ y := e
        show (if x = y then lexA xs ys else decide (x < y)) = decide (x < y)
        rw [if_neg e]
theorem parts_sorted {ps : List (List Int)} {n : Nat} {ls : List (List Int)} (pm : ls.Perm (partsOf ps n)) (pw : ls.Pairwise fun p q => hd0 p ≤ hd0 q) : ls = partsOf ps n :=
  List.Perm.eq_of_pairwise (le := fun p q => hd0 p ≤ hd0 q) (fun a b ha hb h1 h2 => part_hd (pm.mem_iff.mp ha) hb (Int.le_antisymm h1 h2)) pw ((parts_rise ps n).imp fun h => Int.le_of_lt h) pm
theorem any_lots (p : List Int) (ls : List (List Int)) : (ls.map RV.dI).any (fun y => PyData.eqv y (RV.dI p)) = decide (p ∈ ls) := any_dI p ls
theorem shapedLs (ls : List (List Int)) : SeqAt.shaped (.list (ls.map RV.dI)) = true := by
  have h1 := dep_dI ls
  have e : (PyData.list (ls.map RV.dI)).depth ≤ 64 := by simp only [PyData.depth]; omega
  show ((PyData.list (ls.map RV.dI)).canLay0 && decide ((PyData.list (ls.map RV.dI)).depth ≤ 64)) = true
  rw [decide_eq_true e, Bool.and_true]
  simp only [PyData.canLay0]
  exact lay_dI ls
theorem LotsH.dp {K : PySem.W.Frag} {H : Hp} {a : Addr} {ls : List (List Int)} (h : LotsH H a ls) : Dp K H (.ref a) (.list (ls.map RV.dI)) := by
  obtain ⟨ks, rfl, h2, h3⟩ := h
  exact .lst (lstNew h2) (dpTs ks fun p hp => tupNew (h3 p hp))
section
variable {P : Program} {w : World} {K : PySem.W.Frag} {mg : Str → Option Value} {base : Heap}
/-! ### _law_parts -/
abbrev nLParts : List Str := ["_law_own", "_law_mirrors", "_law_steps", "_law_reach", "_law_found", "_law_mark", "_law_some", "_law_other"]
def spLParts (K : PySem.W.Frag) : Sp := fun vs H Q _ => ∃ (R : Addr) (ns : List Int) (ps : List (List Int)), vs = [.ref R] ∧ OwnH K H R ns ps ∧ ∀ (H' : Hp) (l : Addr), Same H H' → H l = none → LotsH H' l (partsOf ps ns.length) → Q (.ref l) H'
end
end K20
set_option maxHeartbeats 4000000
namespace RV
open PySem PySem.Spec PyProof.Rows L2
section
variable {X : Cx} {K : PySem.W.Frag}
/-- t + u of any two tuples, wherever the sum stands -/
def rCatW (K : PySem.W.Frag) : R2 := fun x y H Q => ∃ a b xs ys, x = .ref a ∧ y = .ref b ∧ SqT K H a xs ∧ SqT K H b ys ∧ xs.length + ys.length ≤ sizeLine ∧ ∀ (p : Addr) (H' : Hp), Same H H' → SqT K H' p (xs ++ ys) → Q (.ref p) H'
theorem op_catW : OpR X (binaryOp .Add) (rCatW X.K) := by
  intro pins s σ H x y v u Q I rx ry h
  obtain ⟨a, b, xs, ys, e1, e2, h1, h2, hl, q⟩ := h
  refine op_catA pins s σ H x y v u Q I rx ry ⟨a, b, xs, ys, e1, e2, h1, h2, hl, fun z => ?_, fun _ z => ?_, fun _ _ p np => ?_⟩
  · exact q b H (fun _ _ e => e) (by rw [z]; exact h2)
  · exact q a H (fun _ _ e => e) (by rw [z, List.append_nil]; exact h1)
  · exact q p _ (same_upd np) (tupNew upd_same)
theorem op_catWK (h : X.K = K) : OpR X (binaryOp .Add) (rCatW K) := h ▸ op_catW
/-- t[lo:hi], wherever the slice stands -/
def rSlW (K : PySem.W.Frag) : V → Option Int → Option Int → Hp → VK → Prop := fun x lo hi H Q => ∃ a xs, x = .ref a ∧ SqT K H a xs ∧ ∀ (p : Addr) (H' : Hp), Same H H' → SqT K H' p (cutV xs lo hi) → Q (.ref p) H'
theorem sl_tupW : SlR X (rSlW X.K) := by
  intro pins s σ H x v vl vu lo hi sl Q I rx hs pl pu h
  obtain ⟨a, xs, e, h1, q⟩ := h
  refine sl_tupA pins s σ H x v vl vu lo hi sl Q I rx hs pl pu ⟨a, xs, e, h1, fun z => ?_, fun _ p np => ?_⟩
  · refine q a H (fun _ _ e => e) ?_
    unfold cutV
    rw [z.1, z.2, List.drop_zero, Nat.sub_zero, List.take_of_length_le (Nat.le_refl _)]
    exact h1
  · exact q p _ (same_upd np) (tupNew upd_same)
theorem sl_tupWK (h : X.K = K) : SlR X (rSlW K) := h ▸ sl_tupW
theorem cut_from (xs : List V) (k : Nat) : cutV xs (some (k : Int)) none = xs.drop k := by
  unfold cutV
  rw [HT.sIx_nat, HT.sIx_none]
  rcases Nat.le_total k xs.length with h | h
  · rw [Nat.min_eq_left h, List.take_of_length_le (by rw [List.length_drop]; exact Nat.le_refl _)]
  · rw [Nat.min_eq_right h, Nat.sub_self, List.take_zero, List.drop_eq_nil_of_le h]
theorem cut_to (xs : List V) (k : Nat) : cutV xs none (some (k : Int)) = xs.take k := by
  unfold cutV
  rw [HT.sIx_nat, HT.sIx_none, List.drop_zero, Nat.sub_zero]
  rcases Nat.le_total k xs.length with h | h
  · rw [Nat.min_eq_left h]
  · rw [Nat.min_eq_right h, List.take_of_length_le (Nat.le_refl _), List.take_of_length_le h]
theorem tuple_mul1 (l : Addr) (items : Array Value) (n : Nat) (dd : Option Addr) (sl : Array (Option Value)) (x : Int) (u : Tok) (c0 : (decide (x < -(2 ^ 63)) || decide (x ≥ 2 ^ 63)) = false) (c1 : (items.isEmpty || x == 1) = true) :
    Meets (Builtin.«tuple.__mul__» ⟨[.ref l, .int x u], []⟩) (fun _ R s => s.heap.get? l = some { cls := .type "tuple", dict := dd, data := .seq items n, slots := sl } ∧ R (.ok (.ret (Value.ref l))) s) :=
  .of_wp fun prog w A R s h => by
    obtain ⟨hp, g, d, tk, os⟩ := s
    obtain ⟨hl, h⟩ := h
    have f1 := AutoSeq1.idx_int
    wp_walk using wpAny_loadPart' hl
    repeat (first
      | (refine wpAny_ite_false (decide_eq_false (by rw [c0]; exact Bool.false_ne_true)) ?_; wp_walk using wpAny_loadPart' hl)
      | (refine wpAny_ite_true (decide_eq_true (by rw [c1])) ?_; wp_walk using wpAny_loadPart' hl))
    exact ⟨_, rfl, h⟩
theorem tuple_mul0 (l : Addr) (items : Array Value) (n : Nat) (dd : Option Addr) (sl : Array (Option Value)) (x : Int) (u : Tok) (c0 : (decide (x < -(2 ^ 63)) || decide (x ≥ 2 ^ 63)) = false) (c1 : (items.isEmpty || x == 1) = false) (c2 : (decide (x ≤ 0) || items.isEmpty) = true) :
    Meets (Builtin.«tuple.__mul__» ⟨[.ref l, .int x u], []⟩) (fun _ R s => s.heap.get? l = some { cls := .type "tuple", dict := dd, data := .seq items n, slots := sl } ∧ R (.ok (.ret (Value.ref s.heap.objs.size))) { s with heap := s.heap.push { cls := Value.type "tuple", data := Data.seq #[] }, toks := s.toks }) :=
  .of_wp fun prog w A R s h => by
    obtain ⟨hp, g, d, tk, os⟩ := s
    obtain ⟨hl, h⟩ := h
    have f1 := AutoSeq1.idx_int
    wp_walk using wpAny_loadPart' hl
    repeat (first
      | (refine wpAny_ite_false (decide_eq_false (by rw [c0]; exact Bool.false_ne_true)) ?_; wp_walk using wpAny_loadPart' hl)
      | (refine wpAny_ite_false (decide_eq_false (by rw [c1]; exact Bool.false_ne_true)) ?_; wp_walk using wpAny_loadPart' hl)
      | (refine wpAny_ite_true (decide_eq_true (by rw [c2])) ?_; wp_walk using wpAny_loadPart' hl))
    exact ⟨_, rfl, h⟩
/-- t * k, k from 0 on -/
def rRepW (K : PySem.W.Frag) : R2 := fun x y H Q => ∃ l k xs, x = .ref l ∧ y = .int k ∧ SqT K H l xs ∧ 0 ≤ k ∧ k ≤ 1000 ∧ xs.length ≤ 1000 ∧ ∀ (p : Addr) (H' : Hp), Same H H' → SqT K H' p (List.replicate k.toNat xs).flatten → Q (.ref p) H'
theorem flat_nil : ∀ m : Nat, (List.replicate m ([] : List V)).flatten = []
  | 0 => rfl
  | m + 1 => by rw [List.replicate_succ, List.flatten_cons, flat_nil m]; rfl
theorem op_repW : OpR X (binaryOp .Mult) (rRepW X.K) := by
  intro pins s σ H x y v u Q I rx ry h
  obtain ⟨l, k, xs, rfl, rfl, hT, h0, h1, hz, q⟩ := h
  by_cases hbig : xs ≠ [] ∧ 2 ≤ k
  · exact op_repT pins s σ H _ _ v u Q I rx ry ⟨l, k, xs, rfl, rfl, hT, hbig.1, hbig.2, h1, hz, fun p np => q p _ (same_upd np) (tupNew upd_same)⟩
  cases rx
  obtain ⟨t, rfl⟩ := ry
  obtain ⟨its, r, ⟨⟨cls, dd, data, sl⟩, ho, hc, n, hd⟩, hs⟩ := I.tuple hT
  simp only at hc hd
  subst hc hd
  have hle : its.length = xs.length := r.length.symm
  have c0 : (decide (k < -(2 ^ 63)) || decide (k ≥ 2 ^ 63)) = false := by
    rw [decide_eq_false (by omega), decide_eq_false (by omega)] <;> rfl
  by_cases e1 : xs = [] ∨ k = 1
  · have c1 : (its.toArray.isEmpty || k == 1) = true := by
      rcases e1 with e | e
      · have : its = [] := List.eq_nil_of_length_eq_zero (by rw [hle, e]; rfl)
        rw [this]; rfl
      · rw [e]; simp
    refine wpAny_binaryOp_repeat_ref (T := "tuple") (U := "int") (by decide) ⟨_, ho, rfl⟩ (fun s' => typeIs_int s' k t) noFill_tuple_mul F.fills_int_mul F.slot_int_rmul repeat_tuple F.slot_int_index.lookup
      (call_meets F.slot_int_rmul (typeIs_int s k t) F.entry_int_rmul (F.args_int_rmul_2 _ _) (int_rmul_tuple k t l its.toArray n dd sl)
        ⟨ho, rfl, ⟨_, ho, rfl⟩, call_meets F.slot_tuple_mul ⟨_, ho, rfl⟩ F.entry_tuple_mul (F.args_tuple_mul_2 _ _) (tuple_mul1 l its.toArray n dd sl k t c0 c1) ⟨ho, ?_⟩⟩)
    refine ⟨.ref l, H, I, rfl, q l H (fun _ _ e => e) ?_⟩
    rcases e1 with e | e
    · subst e; rw [flat_nil]; exact hT
    · subst e
      show SqT X.K H l ([xs].flatten)
      rw [List.flatten_cons, List.flatten_nil, List.append_nil]; exact hT
  · have e2 : xs ≠ [] := fun e => e1 (.inl e)
    have e3 : k = 0 := by
      rcases Int.lt_or_le k 2 with z | z
      · have : k ≠ 1 := fun e => e1 (.inr e)
        omega
      · exact absurd ⟨e2, z⟩ hbig
    have hi : its.toArray.isEmpty = false := by
      cases its with
      | nil => exact absurd (List.eq_nil_of_length_eq_zero hle.symm) e2
      | cons a b => rfl
    have c1 : (its.toArray.isEmpty || k == 1) = false := by
      rw [hi, e3]; rfl
    have c2 : (decide (k ≤ 0) || its.toArray.isEmpty) = true := by
      rw [e3]; rfl
    refine wpAny_binaryOp_repeat_ref (T := "tuple") (U := "int") (by decide) ⟨_, ho, rfl⟩ (fun s' => typeIs_int s' k t) noFill_tuple_mul F.fills_int_mul F.slot_int_rmul repeat_tuple F.slot_int_index.lookup
      (call_meets F.slot_int_rmul (typeIs_int s k t) F.entry_int_rmul (F.args_int_rmul_2 _ _) (int_rmul_tuple k t l its.toArray n dd sl)
        ⟨ho, rfl, ⟨_, ho, rfl⟩, call_meets F.slot_tuple_mul ⟨_, ho, rfl⟩ F.entry_tuple_mul (F.args_tuple_mul_2 _ _) (tuple_mul0 l its.toArray n dd sl k t c0 c1 c2) ⟨ho, ?_⟩⟩)
    refine ⟨.ref s.heap.objs.size, _, I.laid (t' := s.toks) (o := .tup []) (fun b ob q => Heap.get?_push_of_some _ q) (Nat.le_refl _) ?_, rfl, q _ _ (same_upd (I.hok.fresh (Nat.le_refl _))) (by rw [e3]; exact tupNew upd_same)⟩
    exact ⟨Nat.zero_le _, [], .nil, IsTup.new _ _⟩
theorem op_eqI1K (h : X.K = K) (hu : X.A.units + 64 < cLine) : OpR X (compareOp .Eq) (rEqI1 K) := h ▸ op_eqI1 hu
theorem op_repWK (h : X.K = K) : OpR X (binaryOp .Mult) (rRepW K) := h ▸ op_repW
end
/-- [h(x) for x in t], t a tuple of ints -/
theorem lc_mapT {K : PySem.W.Frag} {te : TE} {h : Int → Int} {σ : L2.St} {H1 : Hp} {a D : Addr} {v : Nat} {ns : List Int} {Qd : Hp → Prop} (hT : SqT K H1 a (ns.map V.int)) (hl : ns.length ≤ 1000) (nD : H1 D = none)
    (hte : ∀ x ∈ ns, ∀ (H' : Hp) (Q : VK), Same H1 H' → (∀ H2, Same H' H2 → Q (.int (h x)) H2) → te ((wipe σ [v]).set v (some (.int x))) H' Q)
    (hd : ∀ H', Same H1 H' → H' D = some (.lst ((ns.map h).map V.int)) → Qd H') :
    ∃ W : Nat → Nat → Hp → Prop, (∃ m, W 0 m (upd H1 D (.lst []))) ∧ ∀ i m H, W i m H →
      ((Itt K a).stop i H ∧ Qd H) ∨ ((Itt K a).go i H ∧ ∃ Nx : Hp → Prop, (∀ H', Nx H' → ∃ m', m' < m ∧ W (i + 1) m' H') ∧ ∀ x H', (Itt K a).yld i H x H' → gName v x (wipe σ [v]) H' fun σ2 H2 => wipe σ2 [v] = wipe σ [v] ∧ tYes σ2 H2 fun b H3 =>
        if b = true then te σ2 H3 fun y H4 => ∃ acc, H4 D = some (.lst acc) ∧ acc.length < sizeLine ∧ Nx (upd H4 D (.lst (acc ++ [y]))) else Nx H3) := by
  refine lc_tup (K := K) (a := a) (xs := ns.map V.int) (fun i H' => Same H1 H' ∧ H' D = some (.lst (((ns.take i).map h).map V.int))) ⟨same_upd nD, upd_same⟩ (fun i H' _ p => sqT_same p.1 hT) (fun i x H' hx p => ?_) fun H' p => ?_
  · obtain ⟨k, g, rfl⟩ := map_at hx
    refine ⟨by simp [wipe, List.set_set], tt_yes (hte k (List.mem_of_getElem? g) H' _ p.1 fun H2 s2 => ⟨_, s2 _ _ p.2, ?_, fun b o z => ?_, ?_⟩)⟩
    · rw [List.length_map, List.length_map, List.length_take]; exact few1 (by omega)
    · rw [upd_ne (ne_of_none z nD)]; exact s2 _ _ (p.1 b o z)
    · rw [upd_same, List.take_add_one, g, List.map_append, List.map_append]; rfl
  · rw [List.length_map, List.take_of_length_le (Nat.le_refl _)] at p
    exact hd H' p.1 p.2
end RV
set_option maxHeartbeats 4000000
/-! how many walks there are -/
namespace RV
/-- the sum of f over l -/
def sm {α : Type} (l : List α) (f : α → Int) : Int := (l.map f).sum
section
variable {α β : Type}
theorem sm_nil (f : α → Int) : sm [] f = 0 := rfl
theorem sm_cons (a : α) (l : List α) (f : α → Int) : sm (a :: l) f = f a + sm l f := by unfold sm; rw [List.map_cons, List.sum_cons]
theorem sm_app (l r : List α) (f : α → Int) : sm (l ++ r) f = sm l f + sm r f := by unfold sm; rw [List.map_append, List.sum_append]
theorem sm_congr {l : List α} {f g : α → Int} (h : ∀ a ∈ l, f a = g a) : sm l f = sm l g := by unfold sm; rw [List.map_congr_left h]
theorem sm_zero {l : List α} {f : α → Int} (h : ∀ a ∈ l, f a = 0) : sm l f = 0 := by
  induction l with
  | nil => rfl
  | cons a l ih => rw [sm_cons, h a (List.mem_cons_self ..), ih fun b hb => h b (List.mem_cons_of_mem _ hb)]; rfl
theorem sm_add (l : List α) (f g : α → Int) : sm l (fun a => f a + g a) = sm l f + sm l g := by
  induction l with
  | nil => rfl
  | cons a l ih => rw [sm_cons, sm_cons, sm_cons, ih]; omega
theorem sm_mul (l : List α) (f : α → Int) (c : Int) : sm l (fun a => c * f a) = c * sm l f := by
  induction l with
  | nil => rw [sm_nil, sm_nil, Int.mul_zero]
  | cons a l ih => rw [sm_cons, sm_cons, ih, Int.mul_add]
theorem sm_comm (l : List α) (r : List β) (F : α → β → Int) : sm l (fun a => sm r (F a)) = sm r (fun b => sm l fun a => F a b) := by
  induction l with
  | nil => exact (sm_zero fun b _ => rfl).symm
  | cons a l ih =>
    rw [sm_cons, ih, ← sm_add]
    exact sm_congr fun b _ => (sm_cons a l fun a => F a b).symm
theorem sm_map {γ : Type} (l : List γ) (g : γ → α) (f : α → Int) : sm (l.map g) f = sm l (fun c => f (g c)) := by unfold sm; rw [List.map_map]; rfl
theorem sm_filter (l : List α) (c : α → Bool) (f : α → Int) : sm (l.filter c) f = sm l fun a => if c a = true then f a else 0 := by
  induction l with
  | nil => rfl
  | cons a l ih =>
    rw [List.filter_cons, sm_cons]
    by_cases e : c a = true
    · rw [if_pos e, if_pos e, sm_cons, ih]
    · rw [if_neg e, if_neg e, ih, Int.zero_add]
theorem sm_flat (l : List (List α)) (f : α → Int) : sm l.flatten f = sm l fun r => sm r f := by
  induction l with
  | nil => rfl
  | cons a l ih => rw [List.flatten_cons, sm_app, sm_cons, ih]
theorem sm_len (l : List α) : sm l (fun _ => 1) = (l.length : Int) := by
  induction l with
  | nil => rfl
  | cons a l ih => rw [sm_cons, ih, List.length_cons]; omega
theorem sm_at [DecidableEq α] {l : List α} (nd : l.Nodup) {a : α} (ha : a ∈ l) (f : α → Int) : sm l (fun b => if b = a then f b else 0) = f a := by
  induction l with
  | nil => cases ha
  | cons b l ih =>
    rw [sm_cons]
    have nd' := List.nodup_cons.mp nd
    by_cases e : b = a
    · rw [if_pos e, sm_zero fun c hc => if_neg fun z => nd'.1 (by rw [e, ← z]; exact hc), e, Int.add_zero]
    · rw [if_neg e, ih nd'.2 ((List.mem_cons.mp ha).resolve_left fun z => e z.symm), Int.zero_add]
theorem sm_out [DecidableEq α] {l : List α} {a : α} (ha : a ∉ l) (f : α → Int) : sm l (fun b => if b = a then f b else 0) = 0 := sm_zero fun b hb => if_neg fun z => ha (by rw [← z]; exact hb)
/-- the sum over xs is that over l where f is nought elsewhere -/
theorem sm_part [DecidableEq α] {l : List α} (ndl : l.Nodup) (f : α → Int) : ∀ {xs : List α}, xs.Nodup → (∀ x ∈ xs, x ∉ l → f x = 0) → sm xs f = sm l fun y => if y ∈ xs then f y else 0
  | [], _, _ => by rw [sm_nil, sm_zero fun y _ => if_neg (by simp)]
  | x :: xs, nd, h => by
    have nd' := List.nodup_cons.mp nd
    rw [sm_cons, sm_part ndl f nd'.2 fun y hy => h y (List.mem_cons_of_mem _ hy)]
    have e1 : sm l (fun y => if y ∈ x :: xs then f y else 0) = sm l (fun y => (if y = x then f y else 0) + (if y ∈ xs then f y else 0)) := sm_congr fun y _ => by
      by_cases e : y = x
      · subst e
        rw [if_pos (List.mem_cons_self ..), if_pos rfl, if_neg nd'.1, Int.add_zero]
      · rw [if_neg e, Int.zero_add]
        by_cases e2 : y ∈ xs
        · rw [if_pos e2, if_pos (List.mem_cons_of_mem _ e2)]
        · rw [if_neg e2, if_neg fun z => (List.mem_cons.mp z).elim e e2]
    rw [e1, sm_add]
    by_cases hx : x ∈ l
    · rw [sm_at ndl hx]
    · rw [sm_out hx, h x (List.mem_cons_self ..) hx]
end
/-- one step on: what comes to j -/
def stp (ps : List (List Int)) (f : Int → Int) (j : Int) : Int := sm (ps.filter fun p => decide (p.getD 1 0 = j)) fun p => f (p.getD 0 0)
theorem stp_next {ps : List (List Int)} {f : Int → Int} {i : Nat} {x y : Int} (h : ps[i]? = some [x, y]) (j : Int) : stp (ps.take (i + 1)) f j = stp (ps.take i) f j + (if y = j then f x else 0) := by
  unfold stp
  rw [List.take_add_one, h]
  show sm ((ps.take i ++ [[x, y]]).filter _) _ = _
  rw [List.filter_append, sm_app]
  congr 1
  by_cases e : y = j
  · rw [if_pos e, List.filter_cons, if_pos (by exact decide_eq_true e)]
    exact Int.add_zero _
  · rw [if_neg e, List.filter_cons, if_neg (by show ¬ decide (y = j) = true; rw [decide_eq_false e]; decide)]
    rfl
/-- all walks of n steps from m to j -/
def cw (ps : List (List Int)) : Nat → Int → Int → Int
  | 0, m, j => if j = m then 1 else 0
  | n + 1, m, j => stp ps (cw ps n m) j
/-- those that keep to p -/
def lw (ps : List (List Int)) (p : List Int) : Nat → Int → Int → Int
  | 0, m, j => if j = m then 1 else 0
  | n + 1, m, j => if j ∈ p then stp ps (lw ps p n m) j else 0
theorem stp_mem {ps : List (List Int)} {b : Int} (hP : ∀ q ∈ ps, Pr b q) {j : Int} {q : List Int} (h : q ∈ ps.filter fun p => decide (p.getD 1 0 = j)) : [q.getD 0 0, j] ∈ ps := by
  obtain ⟨h1, h2⟩ := List.mem_filter.mp h
  obtain ⟨x, y, rfl, _⟩ := hP q h1
  have e : y = j := of_decide_eq_true h2
  rw [← e]; exact h1
theorem cw_rch {ps : List (List Int)} {b : Int} (hP : ∀ q ∈ ps, Pr b q) {m : Int} : ∀ {n : Nat} {j : Int}, cw ps n m j ≠ 0 → j = m ∨ Rch ps m j
  | 0, j, h => by
    by_cases e : j = m
    · exact .inl e
    · exact absurd (if_neg e) h
  | n + 1, j, h => by
    refine Classical.byContradiction fun no => h ?_
    show stp ps (cw ps n m) j = 0
    refine sm_zero fun q hq => Classical.byContradiction fun z => no (.inr ?_)
    have e := stp_mem hP hq
    rcases cw_rch hP z with e2 | e2
    · rw [← e2]; exact .one e
    · exact .more e2 e
/-- a walk from a mark of a lot back into it never leaves it -/
theorem lw_cw {ps : List (List Int)} {N : Nat} (hP : ∀ q ∈ ps, Pr (N : Int) q) {m : Int} (hm : m ∈ lotOf ps N m) : ∀ (n : Nat), (∀ j, j ∈ lotOf ps N m → lw ps (lotOf ps N m) n m j = cw ps n m j) ∧ (∀ j, j ∉ lotOf ps N m → lw ps (lotOf ps N m) n m j = 0)
  | 0 => ⟨fun j _ => rfl, fun j h => if_neg fun e => h (by rw [e]; exact hm)⟩
  | n + 1 => by
    obtain ⟨h1, h2⟩ := lw_cw hP hm n
    refine ⟨fun j hj => ?_, fun j hj => if_neg hj⟩
    show (if j ∈ lotOf ps N m then stp ps (lw ps (lotOf ps N m) n m) j else 0) = stp ps (cw ps n m) j
    rw [if_pos hj]
    refine sm_congr fun q hq => ?_
    have e := stp_mem hP hq
    by_cases c : q.getD 0 0 ∈ lotOf ps N m
    · exact h1 _ c
    · rw [h2 _ c]
      refine Classical.byContradiction fun z => c ?_
      have r := cw_rch hP (fun y => z y.symm)
      obtain ⟨_, j1, j2⟩ := mem_lot.mp hj
      have back : Rch ps (q.getD 0 0) m := (Rch.one e).trans j2
      rcases r with r | r
      · rw [r]; exact hm
      · exact mem_lot.mpr ⟨(Rch.bound hP (.one e)).1, r, back⟩
/-- one step on within p, by the marks of p -/
theorem stp_part {ps : List (List Int)} {b : Int} (hP : ∀ q ∈ ps, Pr b q) (nd : ps.Nodup) {p : List Int} (ndp : p.Nodup) {f : Int → Int} (hf : ∀ a, a ∉ p → f a = 0) (j : Int) : stp ps f j = sm p fun a => if [a, j] ∈ ps then f a else 0 := by
  unfold stp
  have e1 : sm (ps.filter fun p => decide (p.getD 1 0 = j)) (fun q => f (q.getD 0 0)) = sm ((ps.filter fun p => decide (p.getD 1 0 = j)).map fun q => q.getD 0 0) f := (sm_map _ _ _).symm
  rw [e1]
  have ndx : ((ps.filter fun p => decide (p.getD 1 0 = j)).map fun q => q.getD 0 0).Nodup := by
    refine List.pairwise_map.mpr (List.Pairwise.imp_of_mem (fun {x y} hx hy ne e => ne ?_) (nd.filter _))
    obtain ⟨x1, x2⟩ := List.mem_filter.mp hx
    obtain ⟨y1, y2⟩ := List.mem_filter.mp hy
    obtain ⟨a, b', rfl, _⟩ := hP x x1
    obtain ⟨c, d, rfl, _⟩ := hP y y1
    have e1 : b' = j := of_decide_eq_true x2
    have e2 : d = j := of_decide_eq_true y2
    have e3 : a = c := e
    rw [e1, e2, e3]
  rw [sm_part ndp f ndx fun x _ hx => hf x hx]
  refine sm_congr fun a _ => ?_
  have iff : a ∈ ((ps.filter fun p => decide (p.getD 1 0 = j)).map fun q => q.getD 0 0) ↔ [a, j] ∈ ps := by
    rw [List.mem_map]
    constructor
    · rintro ⟨q, hq, rfl⟩
      exact stp_mem hP hq
    · intro h
      exact ⟨[a, j], List.mem_filter.mpr ⟨h, decide_eq_true rfl⟩, rfl⟩
  by_cases c : [a, j] ∈ ps
  · rw [if_pos c, if_pos (iff.mpr c)]
  · rw [if_neg c, if_neg fun z => c (iff.mp z)]
/-! ### rows of marks, each behind the one ahead, of p -/
def lst0 (r : List Int) : Int := r.getLastD 0
/-- all rows one mark longer -/
def longer (ps : List (List Int)) (p : List Int) (rows : List (List Int)) : List (List Int) := (rows.map fun r => (p.filter fun b => decide ([lst0 r, b] ∈ ps)).map fun b => r ++ [b]).flatten
def rowsN (ps : List (List Int)) (p : List Int) : Nat → List (List Int)
  | 0 => p.map fun m => [m]
  | n + 1 => longer ps p (rowsN ps p n)
theorem rows_ne {ps : List (List Int)} {p : List Int} : ∀ {n : Nat} {r : List Int}, r ∈ rowsN ps p n → r ≠ []
  | 0, r, h => by
    obtain ⟨m, _, rfl⟩ := List.mem_map.mp h
    simp
  | n + 1, r, h => by
    obtain ⟨l, hl, hr⟩ := List.mem_flatten.mp h
    obtain ⟨r', _, rfl⟩ := List.mem_map.mp hl
    obtain ⟨b, _, rfl⟩ := List.mem_map.mp hr
    simp
theorem hd_app {r : List Int} (h : r ≠ []) (b : Int) : hd0 (r ++ [b]) = hd0 r := by
  cases r with
  | nil => exact absurd rfl h
  | cons x r => rfl
theorem lst_app (r : List Int) (b : Int) : lst0 (r ++ [b]) = b := by unfold lst0; simp
/-- how often each first and last mark comes -/
theorem rows_sum {ps : List (List Int)} {N : Nat} (hP : ∀ q ∈ ps, Pr (N : Int) q) (nd : ps.Nodup) {p : List Int} (hp : ∀ m ∈ p, lotOf ps N m = p) : ∀ (n : Nat) (φ : Int → Int → Int), sm (rowsN ps p n) (fun r => φ (hd0 r) (lst0 r)) = sm p fun m => sm p fun j => lw ps p n m j * φ m j
  | 0, φ => by
    show sm (p.map fun m => [m]) (fun r => φ (hd0 r) (lst0 r)) = _
    rw [sm_map]
    refine sm_congr fun m hm => ?_
    have ndp : p.Nodup := by rw [← hp m hm]; exact (lot_rise ps N m).imp fun h => by omega
    have e : sm p (fun j => lw ps p 0 m j * φ m j) = sm p (fun j => if j = m then φ m j else 0) := sm_congr fun j _ => by
      show (if j = m then (1 : Int) else 0) * φ m j = _
      by_cases c : j = m
      · rw [if_pos c, if_pos c, Int.one_mul]
      · rw [if_neg c, if_neg c, Int.zero_mul]
    rw [e, sm_at ndp hm]; rfl
  | n + 1, φ => by
    have e0 : sm (rowsN ps p (n + 1)) (fun r => φ (hd0 r) (lst0 r)) = sm (rowsN ps p n) (fun r => (fun m a => sm p fun b => if [a, b] ∈ ps then φ m b else 0) (hd0 r) (lst0 r)) := by
      show sm (longer ps p (rowsN ps p n)) _ = _
      unfold longer
      rw [sm_flat, sm_map]
      refine sm_congr fun r hr => ?_
      rw [sm_map, sm_filter]
      refine sm_congr fun b _ => ?_
      rw [hd_app (rows_ne hr), lst_app]
      by_cases c : [lst0 r, b] ∈ ps
      · rw [if_pos (decide_eq_true c), if_pos c]
      · rw [if_neg (by rw [decide_eq_false c]; decide), if_neg c]
    rw [e0]
    refine (rows_sum hP nd hp n (fun m a => sm p fun b => if [a, b] ∈ ps then φ m b else 0)).trans ?_
    refine sm_congr fun m hm => ?_
    have hl := hp m hm
    have hmm : m ∈ lotOf ps N m := by rw [hl]; exact hm
    have ndp : p.Nodup := by rw [← hl]; exact (lot_rise ps N m).imp fun h => by omega
    have out := (lw_cw hP hmm n).2
    rw [hl] at out
    have e1 : sm p (fun j => lw ps p n m j * sm p fun b => if [j, b] ∈ ps then φ m b else 0) = sm p fun j => sm p fun b => lw ps p n m j * (if [j, b] ∈ ps then φ m b else 0) := sm_congr fun j _ => (sm_mul p _ _).symm
    rw [e1, sm_comm]
    refine sm_congr fun b hb => ?_
    show _ = (if b ∈ p then stp ps (lw ps p n m) b else 0) * φ m b
    rw [if_pos hb, stp_part hP nd ndp out b, Int.mul_comm, ← sm_mul]
    refine sm_congr fun a _ => ?_
    by_cases c : [a, b] ∈ ps
    · rw [if_pos c, if_pos c, Int.mul_comm]
    · rw [if_neg c, if_neg c, Int.mul_zero, Int.mul_zero]
/-- all rings of n + 1 places -/
theorem rings_count {ps : List (List Int)} {N : Nat} (hP : ∀ q ∈ ps, Pr (N : Int) q) (nd : ps.Nodup) {p : List Int} (hp : ∀ m ∈ p, lotOf ps N m = p) (n : Nat) :
    (((rowsN ps p n).filter fun r => decide ([lst0 r, hd0 r] ∈ ps)).length : Int) = sm p fun m => cw ps (n + 1) m m := by
  rw [← sm_len, sm_filter]
  have e := rows_sum hP nd hp n (fun m j => if [j, m] ∈ ps then 1 else 0)
  have e0 : sm (rowsN ps p n) (fun r => if (decide ([lst0 r, hd0 r] ∈ ps)) = true then (1 : Int) else 0) = sm (rowsN ps p n) (fun r => (fun m j => if [j, m] ∈ ps then (1 : Int) else 0) (hd0 r) (lst0 r)) := sm_congr fun r _ => by
    by_cases c : [lst0 r, hd0 r] ∈ ps
    · rw [if_pos (decide_eq_true c)]; exact (if_pos c).symm
    · rw [if_neg (by rw [decide_eq_false c]; decide)]; exact (if_neg c).symm
  rw [e0, e]
  refine sm_congr fun m hm => ?_
  have hl := hp m hm
  have hmm : m ∈ lotOf ps N m := by rw [hl]; exact hm
  have ndp : p.Nodup := by rw [← hl]; exact (lot_rise ps N m).imp fun h => by omega
  have out := (lw_cw hP hmm n).2
  have inn := (lw_cw hP hmm (n + 1)).1 m hmm
  rw [hl] at out inn
  rw [← inn]
  show _ = (if m ∈ p then stp ps (lw ps p n m) m else 0)
  rw [if_pos hm, stp_part hP nd ndp out m]
  refine sm_congr fun a _ => ?_
  by_cases c : [a, m] ∈ ps
  · rw [if_pos c, if_pos c, Int.mul_one]
  · rw [if_neg c, if_neg c, Int.mul_zero]
theorem longer_len {ps : List (List Int)} {p : List Int} (rows : List (List Int)) : (longer ps p rows).length ≤ rows.length * p.length := by
  unfold longer
  induction rows with
  | nil => simp
  | cons r rows ih =>
    rw [List.map_cons, List.flatten_cons, List.length_append, List.length_map, List.length_cons, Nat.add_mul, Nat.one_mul]
    have := List.length_filter_le (fun b => decide ([lst0 r, b] ∈ ps)) p
    omega
theorem rows_len {ps : List (List Int)} {p : List Int} : ∀ n : Nat, (rowsN ps p n).length ≤ p.length ^ (n + 1)
  | 0 => by
    show (p.map fun m => [m]).length ≤ _
    rw [List.length_map, Nat.pow_one]; exact Nat.le_refl _
  | n + 1 => by
    rw [Nat.pow_succ]
    exact Nat.le_trans (longer_len _) (Nat.mul_le_mul (rows_len n) (Nat.le_refl _))
end RV
set_option maxHeartbeats 4000000
namespace K20
open PySem PySem.Spec PyProof.Rows L2 RV
section
variable {P : Program} {w : World} {K : PySem.W.Frag} {mg : Str → Option Value} {base : Heap}
/-! ### _law_made -/
def spMade (K : PySem.W.Frag) (C : Addr) : Sp := fun vs H Q _ => ∃ (o : Addr) (ns : List Int) (ps : List (List Int)), vs = [.ref o] ∧ OwnH K H o ns ps ∧ ∀ (H' : Hp) (r : Addr), Same H H' → RuleAt K C H' r ns ps → Q (.ref r) H'
end
end K20
set_option maxHeartbeats 4000000
namespace K20
open PySem PySem.Spec PyProof.Rows L2 RV
section
variable {P : Program} {w : World} {K : PySem.W.Frag} {mg : Str → Option Value} {base : Heap}
/-! ### _law_mirrors -/
theorem scDMirrors : FnScope ["_law_box_here", "_law_many", "_law_found", "_law_left", "_law_one", "_law_other"] ["_law_box_here", "_law_many"] (defScope sDMirrors) := ⟨rfl, rfl, rfl, by decide +kernel, rfl, by decide +kernel, by decide +kernel⟩
def spDMirrors (K : PySem.W.Frag) : Sp := fun vs H Q _ => ∃ (p : Addr) (t m : Nat), vs = [.ref p, .int (m : Int)] ∧ PailAt H p t ∧ t ≤ 30000 ∧ 1 ≤ m ∧ m ≤ 8 ∧
  ∀ (H' : Hp) (u : Addr) (t' : Nat) (ns : List Int), PailAt H' p t' → t' ≤ t + 20 → But p H H' → SqT K H' u (ns.map V.int) → Mir ns → ns.length = m → Q (.ref u) H'
theorem ok_dmirrors {f fD : Addr} {fd fdD : FuncData} (F : Fun K "_law_mirrors" "_law_mirrors" sDMirrors f fd) (DD : DefAt K mg "_law_take" sDraw ["_law_box_here", "_law_many"] fD fdD) (B : Bare mg) : FnOk P w K mg base CX0 2 f fd ["_law_box_here", "_law_many"] (spDMirrors K) := by
  have GD : FnOk P w K mg base CX0 1 fD fdD ["_law_box_here", "_law_many"] spDraw := ok_draw DD.fn
  refine F.ok scDMirrors (fun vs H Q E h => ?_) (fun cdv A outer s H vs Q E hr h => ?_)
  · obtain ⟨p, t, m, rfl, _⟩ := h
    rfl
  · obtain ⟨p, t, m, rfl, hp, ht, m1, m8, q⟩ := h
    have two : (2 : Nat) ≤ sizeLine := by decide
    refine ⟨_, pss_cons (ps_par (i := 2) (j := 3) (by rfl) scDMirrors.nd rfl rfl (by decide) rfl rfl (pa_cons (pe_listRg rfl (by rfl) B.list (prg_1 (by rfl) B.range (pv 1))) (pa_cons (pe_listRg rfl (by rfl) B.list (prg_1 (by rfl) B.range (pv 1))) pa_nil)) (by rfl))
      (pss_cons (ps_while PassesOwn.never (pt_cmpR (op_neD hr.units) (pv 3) (pe_lst pa_nil) (nomark _))
        (pss_cons (ps_set (i := 4) scDMirrors.nd rfl (Or.inl rfl) (pe_bm PySem.F.plainAttrs_list PySem.F.slot_list_pop PySem.F.type_list_pop mt_popAt (pv 3) (pa_cons pe_int pa_nil)))
        (pss_one (ps_if (PW.pt (pw_and (pt_cmpR (op_neD hr.units) (pv 3) (pe_lst pa_nil) (nomark _)) (pw_and1 (pt_cmpR op_eq (pe_call GD hr (by rfl) DD.mg DD.fn.kp DD.bi .nil pass0 (pa_cons (pv 0) (pa_cons pe_int pa_nil))) pe_int (nomark _)))))
          (pss_cons (ps_set (i := 5) scDMirrors.nd rfl (Or.inl rfl) (pe_bm PySem.F.plainAttrs_list PySem.F.slot_list_pop PySem.F.type_list_pop mt_popAt (pv 3) (pa_cons (pe_call GD hr (by rfl) DD.mg DD.fn.kp DD.bi .nil pass0 (pa_cons (pv 0) (pa_cons (pe_callB call_len_seq (by rfl) B.len PySem.boot_len (pa_cons (pv 3) pa_nil)) pa_nil))) pa_nil)))
          (pss_one (ps_asg (pe_tup (pa_cons (pv 5) (pa_cons (pv 4) pa_nil))) (pg_tup rfl (pgs_cons (pg_sub (pv 2) (pv 4) set_list) (pgs_cons (pg_sub (pv 2) (pv 5) set_list) pgs_nil)))))) pss_nil))))
      (pss_one (ps_ret (pe_tupleOf (by rfl) B.tuple (pv 2))))), ?_⟩
    refine ⟨.int (m : Int), rfl, (m : Int), rfl, RgOk.of_le (by omega) (by omega) (by omega) (by omega), fun b nb => ?_⟩
    refine ⟨.int (m : Int), rfl, (m : Int), rfl, RgOk.of_le (by omega) (by omega) (by omega) (by omega), fun a na' => ⟨.ref b, .ref a, rfl, ?_⟩⟩
    have hba : b ≠ a := ne_of_none upd_same na'
    have hab : a ≠ b := hba.symm
    have hbp : b ≠ p := pail_ne hp nb
    have hap : a ≠ p := pail_ne (pail_new hp nb) na'
    have na : H a = none := (same_upd nb).free na'
    have nbH : H b = none := nb
    have s0 := (same_upd (o := .lst (rgV 0 (m : Int))) nb).trans (same_upd (o := .lst (rgV 0 (m : Int))) na')
    refine while_by (fun σ H' => ∃ (y4 y5 : Option V) (t' : Nat) (fs ls : List Int), σ = [some (.ref p), some (.int (m : Int)), some (.ref b), some (.ref a), y4, y5] ∧ But p H H' ∧ PailAt H' p t' ∧ t' + 2 * ls.length ≤ t + 16 ∧ H' a = some (.lst (ls.map V.int)) ∧ H' b = some (.lst (fs.map V.int)) ∧ Half m fs ls)
      (fun σ H' => lenAt H' a) ?_ ?_ ?_
    · refine ⟨none, none, t, rgI 0 (m : Int), rgI 0 (m : Int), rfl, But.of s0, pail_same hp s0, by rw [rgI_len]; omega, ?_, ?_, half_start m⟩
      · rw [upd_same, rgV_rgI]
      · rw [upd_ne hba, upd_same, rgV_rgI]
    · rintro σ H1 ⟨y4, y5, t1, fs, ls, rfl, b1, hp1, ht1, ea, eb, hh⟩
      refine ⟨.ref a, rfl, Nat.zero_le _, fun c nc => ?_⟩
      have sc := same_upd (o := .lst []) nc
      have ea2 := sc _ _ ea
      have eb2 := sc _ _ eb
      have hp2 := pail_same hp1 sc
      have b2 := b1.trans (But.of (p := p) sc)
      have ec : (upd H1 c (.lst [])) c = some (.lst []) := upd_same
      refine ⟨.list (ls.map PyData.int), .list (([] : List Int).map PyData.int), .lst (lstNew ea2) (dpInts ls), .lst (lstNew ec) .nil, shapedL ls, shapedL [], _, rfl, ?_⟩
      rw [eqvL]
      have lt1 : lenAt H1 a = ls.length := by rw [lenAt_eq ea, List.length_map]
      generalize upd H1 c (.lst []) = H2 at ea2 eb2 hp2 b2 ⊢
      clear ea eb sc nc ec
      cases ls with
      | nil =>
        rw [decide_eq_true rfl]
        refine iteF ?_
        refine ⟨.ref b, rfl, .inl ⟨b, _, rfl, lstNew eb2, fun u nu => ?_⟩⟩
        exact q _ u t1 fs (pail_new hp2 nu) (by omega) (b2.trans (But.of (same_upd nu))) (tupNew upd_same) (half_mir hh m1 m8) hh.len
      | cons x l =>
        rw [decide_eq_false (by simp)]
        refine iteT ?_
        -- mark = left.pop(0)
        refine ⟨.ref a, rfl, .inl ⟨rfl, _, lstNew ea2⟩, a, _, 0, 0, .int x, rfl, rfl, ea2, by decide, by decide, by simp [seqIndex?], rfl, ?_⟩
        have ea3 : (upd H2 a (.lst (((x :: l).map V.int).eraseIdx 0))) a = some (.lst (l.map V.int)) := upd_same
        have eb3 : (upd H2 a (.lst (((x :: l).map V.int).eraseIdx 0))) b = some (.lst (fs.map V.int)) := by rw [upd_ne hab.symm]; exact eb2
        have hp3 := pail_set (o := .lst (((x :: l).map V.int).eraseIdx 0)) hp2 hap
        have b3 : But p H (upd H2 a (.lst (((x :: l).map V.int).eraseIdx 0))) := fun k o e z => by rw [upd_ne (ne_of_none e na)]; exact b2 k o e z
        generalize upd H2 a (.lst (((x :: l).map V.int).eraseIdx 0)) = H3 at ea3 eb3 hp3 b3 ⊢
        -- left != []
        refine ⟨.ref a, rfl, Nat.zero_le _, fun c2 nc2 => ?_⟩
        have sc2 := same_upd (o := .lst []) nc2
        have ea4 := sc2 _ _ ea3
        have eb4 := sc2 _ _ eb3
        have hp4 := pail_same hp3 sc2
        have b4 := b3.trans (But.of (p := p) sc2)
        have ec2 : (upd H3 c2 (.lst [])) c2 = some (.lst []) := upd_same
        refine ⟨.list (l.map PyData.int), .list (([] : List Int).map PyData.int), .lst (lstNew ea4) (dpInts l), .lst (lstNew ec2) .nil, shapedL l, shapedL [], _, rfl, ?_⟩
        rw [eqvL]
        generalize upd H3 c2 (.lst []) = H4 at ea4 eb4 hp4 b4 ⊢
        clear ea3 eb3 hp3 b3 sc2 nc2 ec2 ea2 eb2 hp2 b2 b1 hp1
        rw [List.length_cons] at lt1 ht1
        have hxl := hh.lin x (List.mem_cons_self ..)
        cases l with
        | nil =>
          rw [decide_eq_true rfl]
          refine iteF (iteF ?_)
          refine ⟨⟨_, _, t1, fs, [], rfl, b4, hp4, by simp only [List.length_nil]; omega, ea4, eb4, half_drop hh⟩, ?_⟩
          rw [lenAt_eq ea4, lt1]; simp
        | cons y0 l =>
          rw [decide_eq_false (by simp)]
          refine iteT ?_
          rw [List.length_cons] at lt1 ht1
          have hl8 : (y0 :: l).length ≤ 8 := by
            have := nodup_le (us := rgI 0 (m : Int)) (half_drop hh).nd fun z hz => by
              have h1 := (half_drop hh).lin z hz
              exact List.mem_of_getElem? (i := z.toNat) (rgI_get.mpr ⟨by omega, by omega⟩)
            rw [rgI_len] at this; omega
          rw [List.length_cons] at hl8
          refine ⟨.ref p, rfl, p, t1, 2, rfl, hp4, by omega, by decide, by decide, fun r t5 H5 r0 r1 ht5 hp5 b5 => ⟨rfl, _, rfl, ite2 (fun _ => ?_) (fun _ => ?_)⟩⟩
          · have ea5 := b5 _ _ ea4 hap
            have eb5 := b5 _ _ eb4 hbp
            refine ⟨.ref a, rfl, .inl ⟨rfl, _, lstNew ea5⟩, .ref p, rfl, .ref a, rfl, a, _, rfl, .inl (lstNew ea5), p, t5, _, rfl, hp5, by omega, by simp; omega, by simp; omega, fun r2 t6 H6 r20 r21 ht6 hp6 b6 => ?_⟩
            have ea6 := b6 _ _ ea5 hap
            have eb6 := b6 _ _ eb5 hbp
            rw [List.length_map, List.length_cons] at r21
            obtain ⟨y, hy⟩ : ∃ y, (y0 :: l)[r2.toNat]? = some y := ⟨_, List.getElem?_eq_getElem (by rw [List.length_cons]; omega)⟩
            refine ⟨a, _, r2, r2.toNat, .int y, rfl, rfl, ea6, by omega, by omega, ?_, by rw [List.getElem?_map, hy]; rfl, ?_⟩
            · rw [List.length_map]
              unfold seqIndex?
              simp only [if_neg (show ¬ r2 < 0 by omega)]
              rw [if_pos]
              simp only [Bool.and_eq_true, decide_eq_true_eq]
              exact ⟨r20, by rw [List.length_cons]; omega⟩
            have hyl := (half_drop hh).lin y (List.mem_of_getElem? hy)
            have hfl := hh.len
            have b06 : But p H H6 := (b4.trans b5).trans b6
            have ea7 : (upd H6 a (.lst (((y0 :: l).map V.int).eraseIdx r2.toNat))) a = some (.lst (((y0 :: l).eraseIdx r2.toNat).map V.int)) := by rw [upd_same, erase_map]
            have eb7 : (upd H6 a (.lst (((y0 :: l).map V.int).eraseIdx r2.toNat))) b = some (.lst (fs.map V.int)) := by rw [upd_ne hab.symm]; exact eb6
            have hp7 := pail_set (o := .lst (((y0 :: l).map V.int).eraseIdx r2.toNat)) hp6 hap
            have b7 : But p H (upd H6 a (.lst (((y0 :: l).map V.int).eraseIdx r2.toNat))) := fun k o e z => by rw [upd_ne (ne_of_none e na)]; exact b06 k o e z
            generalize upd H6 a (.lst (((y0 :: l).map V.int).eraseIdx r2.toNat)) = H7 at ea7 eb7 hp7 b7 ⊢
            refine ⟨.int y, rfl, .int x, rfl, two, fun T nT => ?_⟩
            have sT := same_upd (o := .tup [.int y, .int x]) nT
            have eT : (upd H7 T (.tup [.int y, .int x])) T = some (.tup [.int y, .int x]) := upd_same
            refine ⟨T, _, rfl, tupNew eT, rfl, ?_⟩
            have ea8 := sT _ _ ea7
            have eb8 := sT _ _ eb7
            have hp8 := pail_same hp7 sT
            have b8 := b7.trans (But.of (p := p) sT)
            generalize upd H7 T (.tup [.int y, .int x]) = H8 at ea8 eb8 hp8 b8 ⊢
            refine ⟨_, _, rfl, .ref b, rfl, .int x, rfl, b, _, x, x.toNat, rfl, rfl, eb8, ix_at (by rw [List.length_map]; omega) hxl.1, ?_⟩
            refine ⟨_, _, rfl, .ref b, rfl, .int y, rfl, b, _, y, y.toNat, rfl, rfl, upd_same, ix_at (by rw [List.length_set, List.length_map]; omega) hyl.1, rfl, ?_⟩
            have hlen : ((y0 :: l).eraseIdx r2.toNat).length = l.length := by rw [List.length_eraseIdx_of_lt (by rw [List.length_cons]; omega)]; rfl
            refine ⟨⟨_, _, t6, (fs.set x.toNat y).set y.toNat x, (y0 :: l).eraseIdx r2.toNat, rfl, fun k o e z => ?_, pail_set (pail_set hp8 hbp) hbp, by rw [hlen]; omega, ?_, ?_, half_pair hh hy⟩, ?_⟩
            · rw [upd_ne (ne_of_none e nbH), upd_ne (ne_of_none e nbH)]; exact b8 k o e z
            · rw [upd_ne hab, upd_ne hab]; exact ea8
            · rw [upd_same, List.map_set, List.map_set]
            · rw [lenAt_eq (xs := ((y0 :: l).eraseIdx r2.toNat).map V.int) (by rw [upd_ne hab, upd_ne hab]; exact ea8), lt1, List.length_map, hlen]; omega
          · refine ⟨⟨_, _, t5, fs, y0 :: l, rfl, b4.trans b5, hp5, by rw [List.length_cons]; omega, b5 _ _ ea4 hap, b5 _ _ eb4 hbp, half_drop hh⟩, ?_⟩
            rw [lenAt_eq (b5 _ _ ea4 hap), lt1, List.length_map, List.length_cons]; omega
    · intro σ H1 Q1 Q2 hq h
      obtain ⟨v, e, z, h⟩ := h
      refine ⟨v, e, z, fun c nc => ?_⟩
      obtain ⟨d, e', h1, h2, h3, h4, k, h5, h6⟩ := h c nc
      exact ⟨d, e', h1, h2, h3, h4, k, h5, hq _ _ h6⟩
end
end K20
set_option maxHeartbeats 4000000
namespace K20
open PySem PySem.Spec PyProof.Rows L2 RV
theorem sqT_dT {K : PySem.W.Frag} {H : Hp} {D : Addr} {vs : List (List L2.Key × V)} {o' : HO} (e : H D = some (.dT vs)) {a : Addr} {xs : List V} (h : SqT K H a xs) : SqT K (upd H D o') a xs := by
  rcases h with (h | ⟨o, h⟩) | h
  · exact .inl (.inl (by rw [upd_ne (fun z => by rw [z, e] at h; cases h)]; exact h))
  · exact .inl (.inr ⟨o, by rw [upd_ne (fun z => by rw [z, e] at h; cases h)]; exact h⟩)
  · exact .inr h
section
variable {P : Program} {w : World} {K : PySem.W.Frag} {mg : Str → Option Value} {base : Heap}
/-! ### _law_form -/
theorem scForm : FnScope ["_law_box_here", "_law_least", "_law_greatest", "_law_sort", "_law_many", "_law_mirrors_here", "_law_chance", "_law_some", "_law_one", "_law_other"] ["_law_box_here", "_law_least", "_law_greatest"] (defScope sForm) := ⟨rfl, rfl, rfl, by decide +kernel, rfl, by decide +kernel, by decide +kernel⟩
def spForm (K : PySem.W.Frag) : Sp := fun vs H Q _ => ∃ (p : Addr) (t : Nat) (lo hi : Int), vs = [.ref p, .int lo, .int hi] ∧ 1 ≤ lo ∧ lo ≤ hi ∧ hi ≤ 6 ∧ PailAt H p t ∧ t ≤ 20000 ∧
  ∀ (H' : Hp) (R : Addr) (t' : Nat) (ns : List Int) (ps : List (List Int)), PailAt H' p t' → t' ≤ t + 70 → But p H H' → OwnH K H' R ns ps → lo ≤ (ns.length : Int) → (ns.length : Int) ≤ hi → Q (.ref R) H'
theorem ok_form {f fM fD : Addr} {fd fdM fdD : FuncData} (F : Fun K "_law_form" "_law_form" sForm f fd) (DM : DefAt K mg "_law_mirrors" sDMirrors ["_law_box_here", "_law_many"] fM fdM) (DD : DefAt K mg "_law_take" sDraw ["_law_box_here", "_law_many"] fD fdD) (B : Bare mg) : FnOk P w K mg base CX0 3 f fd ["_law_box_here", "_law_least", "_law_greatest"] (spForm K) := by
  have GD : FnOk P w K mg base CX0 1 fD fdD ["_law_box_here", "_law_many"] spDraw := ok_draw DD.fn
  have GM : FnOk P w K mg base CX0 2 fM fdM ["_law_box_here", "_law_many"] (spDMirrors K) := ok_dmirrors DM.fn DD B
  refine F.ok scForm (fun vs H Q E h => ?_) (fun cdv A outer s H vs Q E hr h => ?_)
  · obtain ⟨p, t, lo, hi, rfl, _⟩ := h
    rfl
  · obtain ⟨p, t, lo, hi, rfl, lo1, lohi, hi6, hp, ht, q⟩ := h
    have hu := hu_of hr
    have two : (2 : Nat) ≤ sizeLine := by decide
    have r1 := hr.mono (show 1 ≤ 2 by decide)
    refine ⟨_, pss_cons (ps_par (i := 3) (j := 4) (by rfl) scForm.nd rfl rfl (by decide) rfl rfl (pa_cons (pe_call GD r1 (by rfl) DD.mg DD.fn.kp DD.bi .nil pass0 (pa_cons (pv 0) (pa_cons pe_int pa_nil))) (pa_cons (pe_op op_add (pv 1) (pe_call GD r1 (by rfl) DD.mg DD.fn.kp DD.bi .nil pass0 (pa_cons (pv 0) (pa_cons (pe_op op_add (pe_op op_sub (pv 2) (pv 1)) pe_int) pa_nil)))) pa_nil)) (by rfl))
      (pss_cons (ps_set (i := 5) scForm.nd rfl (Or.inl rfl) (pe_ifExp (pt_cmpR op_eq (pv 3) pe_int (nomark _)) (pe_tupRg rfl (by rfl) B.tuple (prg_1 (by rfl) B.range (pv 4))) (pe_call GM hr (by rfl) DM.mg DM.fn.kp DM.bi .nil pass0 (pa_cons (pv 0) (pa_cons (pv 4) pa_nil)))))
      (pss_cons (ps_par (i := 6) (j := 7) (by rfl) scForm.nd rfl rfl (by decide) rfl rfl (pa_cons (pe_op op_add pe_int (pe_call GD r1 (by rfl) DD.mg DD.fn.kp DD.bi .nil pass0 (pa_cons (pv 0) (pa_cons pe_int pa_nil)))) (pa_cons pe_dnewT pa_nil)) (by rfl))
      (pss_cons (ps_for PassesOwn.never rfl (pi_range1 (by rfl) B.range (pa_cons (pv 4) pa_nil)) (pg_name (i := 8) scForm.nd rfl (Or.inl rfl))
        (pss_one (ps_for PassesOwn.never rfl (pi_range1 (by rfl) B.range (pa_cons (pv 4) pa_nil)) (pg_name (i := 9) scForm.nd rfl (Or.inl rfl))
          (pss_one (ps_if (PW.pt (pw_or (PW.pt (pw_and (pt_cmpR op_eq (pv 3) pe_int (nomark _)) (pw_and1 (pt_cmpR op_eq (pv 9) (pe_op op_mod (pe_op op_add (pv 8) pe_int) (pv 4)) (nomark _))))) (pw_or1 (pt_cmpR op_eq (pe_call GD r1 (by rfl) DD.mg DD.fn.kp DD.bi .nil pass0 (pa_cons (pv 0) (pa_cons (pv 6) pa_nil))) pe_int (nomark _)))))
            (pss_cons (ps_dput hu (pv 7) (pe_tup (pa_cons (pv 8) (pa_cons (pv 9) pa_nil))) pe_bl rfl)
            (pss_one (ps_dput hu (pv 7) (pe_tup (pa_cons (pe_ix ix_tup (pv 5) (pv 9) (fun _ _ => rfl)) (pa_cons (pe_ix ix_tup (pv 5) (pv 8) (fun _ _ => rfl)) pa_nil))) pe_bl rfl))) pss_nil)))))
      (pss_one (ps_ret (pe_tup (pa_cons (pv 5) (pa_cons (pe_tupleOf (by rfl) B.tuple (pe_callB (cr_sortedDT rfl) (by rfl) B.sorted (by decide +kernel) (pa_cons (pv 7) pa_nil))) pa_nil)))))))), ?_⟩
    refine ⟨.ref p, rfl, p, t, 5, rfl, hp, by omega, by decide, by decide, fun st t1 H1 st0 st1 ht1 hp1 b1 => ?_⟩
    refine ⟨.int lo, rfl, .ref p, rfl, .int hi, rfl, .int lo, rfl, hi, lo, rfl, rfl, _, 1, rfl, rfl, p, t1, _, rfl, hp1, by omega, (show 1 ≤ hi - lo + 1 by omega), (show hi - lo + 1 ≤ 1000 by omega), fun c t2 H2 c0 c1 ht2 hp2 b2 => ⟨lo, c, rfl, rfl, _, _, rfl, ?_⟩⟩
    have c1 : c < hi - lo + 1 := c1
    obtain ⟨m, em⟩ : ∃ m : Nat, lo + c = (m : Int) := ⟨(lo + c).toNat, by omega⟩
    dsimp only
    rw [em]
    have m1 : 1 ≤ m := by omega
    have m8 : m ≤ 6 := by omega
    have b02 := b1.trans b2
    refine seq_mid (fun σ H' => ∃ (u : Addr) (t' : Nat) (ns : List Int) (y6 y7 y8 y9 : Option V), σ = [some (.ref p), some (.int lo), some (.int hi), some (.int st), some (.int (m : Int)), some (.ref u), y6, y7, y8, y9] ∧ But p H H' ∧ PailAt H' p t' ∧ t' ≤ t + 25 ∧ SqT K H' u (ns.map V.int) ∧ Mir ns ∧ ns.length = m) (fun σ H3 h => ?_) (fun tail => ?_)
    rotate_left
    · refine ⟨.int st, rfl, rfl, _, rfl, ite2 (fun _ => ?_) (fun _ => ?_)⟩
      · refine ⟨.int (m : Int), rfl, (m : Int), rfl, RgOk.of_le (by omega) (by omega) (by omega) (by omega), fun u nu => ?_⟩
        have su := same_upd (o := .tup (rgV 0 (m : Int))) nu
        exact tail _ _ ⟨u, t2, rgI 0 (m : Int), _, _, _, _, rfl, b02.trans (But.of su), pail_same hp2 su, by omega, by rw [← rgV_rgI]; exact tupNew upd_same, mir_range (by omega) (by omega), by rw [rgI_len]; omega⟩
      · refine ⟨.ref p, rfl, .int (m : Int), rfl, p, t2, m, rfl, hp2, by omega, m1, by omega, fun H3 u t3 ns hp3 ht3 b3 hU M hn => ?_⟩
        exact tail _ _ ⟨u, t3, ns, _, _, _, _, rfl, b02.trans b3, hp3, by omega, hU, M, hn⟩
    obtain ⟨u, t3, ns, y6, y7, y8, y9, rfl, b3, hp3, ht3, hU3, M, hn⟩ := h
    clear hp1 hp2 b1 b2 b02
    -- chance, some
    refine ⟨.ref p, rfl, p, t3, 3, rfl, hp3, by omega, by decide, by decide, fun ch t4 H4 ch0 ch1 ht4 hp4 b4 => ⟨2, ch, rfl, rfl, fun d nd => ⟨_, _, rfl, ?_⟩⟩⟩
    have sd := same_upd (o := .dT []) nd
    have b04 := b3.trans b4
    have ndH := but_free b04 hp4 nd
    have hdp : d ≠ p := pail_ne hp4 nd
    refine ⟨.int (m : Int), rfl, (m : Int), rfl, by omega, by omega, ?_⟩
    refine for_range (lo := 0) (n := (m : Int).toNat) (fun i σ H' => ∃ (y8 y9 : Option V) (t' : Nat) (kvs : List (List L2.Key × V)) (ps : List (List Int)), σ = [some (.ref p), some (.int lo), some (.int hi), some (.int st), some (.int (m : Int)), some (.ref u), some (.int (2 + ch)), some (.ref d), y8, y9] ∧ But p H H' ∧ PailAt H' p t' ∧ t' ≤ t4 + 6 * i ∧ SqT K H' u (ns.map V.int) ∧ H' d = some (.dT kvs) ∧ kvs.map (·.1) = ps.map keyP ∧ Part ns ps)
      ⟨_, _, t4, [], [], rfl, b04.trans (But.of sd), pail_same hp4 sd, by omega, sqT_same sd (sqT_pail hp3 b4 hU3), upd_same, rfl, Part.nil ns⟩ (fun x σ H5 hx h => ?_) (fun σ H5 h => ?_)
    · obtain ⟨y8, y9, t5, kvs0, ps0, rfl, b5, hp5, ht5, hU5, ed5, ek5, P5⟩ := h
      have hx : x < m := by omega
      have ex : (0 + ((x : Nat) : Int)) = (x : Int) := by omega
      rw [ex]
      refine ⟨.int (m : Int), rfl, (m : Int), rfl, by omega, by omega, ?_⟩
      refine for_range (lo := 0) (n := (m : Int).toNat) (fun j σ H' => ∃ (y9 : Option V) (t' : Nat) (kvs : List (List L2.Key × V)) (ps : List (List Int)), σ = [some (.ref p), some (.int lo), some (.int hi), some (.int st), some (.int (m : Int)), some (.ref u), some (.int (2 + ch)), some (.ref d), some (.int (x : Int)), y9] ∧ But p H H' ∧ PailAt H' p t' ∧ t' ≤ t5 + j ∧ SqT K H' u (ns.map V.int) ∧ H' d = some (.dT kvs) ∧ kvs.map (·.1) = ps.map keyP ∧ Part ns ps)
        ⟨_, t5, kvs0, ps0, rfl, b5, hp5, by omega, hU5, ed5, ek5, P5⟩ (fun y σ H6 hy h => ?_) (fun σ H6 h => ?_)
      · obtain ⟨y9, t6, kvs, ps, rfl, b6, hp6, ht6, hU6, ed6, ek, P'⟩ := h
        have hy : y < m := by omega
        have ey : (0 + ((y : Nat) : Int)) = (y : Int) := by omega
        rw [ey]
        have bx : 0 ≤ (x : Int) ∧ (x : Int) < (ns.length : Int) := by omega
        have by_ : 0 ≤ (y : Int) ∧ (y : Int) < (ns.length : Int) := by omega
        have hl64 := P'.len M
        have hkl : kvs.length ≤ 64 := by
          have z := congrArg List.length ek
          rw [List.length_map, List.length_map] at z; omega
        obtain ⟨mx, gx⟩ : ∃ m, ns[(x : Int).toNat]? = some m := ⟨_, List.getElem?_eq_getElem (by omega)⟩
        obtain ⟨my, gy⟩ : ∃ m, ns[(y : Int).toNat]? = some m := ⟨_, List.getElem?_eq_getElem (by omega)⟩
        have ax : atI (ns.map V.int) (x : Int) = some (.int mx) := by
          rw [Int.toNat_natCast] at gx
          exact atI_nat (by rw [List.getElem?_map, gx]; rfl)
        have ay : atI (ns.map V.int) (y : Int) = some (.int my) := by
          rw [Int.toNat_natCast] at gy
          exact atI_nat (by rw [List.getElem?_map, gy]; rfl)
        have draw : ∀ (Q' : VK), (∀ (r : Int) (t7 : Nat) (H7 : Hp), t7 ≤ t6 + 1 → PailAt H7 p t7 → But p H6 H7 → Q' (.int r) H7) → spDraw [.ref p, .int (2 + ch)] H6 Q' (fun _ _ _ => False) := fun Q' k => ⟨p, t6, _, rfl, hp6, by omega, by omega, by omega, fun r t7 H7 _ _ h1 h2 h3 => k r t7 H7 h1 h2 h3⟩
        refine ⟨.int st, rfl, rfl, _, rfl, ite2 (fun _ => ?_) (fun _ => ?_)⟩
        · refine ⟨.int (y : Int), rfl, .int (x : Int), rfl, _, 1, rfl, rfl, .int (m : Int), rfl, _, (m : Int), rfl, rfl, (show (0 : Int) < (m : Int) by omega), rfl, _, rfl, ite2 (fun _ => ?_) (fun _ => ?_)⟩
          · refine iteT ?_
            refine ⟨.ref d, rfl, .int (x : Int), rfl, .int (y : Int), rfl, two, fun T2 nT2 => ?_⟩
            have sT2 := same_upd (o := .tup [.int (x : Int), .int (y : Int)]) nT2
            have eT2 : (upd H6 T2 (.tup [.int (x : Int), .int (y : Int)])) T2 = some (.tup ((keyP [(x : Int), (y : Int)]).map kV)) := upd_same
            refine ⟨d, _, rfl, DPut.t (sT2 _ _ ed6) eT2 (few1 (by omega)), ?_⟩
            have ed2 : (upd (upd H6 T2 (.tup [.int (x : Int), .int (y : Int)])) d (.dT (putK kvs (keyP [(x : Int), (y : Int)]) (.bl true)))) d = some (.dT (putK kvs (keyP [(x : Int), (y : Int)]) (.bl true))) := upd_same
            have b2 : But p H (upd (upd H6 T2 (.tup [.int (x : Int), .int (y : Int)])) d (.dT (putK kvs (keyP [(x : Int), (y : Int)]) (.bl true)))) := fun c o e z => by rw [upd_ne (ne_of_none e ndH)]; exact sT2 _ _ (b6 c o e z)
            have hp2 := pail_set (o := .dT (putK kvs (keyP [(x : Int), (y : Int)]) (.bl true))) (pail_same hp6 sT2) hdp
            have hU2 := sqT_dT (o' := .dT (putK kvs (keyP [(x : Int), (y : Int)]) (.bl true))) (sT2 _ _ ed6) (sqT_same sT2 hU6)
            have ek2 := put_keys (p := [(x : Int), (y : Int)]) (v := .bl true) ek
            have l2 : (putK kvs (keyP [(x : Int), (y : Int)]) (.bl true)).length ≤ 65 := by
              have z := congrArg List.length ek2
              rw [List.length_map, List.length_map] at z
              have z2 : (addP ps [(x : Int), (y : Int)]).length ≤ ps.length + 1 := by unfold addP; split <;> simp
              omega
            generalize upd (upd H6 T2 (.tup [.int (x : Int), .int (y : Int)])) d (.dT (putK kvs (keyP [(x : Int), (y : Int)]) (.bl true))) = G2 at ed2 b2 hp2 hU2 ⊢
            generalize putK kvs (keyP [(x : Int), (y : Int)]) (.bl true) = kvs2 at ed2 ek2 l2
            refine ⟨.ref d, rfl, .ref u, rfl, .int (y : Int), rfl, u, _, _, _, rfl, rfl, hU2, ay, .ref u, rfl, .int (x : Int), rfl, u, _, _, _, rfl, rfl, hU2, ax, two, fun T3 nT3 => ?_⟩
            have sT3 := same_upd (o := .tup [.int my, .int mx]) nT3
            have eT3 : (upd G2 T3 (.tup [.int my, .int mx])) T3 = some (.tup ((keyP [my, mx]).map kV)) := upd_same
            refine ⟨d, _, rfl, DPut.t (sT3 _ _ ed2) eT3 (few1 (by omega)), ?_⟩
            refine ⟨_, t6, _, addP (addP ps [(x : Int), (y : Int)]) [my, mx], rfl, fun c o e z => ?_, pail_set (pail_same hp2 sT3) hdp, by omega, sqT_dT (sT3 _ _ ed2) (sqT_same sT3 hU2), upd_same, put_keys ek2, Part.add M P' bx by_ gx gy⟩
            rw [upd_ne (ne_of_none e ndH)]; exact sT3 _ _ (b2 c o e z)
          · refine iteF (A := True) ⟨.ref p, rfl, .int (2 + ch), rfl, p, t6, _, rfl, hp6, by omega, by omega, by omega, fun r t7 H7 _ _ ht7 hp7 b7 => ⟨rfl, _, rfl, ite2 (fun _ => ?_) (fun _ => ?_)⟩⟩
            · have b07 := b6.trans b7
              have hU7 := sqT_pail hp6 b7 hU6
              have ed7 := b7 _ _ ed6 hdp
              refine ⟨.ref d, rfl, .int (x : Int), rfl, .int (y : Int), rfl, two, fun T2 nT2 => ?_⟩
              have sT2 := same_upd (o := .tup [.int (x : Int), .int (y : Int)]) nT2
              have eT2 : (upd H7 T2 (.tup [.int (x : Int), .int (y : Int)])) T2 = some (.tup ((keyP [(x : Int), (y : Int)]).map kV)) := upd_same
              refine ⟨d, _, rfl, DPut.t (sT2 _ _ ed7) eT2 (few1 (by omega)), ?_⟩
              have ed2 : (upd (upd H7 T2 (.tup [.int (x : Int), .int (y : Int)])) d (.dT (putK kvs (keyP [(x : Int), (y : Int)]) (.bl true)))) d = some (.dT (putK kvs (keyP [(x : Int), (y : Int)]) (.bl true))) := upd_same
              have b2 : But p H (upd (upd H7 T2 (.tup [.int (x : Int), .int (y : Int)])) d (.dT (putK kvs (keyP [(x : Int), (y : Int)]) (.bl true)))) := fun c o e z => by rw [upd_ne (ne_of_none e ndH)]; exact sT2 _ _ (b07 c o e z)
              have hp2 := pail_set (o := .dT (putK kvs (keyP [(x : Int), (y : Int)]) (.bl true))) (pail_same hp7 sT2) hdp
              have hU2 := sqT_dT (o' := .dT (putK kvs (keyP [(x : Int), (y : Int)]) (.bl true))) (sT2 _ _ ed7) (sqT_same sT2 hU7)
              have ek2 := put_keys (p := [(x : Int), (y : Int)]) (v := .bl true) ek
              have l2 : (putK kvs (keyP [(x : Int), (y : Int)]) (.bl true)).length ≤ 65 := by
                have z := congrArg List.length ek2
                rw [List.length_map, List.length_map] at z
                have z2 : (addP ps [(x : Int), (y : Int)]).length ≤ ps.length + 1 := by unfold addP; split <;> simp
                omega
              generalize upd (upd H7 T2 (.tup [.int (x : Int), .int (y : Int)])) d (.dT (putK kvs (keyP [(x : Int), (y : Int)]) (.bl true))) = G2 at ed2 b2 hp2 hU2 ⊢
              generalize putK kvs (keyP [(x : Int), (y : Int)]) (.bl true) = kvs2 at ed2 ek2 l2
              refine ⟨.ref d, rfl, .ref u, rfl, .int (y : Int), rfl, u, _, _, _, rfl, rfl, hU2, ay, .ref u, rfl, .int (x : Int), rfl, u, _, _, _, rfl, rfl, hU2, ax, two, fun T3 nT3 => ?_⟩
              have sT3 := same_upd (o := .tup [.int my, .int mx]) nT3
              have eT3 : (upd G2 T3 (.tup [.int my, .int mx])) T3 = some (.tup ((keyP [my, mx]).map kV)) := upd_same
              refine ⟨d, _, rfl, DPut.t (sT3 _ _ ed2) eT3 (few1 (by omega)), ?_⟩
              refine ⟨_, t7, _, addP (addP ps [(x : Int), (y : Int)]) [my, mx], rfl, fun c o e z => ?_, pail_set (pail_same hp2 sT3) hdp, by omega, sqT_dT (sT3 _ _ ed2) (sqT_same sT3 hU2), upd_same, put_keys ek2, Part.add M P' bx by_ gx gy⟩
              rw [upd_ne (ne_of_none e ndH)]; exact sT3 _ _ (b2 c o e z)
            · exact ⟨_, t7, kvs, ps, rfl, b6.trans b7, hp7, by omega, sqT_pail hp6 b7 hU6, b7 _ _ ed6 hdp, ek, P'⟩
        · refine iteF (A := True) ?_
          refine ⟨.ref p, rfl, .int (2 + ch), rfl, p, t6, _, rfl, hp6, by omega, by omega, by omega, fun r t7 H7 _ _ ht7 hp7 b7 => ⟨rfl, _, rfl, ite2 (fun _ => ?_) (fun _ => ?_)⟩⟩
          · have b07 := b6.trans b7
            have hU7 := sqT_pail hp6 b7 hU6
            have ed7 := b7 _ _ ed6 hdp
            refine ⟨.ref d, rfl, .int (x : Int), rfl, .int (y : Int), rfl, two, fun T2 nT2 => ?_⟩
            have sT2 := same_upd (o := .tup [.int (x : Int), .int (y : Int)]) nT2
            have eT2 : (upd H7 T2 (.tup [.int (x : Int), .int (y : Int)])) T2 = some (.tup ((keyP [(x : Int), (y : Int)]).map kV)) := upd_same
            refine ⟨d, _, rfl, DPut.t (sT2 _ _ ed7) eT2 (few1 (by omega)), ?_⟩
            have ed2 : (upd (upd H7 T2 (.tup [.int (x : Int), .int (y : Int)])) d (.dT (putK kvs (keyP [(x : Int), (y : Int)]) (.bl true)))) d = some (.dT (putK kvs (keyP [(x : Int), (y : Int)]) (.bl true))) := upd_same
            have b2 : But p H (upd (upd H7 T2 (.tup [.int (x : Int), .int (y : Int)])) d (.dT (putK kvs (keyP [(x : Int), (y : Int)]) (.bl true)))) := fun c o e z => by rw [upd_ne (ne_of_none e ndH)]; exact sT2 _ _ (b07 c o e z)
            have hp2 := pail_set (o := .dT (putK kvs (keyP [(x : Int), (y : Int)]) (.bl true))) (pail_same hp7 sT2) hdp
            have hU2 := sqT_dT (o' := .dT (putK kvs (keyP [(x : Int), (y : Int)]) (.bl true))) (sT2 _ _ ed7) (sqT_same sT2 hU7)
            have ek2 := put_keys (p := [(x : Int), (y : Int)]) (v := .bl true) ek
            have l2 : (putK kvs (keyP [(x : Int), (y : Int)]) (.bl true)).length ≤ 65 := by
              have z := congrArg List.length ek2
              rw [List.length_map, List.length_map] at z
              have z2 : (addP ps [(x : Int), (y : Int)]).length ≤ ps.length + 1 := by unfold addP; split <;> simp
              omega
            generalize upd (upd H7 T2 (.tup [.int (x : Int), .int (y : Int)])) d (.dT (putK kvs (keyP [(x : Int), (y : Int)]) (.bl true))) = G2 at ed2 b2 hp2 hU2 ⊢
            generalize putK kvs (keyP [(x : Int), (y : Int)]) (.bl true) = kvs2 at ed2 ek2 l2
            refine ⟨.ref d, rfl, .ref u, rfl, .int (y : Int), rfl, u, _, _, _, rfl, rfl, hU2, ay, .ref u, rfl, .int (x : Int), rfl, u, _, _, _, rfl, rfl, hU2, ax, two, fun T3 nT3 => ?_⟩
            have sT3 := same_upd (o := .tup [.int my, .int mx]) nT3
            have eT3 : (upd G2 T3 (.tup [.int my, .int mx])) T3 = some (.tup ((keyP [my, mx]).map kV)) := upd_same
            refine ⟨d, _, rfl, DPut.t (sT3 _ _ ed2) eT3 (few1 (by omega)), ?_⟩
            refine ⟨_, t7, _, addP (addP ps [(x : Int), (y : Int)]) [my, mx], rfl, fun c o e z => ?_, pail_set (pail_same hp2 sT3) hdp, by omega, sqT_dT (sT3 _ _ ed2) (sqT_same sT3 hU2), upd_same, put_keys ek2, Part.add M P' bx by_ gx gy⟩
            rw [upd_ne (ne_of_none e ndH)]; exact sT3 _ _ (b2 c o e z)
          · exact ⟨_, t7, kvs, ps, rfl, b6.trans b7, hp7, by omega, sqT_pail hp6 b7 hU6, b7 _ _ ed6 hdp, ek, P'⟩
      · obtain ⟨y9, t6, kvs, ps, rfl, b6, hp6, ht6, hU6, ed6, ek, P'⟩ := h
        exact ⟨_, _, t6, kvs, ps, rfl, b6, hp6, by omega, hU6, ed6, ek, P'⟩
    · obtain ⟨y8, y9, t5, kvs, ps, rfl, b5, hp5, ht5, hU5, ed5, ek, P'⟩ := h
      have hl64 := P'.len M
      have hkl : kvs.length ≤ 64 := by
        have z := congrArg List.length ek
        rw [List.length_map, List.length_map] at z; omega
      refine ⟨.ref u, rfl, .ref d, rfl, d, kvs, ps, rfl, .inl ed5, ek, fun z hz => ?_, by omega, fun L c nc pm pw tu => .inl ⟨c, _, rfl, lstNew upd_same, fun e ne => ⟨two, fun R nR => ?_⟩⟩⟩
      · obtain ⟨x, y, e, _⟩ := P'.pr z hz
        exact ⟨x, y, e⟩
      · have s3 := (same_upd (o := .lst (L.map fun a => V.ref a.1)) nc).trans (same_upd (o := .tup (L.map fun a => V.ref a.1)) ne)
        have sR := same_upd (o := .tup [.ref u, .ref e]) nR
        refine q _ R t5 ns (L.map (·.2)) (pail_same hp5 (s3.trans sR)) (by omega) (b5.trans (But.of (s3.trans sR))) ⟨u, e, upd_same, sqT_same (s3.trans sR) hU5, ?_, M, P'.stp M pm pw⟩ (by omega) (by omega)
        exact TupsH.same (H := upd (upd H5 c (.lst (L.map fun a => V.ref a.1))) e (.tup (L.map fun a => V.ref a.1))) ⟨L, rfl, upd_same, fun k hk => s3 _ _ (tu k hk)⟩ sR
end
end K20
set_option maxHeartbeats 4000000
namespace RV
open PySem PySem.Spec PyProof.Rows L2
theorem walk_revT {K : PySem.W.Frag} {a : Addr} {xs : List V} : Walk (RT.ItvT K a xs.length) xs.length (fun H => SqT K H a xs) (YAt xs.reverse) := by
  refine ⟨fun i H hi g => ⟨hi, xs, xs[xs.length - 1 - i], g, List.getElem?_eq_getElem (by omega)⟩, fun H _ => Nat.le_refl _, fun i H x H' hi g y => ⟨y.1, ?_⟩⟩
  rw [List.getElem?_reverse hi]
  exact y.2 xs g
/-- [h(x) for x in reversed(t)], t a tuple of ints -/
theorem lc_mapRev {K : PySem.W.Frag} {te : TE} {h : Int → Int} {σ : L2.St} {H1 : Hp} {a D : Addr} {v : Nat} {ns : List Int} {Qd : Hp → Prop} (hT : SqT K H1 a (ns.map V.int)) (hl : ns.length ≤ 1000) (nD : H1 D = none)
    (hte : ∀ x ∈ ns, ∀ (H' : Hp) (Q : VK), Same H1 H' → (∀ H2, Same H' H2 → Q (.int (h x)) H2) → te ((wipe σ [v]).set v (some (.int x))) H' Q)
    (hd : ∀ H', Same H1 H' → H' D = some (.lst ((ns.reverse.map h).map V.int)) → Qd H') :
    ∃ W : Nat → Nat → Hp → Prop, (∃ m, W 0 m (upd H1 D (.lst []))) ∧ ∀ i m H, W i m H →
      ((RT.ItvT K a (ns.map V.int).length).stop i H ∧ Qd H) ∨ ((RT.ItvT K a (ns.map V.int).length).go i H ∧ ∃ Nx : Hp → Prop, (∀ H', Nx H' → ∃ m', m' < m ∧ W (i + 1) m' H') ∧ ∀ x H', (RT.ItvT K a (ns.map V.int).length).yld i H x H' → gName v x (wipe σ [v]) H' fun σ2 H2 => wipe σ2 [v] = wipe σ [v] ∧ tYes σ2 H2 fun b H3 =>
        if b = true then te σ2 H3 fun y H4 => ∃ acc, H4 D = some (.lst acc) ∧ acc.length < sizeLine ∧ Nx (upd H4 D (.lst (acc ++ [y]))) else Nx H3) := by
  refine lc_it walk_revT (fun i H' => Same H1 H' ∧ H' D = some (.lst (((ns.reverse.take i).map h).map V.int))) ⟨same_upd nD, upd_same⟩ (fun i H' _ p => sqT_same p.1 hT) (fun i x Hx H' hx p y => ?_) fun H' p => ?_
  · obtain ⟨rfl, hx⟩ := y
    rw [← List.map_reverse] at hx
    obtain ⟨k, g, rfl⟩ := map_at hx
    refine ⟨by simp [wipe, List.set_set], tt_yes (hte k (List.mem_reverse.mp (List.mem_of_getElem? g)) H' _ p.1 fun H2 s2 => ⟨_, s2 _ _ p.2, ?_, fun b o z => ?_, ?_⟩)⟩
    · rw [List.length_map, List.length_map, List.length_take, List.length_reverse]; exact few1 (by omega)
    · rw [upd_ne (ne_of_none z nD)]; exact s2 _ _ (p.1 b o z)
    · rw [upd_same, List.take_add_one, g, List.map_append, List.map_append]; rfl
  · rw [List.length_map, List.take_of_length_le (by rw [List.length_reverse]; exact Nat.le_refl _)] at p
    exact hd H' p.1 p.2
/-- [c(x) for x in range(n)] of truths -/
theorem lc_blR {te : TE} {c : Int → Bool} {σ : L2.St} {H1 : Hp} {D : Addr} {v n : Nat} {Qd : Hp → Prop} (hl : n ≤ 1000) (nD : H1 D = none)
    (hte : ∀ x : Int, 0 ≤ x → x < (n : Int) → ∀ (H' : Hp) (Q : VK), Same H1 H' → (∀ H2, Same H' H2 → Q (.bl (c x)) H2) → te ((wipe σ [v]).set v (some (.int x))) H' Q)
    (hd : ∀ H', Same H1 H' → H' D = some (.lst (((upN n).map c).map V.bl)) → Qd H') :
    ∃ W : Nat → Nat → Hp → Prop, (∃ m, W 0 m (upd H1 D (.lst []))) ∧ ∀ i m H, W i m H →
      ((Itr 0 n).stop i H ∧ Qd H) ∨ ((Itr 0 n).go i H ∧ ∃ Nx : Hp → Prop, (∀ H', Nx H' → ∃ m', m' < m ∧ W (i + 1) m' H') ∧ ∀ x H', (Itr 0 n).yld i H x H' → gName v x (wipe σ [v]) H' fun σ2 H2 => wipe σ2 [v] = wipe σ [v] ∧ tYes σ2 H2 fun b H3 =>
        if b = true then te σ2 H3 fun y H4 => ∃ acc, H4 D = some (.lst acc) ∧ acc.length < sizeLine ∧ Nx (upd H4 D (.lst (acc ++ [y]))) else Nx H3) := by
  refine lc_range (lo := 0) (n := n) (fun i H' => Same H1 H' ∧ H' D = some (.lst ((((upN n).take i).map c).map V.bl))) ⟨same_upd nD, upd_same⟩ (fun i H' hi p => ?_) fun H' p => ?_
  · have g : (upN n)[i]? = some (i : Int) := upN_get hi
    rw [Int.zero_add]
    refine ⟨by simp [wipe, List.set_set], tt_yes (hte (i : Int) (by omega) (by omega) H' _ p.1 fun H2 s2 => ⟨_, s2 _ _ p.2, ?_, fun b o z => ?_, ?_⟩)⟩
    · rw [List.length_map, List.length_map, List.length_take, upN_len]; exact few1 (by omega)
    · rw [upd_ne (ne_of_none z nD)]; exact s2 _ _ (p.1 b o z)
    · rw [upd_same, List.take_add_one, g, List.map_append, List.map_append]; rfl
  · rw [List.take_of_length_le (by rw [upN_len]; exact Nat.le_refl _)] at p
    exact hd H' p.1 p.2
theorem decV (a b : Int) : decide (V.int a = V.int b) = decide (a = b) := by
  by_cases h : a = b
  · rw [h, decide_eq_true rfl, decide_eq_true rfl]
  · rw [decide_eq_false h, decide_eq_false fun z => h (V.int.inj z)]
end RV
set_option maxHeartbeats 4000000
namespace K20
open PySem PySem.Spec PyProof.Rows L2 RV
/-! ### [b for a, b in pairs if ..] -/
/-! ### dicts by whom they hold -/
theorem merge_some {k : L2.Key} : ∀ (more kvs : List (L2.Key × V)), (valV (mergeK kvs more) k).isSome = true ↔ (valV kvs k).isSome = true ∨ k ∈ more.map (·.1)
  | [], kvs => by simp [mergeK]
  | q :: more, kvs => by
    show (valV (mergeK (putK kvs q.1 q.2) more) k).isSome = true ↔ _
    rw [merge_some more, valV_put, List.map_cons, List.mem_cons]
    by_cases e : k = q.1
    · simp [e]
    · simp [e]
def LevAt (H : Hp) (d : Addr) (S : Int → Prop) : Prop := ∃ kvs : List (L2.Key × V), H d = some (.dK kvs) ∧ ∀ m : Int, (valV kvs (Sum.inl m)).isSome = true ↔ S m
theorem LevAt.same {H H' : Hp} {d : Addr} {S : Int → Prop} (h : LevAt H d S) (s : Same H H') : LevAt H' d S := by
  obtain ⟨kvs, h1, h2⟩ := h
  exact ⟨kvs, s _ _ h1, h2⟩
theorem paired_bag {K : PySem.W.Frag} {H : Hp} : ∀ ts : List (Addr × Int), (∀ t ∈ ts, H t.1 = some (.tup [.int t.2, .bl true])) → Paired (fun (p : Addr) (kv : L2.Key × V) => SqT K H p [kV kv.1, kv.2]) (ts.map (·.1)) (ts.map fun t => ((Sum.inl t.2 : L2.Key), V.bl true))
  | [], _ => .nil
  | t :: ts, h => .cons (tupNew (h t (List.mem_cons_self ..))) (paired_bag ts fun u hu => h u (List.mem_cons_of_mem _ hu))
theorem OwnH.same {K : PySem.W.Frag} {H H' : Hp} {R : Addr} {ns : List Int} {ps : List (List Int)} (h : OwnH K H R ns ps) (s : Same H H') : OwnH K H' R ns ps := by
  obtain ⟨u, c, o1, o2, o3, M, S⟩ := h
  exact ⟨u, c, s _ _ o1, sqT_same s o2, o3.same s, M, S⟩
section
variable {P : Program} {w : World} {K : PySem.W.Frag} {mg : Str → Option Value} {base : Heap}
/-! ### _law_behind -/
theorem scLBehind : FnScope ["_law_form_here", "_law_mark", "_law_one", "_law_other"] ["_law_form_here", "_law_mark"] (defScope sLBehind) := ⟨rfl, rfl, rfl, by decide +kernel, rfl, by decide +kernel, by decide +kernel⟩
def spLBehind (K : PySem.W.Frag) : Sp := fun vs H Q _ => ∃ (R : Addr) (m : Int) (ns : List Int) (ps : List (List Int)), vs = [.ref R, .int m] ∧ OwnH K H R ns ps ∧
  ∀ (H' : Hp) (D : Addr), Same H H' → H' D = some (.lst ((behindOf ps m).map V.int)) → Q (.ref D) H'
theorem ok_lbehind {f : Addr} {fd : FuncData} (F : Fun K "_law_behind" "_law_behind" sLBehind f fd) (B : Bare mg) : FnOk P w K mg base CX0 1 f fd ["_law_form_here", "_law_mark"] (spLBehind K) := by
  refine F.ok scLBehind (fun vs H Q E h => ?_) (fun cdv A outer s H vs Q E hr h => ?_)
  · obtain ⟨R, m, ns, ps, rfl, _⟩ := h
    rfl
  · obtain ⟨R, m, ns, ps, rfl, O, q⟩ := h
    refine ⟨_, pss_one (ps_ret (pe_lc (own := [("_law_one", 2), ("_law_other", 3)]) (g := gTup K 2 (gCons (gName 2) (gCons (gName 3) gNil))) rfl scLBehind.nd (pi_tup (pe_ix ix_tup (pv 0) pe_int (fun _ _ => rfl))) (blkOk_by (N := ["_law_form_here", "_law_mark", "_law_one", "_law_other"]) (sc := defScope sLBehind) (by decide +kernel))
            (fun _ _ _ _ _ => pg_tupK rfl rfl (pgs_cons (pg_name (i := 2) scLBehind.nd rfl (Or.inl rfl)) (pgs_cons (pg_name (i := 3) scLBehind.nd rfl (Or.inl rfl)) pgs_nil)))
            (fun _ _ _ _ _ => pts_one (pt_cmpR op_eq (pv 2) (pv 1) (nomark _))) (fun _ _ _ _ _ => pv 3))), ?_⟩
    obtain ⟨u, c, o1, o2, o3, M, S⟩ := O
    have hC : Tups K H c ps := o3.tups
    have ex : ∃ xs, SqT K H c xs := by
      obtain ⟨ks, _, h2, _⟩ := hC
      exact ⟨_, h2⟩
    refine ⟨.ref R, rfl, R, _, 1, .ref c, rfl, rfl, tupNew o1, rfl, c, rfl, ex, fun D nD => ?_⟩
    refine lc_pairs (c := fun x _ => decide (x = m)) hC (by have := S.few; omega) (fun p hp => by obtain ⟨x, y, e, _⟩ := S.pair p hp; exact ⟨x, y, e⟩) nD (fun x y => rfl) (fun x y hxy H' s' A' B' kk => ?_) (fun x y H' Q' k => ⟨.int y, rfl, k⟩) fun H2 s2 e2 => ?_
    · refine ⟨.int x, rfl, .int m, rfl, rfl, _, rfl, ?_⟩
      rw [decV]
      exact kk H' (Same.refl H')
    · exact q H2 D s2 e2
end
end K20
set_option maxHeartbeats 4000000
namespace K20
open PySem PySem.Spec PyProof.Rows L2 RV
/-! ### seen from the other side -/
theorem rch_mirror {ns : List Int} {ps : List (List Int)} (M : Mir ns) (S : Stp ns ps) {a b : Int} (h : Rch ps a b) : ∀ {ma mb : Int}, ns[a.toNat]? = some ma → ns[b.toNat]? = some mb → Rch ps mb ma := by
  have hP : ∀ p ∈ ps, Pr (ns.length : Int) p := fun p hp => S.pair p hp
  induction h with
  | one e => exact fun ha hb => .one (S.mirr _ _ _ _ e ha hb)
  | @more j k h1 e ih =>
    intro ma mb ha hb
    have bj := (Rch.bound hP (.one e)).1
    obtain ⟨mj, hj⟩ : ∃ x, ns[j.toNat]? = some x := ⟨_, List.getElem?_eq_getElem (by omega)⟩
    exact (Rch.one (S.mirr _ _ _ _ e hj hb)).trans (ih ha hj)
theorem mir_back {ns : List Int} (M : Mir ns) {a ma : Int} (ha : 0 ≤ a) (h : ns[a.toNat]? = some ma) : ns[ma.toNat]? = some a := by
  have z := M.back _ _ h
  rwa [Int.toNat_of_nonneg ha] at z
theorem lot_mirror {ns : List Int} {ps : List (List Int)} (M : Mir ns) (S : Stp ns ps) {x mx y my : Int} (h0 : 0 ≤ x) (hx : ns[x.toNat]? = some mx) (hy : ns[y.toNat]? = some my) (h : y ∈ lotOf ps ns.length x) : my ∈ lotOf ps ns.length mx := by
  obtain ⟨_, h1, h2⟩ := mem_lot.mp h
  have := M.inn my (List.mem_of_getElem? hy)
  exact mem_lot.mpr ⟨this, rch_mirror M S h2 hy hx, rch_mirror M S h1 hx hy⟩
/-- what part_of tells -/
def PartNo (ps : List (List Int)) (n : Nat) (m : Int) (v : V) : Prop := (¬ Rch ps m m ∧ v = .non) ∨ ∃ k : Nat, (partsOf ps n)[k]? = some (lotOf ps n m) ∧ Rch ps m m ∧ v = .int (k : Int)
section
variable {P : Program} {w : World} {K : PySem.W.Frag} {mg : Str → Option Value} {base : Heap}
/-! ### part_of -/
def spPartOf (K : PySem.W.Frag) (C : Addr) : Sp := fun vs H Q _ => ∃ (r : Addr) (m : Int) (ns : List Int) (ps : List (List Int)), vs = [.ref r, .int m] ∧ RuleAt K C H r ns ps ∧ Mir ns ∧ Stp ns ps ∧ (0 ≤ m ∧ m < (ns.length : Int)) ∧
  ∀ (H' : Hp) (v : V), Same H H' → PartNo ps ns.length m v → Q v H'
/-! ### mirror_part -/
def spMirrorPart (K : PySem.W.Frag) (C : Addr) : Sp := fun vs H Q _ => ∃ (r : Addr) (k : Nat) (p : List Int) (ns : List Int) (ps : List (List Int)), vs = [.ref r, .int (k : Int)] ∧ RuleAt K C H r ns ps ∧ Mir ns ∧ Stp ns ps ∧ (partsOf ps ns.length)[k]? = some p ∧
  ∀ (H' : Hp) (x mx : Int) (k' : Nat), Same H H' → x ∈ p → ns[x.toNat]? = some mx → (partsOf ps ns.length)[k']? = some (lotOf ps ns.length mx) → Q (.int (k' : Int)) H'
end
end K20
namespace RV
open PySem L2
/-! ### walks by their steps -/
inductive Wk (ps : List (List Int)) : Nat → Int → Int → Prop where
  | nil (i : Int) : Wk ps 0 i i
  | more {n : Nat} {i j k : Int} : Wk ps n i j → [j, k] ∈ ps → Wk ps (n + 1) i k
theorem Wk.trans {ps : List (List Int)} {n m : Nat} {i j k : Int} (h : Wk ps n i j) (g : Wk ps m j k) : Wk ps (n + m) i k := by
  induction g with
  | nil _ => exact h
  | more _ e ih => exact .more (ih h) e
theorem Wk.one {ps : List (List Int)} {i j : Int} (h : [i, j] ∈ ps) : Wk ps 1 i j := .more (.nil i) h
theorem Wk.rch {ps : List (List Int)} {n : Nat} {i j : Int} (h : Wk ps n i j) : n = 0 ∧ i = j ∨ Rch ps i j := by
  induction h with
  | nil _ => exact .inl ⟨rfl, rfl⟩
  | more _ e ih =>
    rcases ih with ⟨_, rfl⟩ | ih
    · exact .inr (.one e)
    · exact .inr (.more ih e)
theorem Wk.lead {ps : List (List Int)} {n : Nat} {i j : Int} (h : Wk ps (n + 1) i j) : Rch ps i j := by
  rcases h.rch with ⟨z, _⟩ | z
  · omega
  · exact z
theorem rch_wk {ps : List (List Int)} {i j : Int} (h : Rch ps i j) : ∃ n, Wk ps (n + 1) i j := by
  induction h with
  | one e => exact ⟨0, .one e⟩
  | more _ e ih =>
    obtain ⟨n, w⟩ := ih
    exact ⟨n + 1, .more w e⟩
theorem Wk.zero {ps : List (List Int)} {i j : Int} (h : Wk ps 0 i j) : i = j := by
  cases h; rfl
theorem Wk.bound {ps : List (List Int)} {b : Int} (hb : ∀ p ∈ ps, Pr b p) {n : Nat} {i j : Int} (h : Wk ps n i j) (hi : 0 ≤ i ∧ i < b) : 0 ≤ j ∧ j < b := by
  rcases h.rch with ⟨_, rfl⟩ | z
  · exact hi
  · exact (Rch.bound hb z).2
/-- whatever is come to is come to by few steps -/
theorem wk_grow {ps : List (List Int)} (i : Int) : ∀ k : Nat, (∃ k', k' ≤ k ∧ ∀ x y : Int, (∃ m, m ≤ k' ∧ Wk ps m i x) → [x, y] ∈ ps → ∃ m, m ≤ k' ∧ Wk ps m i y) ∨ ∃ L : List Int, L.Nodup ∧ L.length = k + 1 ∧ ∀ x ∈ L, ∃ m, m ≤ k ∧ Wk ps m i x
  | 0 => .inr ⟨[i], by simp, rfl, fun x hx => ⟨0, Nat.le_refl _, by rw [List.mem_singleton.mp hx]; exact .nil i⟩⟩
  | k + 1 => by
    rcases wk_grow i k with ⟨k', h1, h2⟩ | ⟨L, nd, len, all⟩
    · exact .inl ⟨k', by omega, h2⟩
    · by_cases c : ∀ x y : Int, (∃ m, m ≤ k ∧ Wk ps m i x) → [x, y] ∈ ps → ∃ m, m ≤ k ∧ Wk ps m i y
      · exact .inl ⟨k, by omega, c⟩
      · refine .inr ?_
        obtain ⟨x, hx⟩ := Classical.not_forall.mp c
        obtain ⟨y, hy⟩ := Classical.not_forall.mp hx
        obtain ⟨h1, hy⟩ := Classical.not_imp.mp hy
        obtain ⟨h2, h3⟩ := Classical.not_imp.mp hy
        obtain ⟨m, hm, wm⟩ := h1
        refine ⟨y :: L, List.nodup_cons.mpr ⟨fun z => h3 (all y z), nd⟩, by rw [List.length_cons, len], fun z hz => ?_⟩
        rcases List.mem_cons.mp hz with rfl | hz
        · exact ⟨m + 1, by omega, .more wm h2⟩
        · obtain ⟨m', h4, h5⟩ := all z hz
          exact ⟨m', by omega, h5⟩
theorem wk_in {ps : List (List Int)} {i : Int} {k : Nat} : ∀ {m : Nat} {j : Int}, Wk ps m i j → (∀ x y : Int, (∃ m, m ≤ k ∧ Wk ps m i x) → [x, y] ∈ ps → ∃ m, m ≤ k ∧ Wk ps m i y) → ∃ m', m' ≤ k ∧ Wk ps m' i j
  | _, _, .nil _, _ => ⟨0, Nat.zero_le _, .nil _⟩
  | _, _, .more w e, h2 => h2 _ _ (wk_in w h2) e
theorem wk_short {ps : List (List Int)} {n : Nat} (hb : ∀ p ∈ ps, Pr (n : Int) p) {i j : Int} (hi : 0 ≤ i ∧ i < (n : Int)) {m : Nat} (h : Wk ps m i j) : ∃ m', m' ≤ n ∧ Wk ps m' i j := by
  rcases wk_grow (ps := ps) i n with ⟨k', h1, h2⟩ | ⟨L, nd, len, all⟩
  · obtain ⟨m', h3, h4⟩ := wk_in h h2
    exact ⟨m', by omega, h4⟩
  · have := nodup_le (us := upN n) nd fun x hx => by
      obtain ⟨m', _, w⟩ := all x hx
      exact mem_upN.mpr (w.bound hb hi)
    rw [upN_len] at this
    omega
/-! ### periods -/
structure Per (ps : List (List Int)) (x : Int) (g : Nat) : Prop where
  all : ∀ n, Wk ps n x x → g ∣ n
  most : ∀ d : Nat, (∀ n, n ≤ 24 → Wk ps n x x → d ∣ n) → d ∣ g
theorem Per.uniq {ps : List (List Int)} {x : Int} {g g' : Nat} (h : Per ps x g) (h' : Per ps x g') : g = g' :=
  Nat.dvd_antisymm (h'.most g fun n _ w => h.all n w) (h.most g' fun n _ w => h'.all n w)
open Classical in
noncomputable def perN (ps : List (List Int)) (x : Int) : Nat := if h : ∃ g, Per ps x g then Classical.choose h else 0
theorem Per.is {ps : List (List Int)} {x : Int} {g : Nat} (h : Per ps x g) : perN ps x = g := by
  have e : ∃ g, Per ps x g := ⟨g, h⟩
  unfold perN
  rw [dif_pos e]
  exact (Classical.choose_spec e).uniq h
open Classical in
noncomputable def clsN (ps : List (List Int)) (x : Int) (g : Nat) (m : Int) : Nat := if h : ∃ n, Wk ps n x m then Classical.choose h % g else 0
theorem mod_of_dvd {g a b r : Nat} (h1 : g ∣ a + r) (h2 : g ∣ b + r) : a % g = b % g := by
  have e : ((a : Int) - b) % g = 0 := by
    have z : (g : Int) ∣ ((a + r : Nat) : Int) - ((b + r : Nat) : Int) := Int.dvd_sub (Int.ofNat_dvd.mpr h1) (Int.ofNat_dvd.mpr h2)
    have e2 : ((a + r : Nat) : Int) - ((b + r : Nat) : Int) = (a : Int) - b := by omega
    rw [e2] at z
    exact Int.emod_eq_zero_of_dvd z
  have z := Int.emod_eq_emod_iff_emod_sub_eq_zero.mpr e
  omega
/-- any way to a mark that leads back tells its class -/
theorem Per.cls {ps : List (List Int)} {x m : Int} {g n : Nat} (h : Per ps x g) (w : Wk ps n x m) (back : ∃ r, Wk ps r m x) : n % g = clsN ps x g m := by
  have e : ∃ n, Wk ps n x m := ⟨n, w⟩
  unfold clsN
  rw [dif_pos e]
  obtain ⟨r, wr⟩ := back
  exact mod_of_dvd (h.all _ (w.trans wr)) (h.all _ ((Classical.choose_spec e).trans wr))
theorem Per.self {ps : List (List Int)} {x : Int} {g : Nat} (h : Per ps x g) : clsN ps x g x = 0 := by
  rw [← h.cls (.nil x) ⟨0, .nil x⟩]; exact Nat.zero_mod g
theorem Per.pos {ps : List (List Int)} {x : Int} {g : Nat} (h : Per ps x g) (r : Rch ps x x) : 0 < g := by
  obtain ⟨n, w⟩ := rch_wk r
  have z := h.all _ w
  rcases Nat.eq_zero_or_pos g with e | e
  · rw [e] at z
    have := Nat.eq_zero_of_zero_dvd z
    omega
  · exact e
theorem dvd_mid {g t n r : Nat} (h1 : g ∣ t + n + r) (h2 : g ∣ t + r) : g ∣ n := by
  have z : (t + n + r) - (t + r) = n := by omega
  rw [← z]
  exact Nat.dvd_sub h1 h2
end RV
set_option maxHeartbeats 4000000
namespace RV
open PySem PySem.Spec PyProof.Rows L2
/-! ### dicts of ints -/
def kO (u : Int × Nat) : L2.Key × V := (Sum.inl u.1, V.int (u.2 : Int))
theorem kO_keys (us : List (Int × Nat)) : (us.map kO).map (·.1) = (us.map (·.1)).map Sum.inl := by
  rw [List.map_map, List.map_map]; rfl
theorem inl_mem {m : Int} {l : List Int} : (Sum.inl m : L2.Key) ∈ l.map Sum.inl ↔ m ∈ l := by
  rw [List.mem_map]
  constructor
  · rintro ⟨x, hx, e⟩
    cases e; exact hx
  · exact fun h => ⟨m, h, rfl⟩
theorem valO_not {us : List (Int × Nat)} {m : Int} (h : valV (us.map kO) (Sum.inl m) = none) : m ∉ us.map (·.1) := fun z => valV_not h (by rw [kO_keys]; exact inl_mem.mpr z)
theorem valO_in {us : List (Int × Nat)} {m : Int} {v : V} (h : valV (us.map kO) (Sum.inl m) = some v) : m ∈ us.map (·.1) := by
  have z := valV_in h
  rw [kO_keys] at z
  exact inl_mem.mp z
theorem valO_at : ∀ {us : List (Int × Nat)} {u : Int × Nat}, (us.map (·.1)).Nodup → u ∈ us → valV (us.map kO) (Sum.inl u.1) = some (.int (u.2 : Int))
  | [], u, _, h => nomatch h
  | v :: us, u, nd, h => by
    rw [List.map_cons, List.nodup_cons] at nd
    rw [List.map_cons]
    rcases List.mem_cons.mp h with rfl | h
    · exact valV_pos rfl
    · rw [valV_neg]
      · exact valO_at nd.2 h
      · intro e
        have e' : v.1 = u.1 := Sum.inl.inj e
        exact nd.1 (by rw [e']; exact List.mem_map_of_mem h)
theorem putO_new {us : List (Int × Nat)} {m : Int} {n : Nat} (h : valV (us.map kO) (Sum.inl m) = none) : putK (us.map kO) (Sum.inl m) (.int (n : Int)) = (us ++ [(m, n)]).map kO := by
  rw [putK_new _ h, List.map_append]; rfl
/-! ### steps off the least mark -/
structure Offs (ps : List (List Int)) (p : List Int) (x : Int) (us : List (Int × Nat)) : Prop where
  nd : (us.map (·.1)).Nodup
  wk : ∀ u ∈ us, Wk ps u.2 x u.1 ∧ u.1 ∈ p ∧ u.2 ≤ 7
  all : ∀ m ∈ p, m ∈ us.map (·.1)
/-- as they are found -/
structure Bf (ps : List (List Int)) (p : List Int) (x : Int) (us : List (Int × Nat)) : Prop where
  nd : (us.map (·.1)).Nodup
  first : us[0]? = some (x, 0)
  wk : ∀ (i : Nat) (u : Int × Nat), us[i]? = some u → Wk ps u.2 x u.1 ∧ u.1 ∈ p ∧ u.2 ≤ i
theorem Bf.len {ps : List (List Int)} {p : List Int} {x : Int} {us : List (Int × Nat)} (h : Bf ps p x us) : us.length ≤ p.length := by
  have := nodup_le (us := p) h.nd fun m hm => by
    obtain ⟨u, hu, rfl⟩ := List.mem_map.mp hm
    obtain ⟨i, hi, e⟩ := List.getElem_of_mem hu
    exact (h.wk i u (by rw [List.getElem?_eq_getElem hi, e])).2.1
  rwa [List.length_map] at this
theorem Bf.start {ps : List (List Int)} {p : List Int} {x : Int} (hx : x ∈ p) : Bf ps p x [(x, 0)] := by
  refine ⟨by simp, rfl, fun i u h => ?_⟩
  cases i with
  | zero =>
    have e : (x, 0) = u := Option.some.inj h
    subst e
    exact ⟨.nil x, hx, Nat.le_refl _⟩
  | succ i => simp at h
theorem Bf.add {ps : List (List Int)} {p : List Int} {x : Int} {us : List (Int × Nat)} (h : Bf ps p x us) {a : Nat} {u : Int × Nat} {y : Int} (hu : us[a]? = some u) (e : [u.1, y] ∈ ps) (hy : y ∈ p) (ny : y ∉ us.map (·.1)) : Bf ps p x (us ++ [(y, u.2 + 1)]) := by
  have hl : 0 < us.length := by
    have := (List.getElem?_eq_some_iff.mp h.first).1
    exact this
  refine ⟨?_, by rw [List.getElem?_append_left hl]; exact h.first, fun i v hv => ?_⟩
  · rw [List.map_append, List.nodup_append]
    exact ⟨h.nd, by simp, fun b hb c hc e => ny (by
      have := List.mem_singleton.mp (show c ∈ [y] from hc)
      rw [← this, ← e]; exact hb)⟩
  · by_cases hi : i < us.length
    · rw [List.getElem?_append_left hi] at hv
      exact h.wk i v hv
    · have hi2 := (List.getElem?_eq_some_iff.mp hv).1
      rw [List.length_append] at hi2
      have ei : i = us.length := by
        have : [(y, u.2 + 1)].length = 1 := rfl
        omega
      subst ei
      rw [List.getElem?_append_right (Nat.le_refl _), Nat.sub_self] at hv
      have ev : (y, u.2 + 1) = v := Option.some.inj hv
      subst ev
      obtain ⟨w1, w2, w3⟩ := h.wk a u hu
      have := (List.getElem?_eq_some_iff.mp hu).1
      exact ⟨.more w1 e, hy, by show u.2 + 1 ≤ us.length; omega⟩
/-- a part: what lies between its marks is in it -/
structure Knot (ps : List (List Int)) (p : List Int) (x : Int) : Prop where
  x_in : x ∈ p
  out : ∀ m ∈ p, ∃ n, Wk ps n x m
  back : ∀ m ∈ p, ∃ n, Wk ps n m x
  mid : ∀ m, (∃ n, Wk ps n x m) → (∃ n, Wk ps n m x) → m ∈ p
theorem Knot.way {ps : List (List Int)} {p : List Int} {x : Int} (k : Knot ps p x) {n : Nat} {j m : Int} (h : Wk ps n x j) (e : [j, m] ∈ ps) (hm : m ∈ p) : j ∈ p := by
  obtain ⟨r, w⟩ := k.back m hm
  exact k.mid j ⟨n, h⟩ ⟨1 + r, (Wk.one e).trans w⟩
theorem Bf.offs {ps : List (List Int)} {p : List Int} {x : Int} {us : List (Int × Nat)} (h : Bf ps p x us) (k : Knot ps p x) (h8 : p.length ≤ 8) (done : ∀ (i : Nat) (u : Int × Nat), us[i]? = some u → ∀ y ∈ p, [u.1, y] ∈ ps → y ∈ us.map (·.1)) : Offs ps p x us := by
  refine ⟨h.nd, fun u hu => ?_, fun m hm => ?_⟩
  · obtain ⟨i, hi, e⟩ := List.getElem_of_mem hu
    obtain ⟨w1, w2, w3⟩ := h.wk i u (by rw [List.getElem?_eq_getElem hi, e])
    have := h.len
    exact ⟨w1, w2, by omega⟩
  · have : ∀ {n : Nat} {m : Int}, Wk ps n x m → m ∈ p → m ∈ us.map (·.1) := by
      intro n
      induction n with
      | zero =>
        intro m w _
        rw [← w.zero]
        exact List.mem_map_of_mem (List.mem_of_getElem? h.first)
      | succ n ih =>
        intro m w hm
        cases w with
        | more w e =>
          have hj := ih w (k.way w e hm)
          obtain ⟨u, hu, eu⟩ := List.mem_map.mp hj
          obtain ⟨i, hi, ei⟩ := List.getElem_of_mem hu
          exact done i u (by rw [List.getElem?_eq_getElem hi, ei]) m hm (by rw [eu]; exact e)
    obtain ⟨n, w⟩ := k.out m hm
    exact this w hm
/-! ### the period by these -/
theorem Offs.get {ps : List (List Int)} {p : List Int} {x : Int} {us : List (Int × Nat)} (h : Offs ps p x us) {m : Int} (hm : m ∈ p) : ∃ o : Nat, (m, o) ∈ us ∧ Wk ps o x m ∧ o ≤ 7 := by
  obtain ⟨u, hu, e⟩ := List.mem_map.mp (h.all m hm)
  obtain ⟨w1, _, w3⟩ := h.wk u hu
  refine ⟨u.2, ?_, by rw [← e]; exact w1, w3⟩
  rw [← e]; exact hu
theorem Offs.one {ps : List (List Int)} {p : List Int} {x : Int} {us : List (Int × Nat)} (h : Offs ps p x us) {m : Int} {a b : Nat} (h1 : (m, a) ∈ us) (h2 : (m, b) ∈ us) : a = b := by
  have e1 := valO_at h.nd h1
  have e2 := valO_at h.nd h2
  rw [e1] at e2
  have := Option.some.inj e2
  injection this with e
  omega
def gapO (a b : Nat) : Nat := ((a : Int) + 1 - (b : Int)).natAbs
/-- what period has found so far -/
structure Gf (ps : List (List Int)) (p : List Int) (us : List (Int × Nat)) (qs : List (List Int)) (g : Nat) : Prop where
  all : ∀ (x y : Int) (a b : Nat), [x, y] ∈ qs → x ∈ p → y ∈ p → (x, a) ∈ us → (y, b) ∈ us → g ∣ gapO a b
  most : ∀ d : Nat, (∀ (x y : Int) (a b : Nat), [x, y] ∈ qs → x ∈ p → y ∈ p → (x, a) ∈ us → (y, b) ∈ us → d ∣ gapO a b) → d ∣ g
theorem gap_dvd {g a b : Nat} (h : g ∣ gapO a b) : ((a : Int) + 1) % g = (b : Int) % g := by
  have z : (g : Int) ∣ (a : Int) + 1 - (b : Int) := Int.ofNat_dvd_left.mpr h
  exact Int.emod_eq_emod_iff_emod_sub_eq_zero.mpr (Int.emod_eq_zero_of_dvd z)
theorem dvd_gap {d a b r : Nat} (h1 : d ∣ a + 1 + r) (h2 : d ∣ b + r) : d ∣ gapO a b := by
  have z : (d : Int) ∣ ((a + 1 + r : Nat) : Int) - ((b + r : Nat) : Int) := Int.dvd_sub (Int.ofNat_dvd.mpr h1) (Int.ofNat_dvd.mpr h2)
  have e : ((a + 1 + r : Nat) : Int) - ((b + r : Nat) : Int) = (a : Int) + 1 - (b : Int) := by omega
  rw [e] at z
  exact Int.ofNat_dvd_left.mp z
theorem Gf.per {ps : List (List Int)} {p : List Int} {x : Int} {us : List (Int × Nat)} {g n : Nat} (G : Gf ps p us ps g) (O : Offs ps p x us) (k : Knot ps p x) (hb : ∀ q ∈ ps, Pr (n : Int) q) (h8 : n ≤ 8) (hp : ∀ m ∈ p, 0 ≤ m ∧ m < (n : Int)) : Per ps x g := by
  obtain ⟨o0, m0, w0, _⟩ := O.get k.x_in
  have key : ∀ {t : Nat} {m : Int}, Wk ps t x m → m ∈ p → ∀ a, (m, a) ∈ us → ((t : Int) + o0) % g = (a : Int) % g := by
    intro t
    induction t with
    | zero =>
      intro m w hm a ha
      rw [← w.zero] at ha
      rw [O.one ha m0]
      simp
    | succ t ih =>
      intro m w hm a ha
      cases w with
      | @more _ _ j _ w e =>
        have hj := k.way w e hm
        obtain ⟨b, hb', _, _⟩ := O.get hj
        have h1 := ih w hj b hb'
        have h2 := gap_dvd (G.all j m b a e hj hm hb' ha)
        have e3 : ((t + 1 : Nat) : Int) + o0 = ((t : Int) + o0) + 1 := by omega
        rw [e3, ← h2, Int.add_emod, h1, ← Int.add_emod]
  have o0z : (o0 : Int) % g = 0 := by
    have z := key w0 k.x_in o0 m0
    have e : ((o0 : Int) + o0 - o0) % g = 0 := Int.emod_eq_emod_iff_emod_sub_eq_zero.mp z
    have e2 : (o0 : Int) + o0 - o0 = o0 := by omega
    rwa [e2] at e
  refine ⟨fun t w => ?_, fun d hd => ?_⟩
  · have z := key w k.x_in o0 m0
    have e : ((t : Int) + o0 - o0) % g = 0 := Int.emod_eq_emod_iff_emod_sub_eq_zero.mp z
    have e2 : (t : Int) + o0 - o0 = t := by omega
    rw [e2] at e
    exact Int.ofNat_dvd.mp (Int.dvd_of_emod_eq_zero e)
  · refine G.most d fun y z a b hyz hy hz ha hb' => ?_
    obtain ⟨r0, wr0⟩ := k.back z hz
    obtain ⟨r, hr, wr⟩ := wk_short hb (hp z hz) wr0
    have wa := (O.wk _ ha)
    have wb := (O.wk _ hb')
    have a7 : a ≤ 7 := wa.2.2
    have b7 : b ≤ 7 := wb.2.2
    exact dvd_gap (hd (a + 1 + r) (by omega) ((Wk.more wa.1 hyz).trans wr)) (hd (b + r) (by omega) (Wk.trans wb.1 wr))
theorem Gf.nil {ps : List (List Int)} {p : List Int} {us : List (Int × Nat)} : Gf ps p us [] 0 := ⟨(fun _ _ _ _ h => nomatch h), fun d _ => Nat.dvd_zero d⟩
theorem Gf.skip {ps : List (List Int)} {p : List Int} {us : List (Int × Nat)} {qs : List (List Int)} {g : Nat} {x y : Int} (G : Gf ps p us qs g) (no : ¬ (x ∈ p ∧ y ∈ p)) : Gf ps p us (qs ++ [[x, y]]) g := by
  refine ⟨fun x' y' a b h hx hy ha hb => ?_, fun d hd => G.most d fun x' y' a b h => hd x' y' a b (List.mem_append_left _ h)⟩
  rcases List.mem_append.mp h with z | z
  · exact G.all x' y' a b z hx hy ha hb
  · have z := List.mem_singleton.mp z
    injection z with z1 z2
    injection z2 with z2 _
    subst z1 z2
    exact absurd ⟨hx, hy⟩ no
theorem Gf.add {ps : List (List Int)} {p : List Int} {us : List (Int × Nat)} {qs : List (List Int)} {g : Nat} {x y : Int} {a b : Nat} {z : Int} (O : Offs ps p z us) (G : Gf ps p us qs g) (hx : x ∈ p) (hy : y ∈ p) (ha : (x, a) ∈ us) (hb : (y, b) ∈ us) : Gf ps p us (qs ++ [[x, y]]) (Nat.gcd g (gapO a b)) := by
  refine ⟨fun x' y' a' b' h hx' hy' ha' hb' => ?_, fun d hd => Nat.dvd_gcd (G.most d fun x' y' a b h => hd x' y' a b (List.mem_append_left _ h)) (hd x y a b (List.mem_append_right _ (List.mem_singleton.mpr rfl)) hx hy ha hb)⟩
  rcases List.mem_append.mp h with e | e
  · exact Nat.dvd_trans (Nat.gcd_dvd_left _ _) (G.all x' y' a' b' e hx' hy' ha' hb')
  · have e := List.mem_singleton.mp e
    injection e with e1 e2
    injection e2 with e2 _
    subst e1 e2
    rw [O.one ha' ha, O.one hb' hb]
    exact Nat.gcd_dvd_right _ _
end RV
set_option maxHeartbeats 4000000
namespace K20
open PySem PySem.Spec PyProof.Rows L2 RV
theorem part_hd_in {ps : List (List Int)} {n : Nat} {p : List Int} (hp : p ∈ partsOf ps n) : hd0 p ∈ p ∧ lotOf ps n (hd0 p) = p := by
  have ne := part_ne hp
  cases e : p with
  | nil => exact absurd e ne
  | cons x l =>
    have hx : x ∈ p := by rw [e]; exact List.mem_cons_self ..
    refine ⟨List.mem_cons_self .., ?_⟩
    have z := part_lot hp hx
    rw [e] at z
    exact z
theorem knot_of {ps : List (List Int)} {n : Nat} (hb : ∀ q ∈ ps, Pr (n : Int) q) {p : List Int} (hp : p ∈ partsOf ps n) : Knot ps p (hd0 p) := by
  obtain ⟨hx, hl⟩ := part_hd_in hp
  have hx' : hd0 p ∈ lotOf ps n (hd0 p) := by rw [hl]; exact hx
  have bx := (mem_lot.mp hx').1
  refine ⟨hx, fun m hm => ?_, fun m hm => ?_, fun m h1 h2 => ?_⟩
  · rw [← hl] at hm
    obtain ⟨k, w⟩ := rch_wk (mem_lot.mp hm).2.1
    exact ⟨_, w⟩
  · rw [← hl] at hm
    obtain ⟨k, w⟩ := rch_wk (mem_lot.mp hm).2.2
    exact ⟨_, w⟩
  · obtain ⟨a, wa⟩ := h1
    obtain ⟨b, wb⟩ := h2
    rcases wa.rch with ⟨_, e⟩ | r1
    · rw [← e]; exact hx
    · rcases wb.rch with ⟨_, e⟩ | r2
      · rw [e]; exact hx
      · rw [← hl]
        exact mem_lot.mpr ⟨wa.bound hb bx, r1, r2⟩
theorem part_len8 {ps : List (List Int)} {n : Nat} (h8 : n ≤ 8) {p : List Int} (hp : p ∈ partsOf ps n) : p.length ≤ 8 := by
  obtain ⟨m, _, _, rfl⟩ := mem_parts.mp hp
  exact Nat.le_trans (lot_len ps n m) h8
theorem part_bd {ps : List (List Int)} {n : Nat} {p : List Int} {x : Int} (h : p ∈ partsOf ps n) (hx : x ∈ p) : 0 ≤ x ∧ x < (n : Int) := by
  have e := part_lot h hx
  rw [← e] at hx
  exact (mem_lot.mp hx).1
section
variable {P : Program} {w : World} {K : PySem.W.Frag} {mg : Str → Option Value} {base : Heap}
/-! ### steps_off -/
theorem scOff : FnScope ["rule", "marks", "least", "off", "queue", "at", "here", "mark"] ["rule", "marks"] (defScope sOff) := ⟨rfl, rfl, rfl, by decide +kernel, rfl, by decide +kernel, by decide +kernel⟩
def spOff (K : PySem.W.Frag) (C : Addr) : Sp := fun vs H Q _ => ∃ (r a : Addr) (ns : List Int) (ps : List (List Int)) (p : List Int), vs = [.ref r, .ref a] ∧ RuleAt K C H r ns ps ∧ Mir ns ∧ Stp ns ps ∧ p ∈ partsOf ps ns.length ∧ SqT K H a (p.map V.int) ∧
  ∀ (H' : Hp) (d : Addr) (us : List (Int × Nat)), Same H H' → H d = none → H' d = some (.dK (us.map kO)) → Offs ps p (hd0 p) us → Q (.ref d) H'
def atOff : L2.St → Nat
  | [_, _, _, _, _, some (.int a), _, _] => 8 - a.toNat
  | _ => 0
theorem ok_off {f C fB : Addr} {fd dB : FuncData} (F : Fun K "steps_off" "steps_off" sOff f fd) (T : Txt K mg C) (B : Bare mg)
    (FB : Fun K "behind" "Rule.behind" sBehindM fB dB) (bB : Binds K dB ["self", "mark"] []) (mB : Meth K C "behind" fB) : FnOk P w K mg base CX0 2 f fd ["rule", "marks"] (spOff K C) := by
  have GB : FnOk P w K mg base CX0 1 fB dB ["self", "mark"] (spBehindM K C) := ok_behindM FB T
  refine F.ok scOff (fun vs H Q E h => ?_) (fun cdv A outer s H vs Q E hr h => ?_)
  · obtain ⟨r, a, ns, ps, p, rfl, _⟩ := h
    rfl
  · obtain ⟨r, a, ns, ps, p, rfl, R, M, S, hp, hA, q⟩ := h
    have hu := hu_of hr
    have hu5 := un65 hr
    refine ⟨_, pss_cons (ps_set (i := 2) scOff.nd rfl (Or.inl rfl) (pe_ix ix_tup (pv 1) pe_int (fun _ _ => rfl)))
      (pss_cons (ps_set (i := 3) scOff.nd rfl (Or.inl rfl) (pe_disp (pps_cons (pv 2) pe_int pps_nil) rfl rfl (by simp) (by decide)))
      (pss_cons (ps_set (i := 4) scOff.nd rfl (Or.inl rfl) (pe_lst (pa_cons (pv 2) pa_nil)))
      (pss_cons (ps_set (i := 5) scOff.nd rfl (Or.inl rfl) pe_int)
      (pss_cons (ps_while PassesOwn.never (pt_cmpR op_lt (pv 5) (pe_callB call_len_seq (by rfl) B.len PySem.boot_len (pa_cons (pv 4) pa_nil)) (nomark _))
        (pss_cons (ps_set (i := 6) scOff.nd rfl (Or.inl rfl) (pe_ix ix_list (pv 4) (pv 5) (fun _ _ => rfl)))
        (pss_cons (ps_for PassesOwn.never rfl (pi_tup (pe_meth (pv 0) T.cl mB GB hr bB .nil pass0 (pa_cons (pv 6) pa_nil))) (pg_name (i := 7) scOff.nd rfl (Or.inl rfl))
          (pss_one (ps_if (PW.pt (pw_and (pt_cmpR (op_inTI hu5) (pv 7) (pv 1) (by rfl)) (pw_and1 (pt_cmp (pc_dnotin hu (pv 7) (pv 3))))))
            (pss_cons (ps_dput hu (pv 3) (pv 7) (pe_op op_add (pe_dget hu (pv 3) (pv 6) (fun _ _ => rfl)) pe_int) rfl)
            (pss_one (ps_expr (pe_bm PySem.F.plainAttrs_list PySem.F.slot_list_append PySem.F.type_list_append mt_append (pv 4) (pa_cons (pv 7) pa_nil))))) pss_nil)))
        (pss_one (ps_aug (i := 5) scOff.nd rfl (.inl rfl) pe_int ip_add)))))
      (pss_one (ps_ret (pv 3))))))), ?_⟩
    obtain ⟨dx, a0, b0, t0, g1, g2, g3, g4⟩ := R.ex
    have fno := flds_no a0 b0 t0 (m := "behind") (by decide +kernel) (by decide +kernel) (by decide +kernel)
    have h8 := M.few
    have hP : ∀ q ∈ ps, Pr (ns.length : Int) q := fun q hq => S.pair q hq
    have kn := knot_of hP hp
    have l8 := part_len8 h8 hp
    have hx0 : (p.map V.int)[0]? = some (.int (hd0 p)) := by
      cases e : p with
      | nil => exact absurd e (part_ne hp)
      | cons x l => rfl
    refine ⟨.ref a, rfl, a, _, 0, .int (hd0 p), rfl, rfl, hA, atI_nat (j := 0) hx0, fun d nd => ?_⟩
    generalize hx : hd0 p = x at kn q ⊢
    refine ⟨.int x, rfl, upd_same, [(Sum.inl x, .int 0)], rfl, (by show 1 ≤ 15; decide), ?_⟩
    have s1 : Same H (upd (upd H d (.dK [])) d (.dK (mergeK [] [(Sum.inl x, .int 0)]))) := fun b o e => by
      rw [upd_ne (ne_of_none e nd), upd_ne (ne_of_none e nd)]; exact e
    have ed : (upd (upd H d (.dK [])) d (.dK (mergeK [] [(Sum.inl x, .int 0)]))) d = some (.dK ([(x, 0)].map kO)) := upd_same
    generalize upd (upd H d (.dK [])) d (.dK (mergeK [] [(Sum.inl x, .int 0)])) = H1 at s1 ed ⊢
    refine ⟨.int x, rfl, (by show 1 ≤ sizeLine; decide), fun L nL => ?_⟩
    have sL := same_upd (o := .lst [.int x]) nL
    have nLH : H L = none := s1.free nL
    have ndL : d ≠ L := ne_of_none ed nL
    refine while_by (fun σ H' => ∃ (us : List (Int × Nat)) (at_ : Nat) (y6 y7 : Option V), σ = [some (.ref r), some (.ref a), some (.int x), some (.ref d), some (.ref L), some (.int (at_ : Int)), y6, y7] ∧ Same H H' ∧ H' d = some (.dK (us.map kO)) ∧ H' L = some (.lst ((us.map (·.1)).map V.int)) ∧ Bf ps p x us ∧ at_ ≤ us.length ∧ ∀ (i : Nat) (u : Int × Nat), i < at_ → us[i]? = some u → ∀ y ∈ p, [u.1, y] ∈ ps → y ∈ us.map (·.1))
      (fun σ _ => atOff σ) ?_ ?_ ?_
    · exact ⟨[(x, 0)], 0, none, none, rfl, s1.trans sL, sL _ _ ed, upd_same, Bf.start kn.x_in, Nat.zero_le _, fun i u hi => absurd hi (Nat.not_lt_zero _)⟩
    · rintro σ H2 ⟨us, at_, y6, y7, rfl, s2, ed2, eL2, bf, hle, dn⟩
      refine ⟨.int (at_ : Int), rfl, .ref L, rfl, L, _, rfl, .inl (lstNew eL2), _, _, rfl, rfl, _, rfl, ite2 (fun hlt => ?_) (fun hge => ?_)⟩
      · have hlt : at_ < us.length := by
          have z := of_decide_eq_true hlt
          rw [List.length_map, List.length_map] at z; omega
        obtain ⟨u, gu⟩ : ∃ u, us[at_]? = some u := ⟨_, List.getElem?_eq_getElem hlt⟩
        obtain ⟨wu1, wu2, wu3⟩ := bf.wk _ _ gu
        have bu := part_bd hp wu2
        refine ⟨.ref L, rfl, .int (at_ : Int), rfl, L, _, _, .int u.1, rfl, rfl, lstNew eL2, atI_nat (by rw [List.getElem?_map, List.getElem?_map, gu]; rfl), ?_⟩
        refine ⟨.ref r, rfl, r, dx, _, rfl, s2 _ _ g1, fno, .int u.1, rfl, r, ns, ps, u.1.toNat, by rw [Int.toNat_of_nonneg bu.1]; rfl, R.same s2, by omega, fun c hc => ?_⟩
        rw [Int.toNat_of_nonneg bu.1] at hc
        refine ⟨c, rfl, ⟨_, hc⟩, ?_⟩
        have hbl : (behindOf ps u.1).length ≤ 64 := by
          have := behind_len ps u.1
          have := S.few
          omega
        refine for_it (walk_tup (K := K) (a := c) (xs := (behindOf ps u.1).map V.int)) (fun j σ H' => ∃ (us' : List (Int × Nat)) (y7 : Option V), σ = [some (.ref r), some (.ref a), some (.int x), some (.ref d), some (.ref L), some (.int (at_ : Int)), some (.int u.1), y7] ∧ Same H H' ∧ SqT K H' c ((behindOf ps u.1).map V.int) ∧ H' d = some (.dK (us'.map kO)) ∧ H' L = some (.lst ((us'.map (·.1)).map V.int)) ∧ Bf ps p x us' ∧ (∃ nw, us' = us ++ nw) ∧ ∀ y ∈ (behindOf ps u.1).take j, y ∈ p → y ∈ us'.map (·.1))
          ⟨us, _, rfl, s2, hc, ed2, eL2, bf, ⟨[], (List.append_nil us).symm⟩, fun y hy => by simp at hy⟩ (fun j σ H' _ h => ?_) (fun j z σ H4 H3 hj h y => ?_) (fun σ H3 h => ?_)
        · obtain ⟨_, _, _, _, hc', _⟩ := h
          exact hc'
        · obtain ⟨us', y7', rfl, s3, hc3, ed3, eL3, bf3, ⟨nw, enw⟩, tk⟩ := h
          obtain ⟨rfl, gz⟩ := y
          obtain ⟨y, gy, rfl⟩ := map_at gz
          have gu' : us'[at_]? = some u := by rw [enw, List.getElem?_append_left hlt]; exact gu
          have ebeh : [u.1, y] ∈ ps := (mem_behind hP).mp (List.mem_of_getElem? gy)
          have tkn : ∀ us2 : List (Int × Nat), (∀ z ∈ us'.map (·.1), z ∈ us2.map (·.1)) → (y ∈ p → y ∈ us2.map (·.1)) → ∀ z ∈ (behindOf ps u.1).take (j + 1), z ∈ p → z ∈ us2.map (·.1) := fun us2 h1 h2 z hz hzp => by
            rw [List.take_add_one, gy] at hz
            rcases List.mem_append.mp hz with e | e
            · exact h1 z (tk z e hzp)
            · have e : z = y := List.mem_singleton.mp e
              subst e
              exact h2 hzp
          refine ⟨.int y, rfl, .ref a, rfl, a, y, p, rfl, rfl, sqT_same s3 hA, _, rfl, ?_⟩
          by_cases hyp : y ∈ p
          · rw [decide_eq_true hyp]
            refine iteT ⟨.int y, rfl, .ref d, rfl, d, _, rfl, DGet.k (k := Sum.inl y) ed3, _, rfl, ?_⟩
            cases ev : valV (us'.map kO) (Sum.inl y) with
            | some v =>
              refine iteF ?_
              exact ⟨us', _, rfl, s3, hc3, ed3, eL3, bf3, ⟨nw, enw⟩, tkn us' (fun _ z => z) fun _ => valO_in ev⟩
            | none =>
              refine iteT ?_
              have ev' := valO_at bf3.nd (List.mem_of_getElem? gu')
              have hl3 := bf3.len
              have dput : DPut H3 d (kV (Sum.inl y)) (.int ((u.2 : Int) + 1)) (upd H3 d (.dK ((us' ++ [(y, u.2 + 1)]).map kO))) := by
                rw [← putO_new ev]
                exact DPut.k ed3 (by rw [List.length_map]; exact few1 (by omega))
              refine ⟨.ref d, rfl, .int u.1, rfl, d, _, rfl, (by rw [← ev']; exact DGet.k (k := Sum.inl u.1) ed3), _, _, rfl, rfl, .ref d, rfl, .int y, rfl, d, upd H3 d (.dK ((us' ++ [(y, u.2 + 1)]).map kO)), rfl, dput, ?_⟩
              have eL4 : (upd H3 d (.dK ((us' ++ [(y, u.2 + 1)]).map kO))) L = some (.lst ((us'.map (·.1)).map V.int)) := by rw [upd_ne ndL.symm]; exact eL3
              refine ⟨.ref L, rfl, .inl ⟨rfl, _, lstNew eL4⟩, .int y, rfl, L, _, _, rfl, rfl, eL4, by rw [List.length_map, List.length_map]; exact few1 (by omega), ?_⟩
              have s5 : Same H (upd (upd H3 d (.dK ((us' ++ [(y, u.2 + 1)]).map kO))) L (.lst ((us'.map (·.1)).map V.int ++ [.int y]))) := fun b o e => by
                rw [upd_ne (ne_of_none e nLH), upd_ne (ne_of_none e nd)]; exact s3 b o e
              refine ⟨us' ++ [(y, u.2 + 1)], _, rfl, s5, ?_, ?_, ?_, bf3.add gu' ebeh hyp (valO_not ev), ⟨nw ++ [(y, u.2 + 1)], by rw [enw, List.append_assoc]⟩, tkn _ (fun z hz => by rw [List.map_append]; exact List.mem_append_left _ hz) fun _ => by rw [List.map_append]; exact List.mem_append_right _ (List.mem_singleton.mpr rfl)⟩
              · have keep : ∀ b o, H3 b = some o → (∃ xs, o = .tup xs) ∨ (∃ ob xs, o = .frz ob (.tup xs)) → (upd (upd H3 d (.dK ((us' ++ [(y, u.2 + 1)]).map kO))) L (.lst ((us'.map (·.1)).map V.int ++ [.int y]))) b = some o := fun b o e k => by
                  rw [upd_ne (fun z => by rw [z, eL3] at e; cases e; rcases k with ⟨_, k⟩ | ⟨_, _, k⟩ <;> cases k), upd_ne (fun z => by rw [z, ed3] at e; cases e; rcases k with ⟨_, k⟩ | ⟨_, _, k⟩ <;> cases k)]
                  exact e
                rcases hc3 with (z | ⟨ob, z⟩) | z
                · exact .inl (.inl (keep _ _ z (.inl ⟨_, rfl⟩)))
                · exact .inl (.inr ⟨ob, keep _ _ z (.inr ⟨_, _, rfl⟩)⟩)
                · exact .inr z
              · rw [upd_ne ndL, upd_same]
              · rw [upd_same, List.map_append, List.map_append]; rfl
          · rw [decide_eq_false hyp]
            refine iteF (iteF ?_)
            exact ⟨us', _, rfl, s3, hc3, ed3, eL3, bf3, ⟨nw, enw⟩, tkn us' (fun _ z => z) fun z => absurd z hyp⟩
        · obtain ⟨us', y7', rfl, s3, hc3, ed3, eL3, bf3, ⟨nw, enw⟩, tk⟩ := h
          rw [List.length_map, List.take_of_length_le (Nat.le_refl _)] at tk
          refine ⟨.int (at_ : Int), rfl, _, _, rfl, rfl, ⟨us', at_ + 1, _, _, rfl, s3, ed3, eL3, bf3, ?_, fun i v hi hv y hy e => ?_⟩, ?_⟩
          · rw [enw, List.length_append]; omega
          · by_cases ei : i = at_
            · subst ei
              rw [enw, List.getElem?_append_left hlt, gu] at hv
              cases hv
              exact tk y ((mem_behind hP).mpr e) hy
            · rw [enw, List.getElem?_append_left (by omega)] at hv
              have := dn i v (by omega) hv y hy e
              rw [enw, List.map_append]
              exact List.mem_append_left _ this
          · show 8 - ((at_ : Int) + 1).toNat < 8 - ((at_ : Int)).toNat
            have := bf.len
            omega
      · have hge : us.length ≤ at_ := by
          have z : ¬ ((at_ : Int) < (((us.map (·.1)).map V.int).length : Int)) := fun z => hge (decide_eq_true z)
          rw [List.length_map, List.length_map] at z; omega
        refine ⟨.ref d, rfl, q H2 d us s2 nd ed2 ?_⟩
        refine bf.offs kn l8 fun i u hu => ?_
        exact dn i u (by have := (List.getElem?_eq_some_iff.mp hu).1; omega) hu
    · intro σ H1 Q1 Q2 hq h
      obtain ⟨x, e1, y, e2, p, l, e3, e4, i, j, e5, e6, b, e7, h⟩ := h
      exact ⟨x, e1, y, e2, p, l, e3, e4, i, j, e5, e6, b, e7, hq _ _ h⟩
end
end K20
set_option maxHeartbeats 4000000
namespace K20
open PySem PySem.Spec PyProof.Rows L2 RV
section
variable {P : Program} {w : World} {K : PySem.W.Frag} {mg : Str → Option Value} {base : Heap}
/-! ### common_measure -/
theorem scMeasure : FnScope ["one", "other"] ["one", "other"] (defScope sMeasure) := ⟨rfl, rfl, rfl, by decide +kernel, rfl, by decide +kernel, by decide +kernel⟩
def spMeasure : Sp := fun vs H Q _ => ∃ a b : Nat, vs = [.int (a : Int), .int (b : Int)] ∧ Q (.int ((Nat.gcd a b : Nat) : Int)) H
def otherOf : L2.St → Nat
  | [_, some (.int b)] => b.toNat
  | _ => 0
theorem ok_measure {f : Addr} {fd : FuncData} (F : Fun K "common_measure" "common_measure" sMeasure f fd) : FnOk P w K mg base CX0 1 f fd ["one", "other"] spMeasure := by
  refine F.ok scMeasure (fun vs H Q E h => ?_) (fun cdv A outer s H vs Q E hr h => ?_)
  · obtain ⟨a, b, rfl, _⟩ := h
    rfl
  · obtain ⟨a, b, rfl, q⟩ := h
    refine ⟨_, pss_cons (ps_while PassesOwn.never (pt_cmpR op_gt (pv 1) pe_int (nomark _))
        (pss_one (ps_par (i := 0) (j := 1) (by rfl) scMeasure.nd rfl rfl (by decide) rfl rfl (pa_cons (pv 1) (pa_cons (pe_op op_mod (pv 0) (pv 1)) pa_nil)) (by rfl))))
      (pss_one (ps_ret (pv 0))), ?_⟩
    refine while_by (fun σ H' => ∃ c d : Nat, σ = [some (.int (c : Int)), some (.int (d : Int))] ∧ H' = H ∧ Nat.gcd c d = Nat.gcd a b) (fun σ _ => otherOf σ) ?_ ?_ ?_
    · exact ⟨a, b, rfl, rfl, rfl⟩
    · rintro σ H1 ⟨c, d, rfl, rfl, e⟩
      refine ⟨.int (d : Int), rfl, _, _, rfl, rfl, _, rfl, ite2 (fun h0 => ?_) (fun h0 => ?_)⟩
      · have h0 : (d : Int) > 0 := of_decide_eq_true h0
        refine ⟨.int (d : Int), rfl, .int (c : Int), rfl, .int (d : Int), rfl, _, _, rfl, rfl, h0, _, _, rfl, ⟨d, c % d, rfl, rfl, ?_⟩, ?_⟩
        · rw [← e, Nat.gcd_comm d (c % d), ← Nat.gcd_rec, Nat.gcd_comm]
        · show ((c : Int) % (d : Int)).toNat < ((d : Int)).toNat
          have := Int.emod_lt_of_pos (c : Int) h0
          have := Int.emod_nonneg (c : Int) (show (d : Int) ≠ 0 by omega)
          omega
      · have h0 : d = 0 := by
          have z : ¬ ((d : Int) > 0) := fun z => h0 (decide_eq_true z)
          omega
        subst h0
        rw [Nat.gcd_zero_right] at e
        refine ⟨.int (c : Int), rfl, ?_⟩
        rw [e]; exact q
    · intro σ H1 Q1 Q2 hq h
      obtain ⟨x, e1, i, j, e5, e6, b, e7, h⟩ := h
      exact ⟨x, e1, i, j, e5, e6, b, e7, hq _ _ h⟩
/-! ### period -/
theorem scPeriod : FnScope ["rule", "part", "marks", "off", "found", "a", "b"] ["rule", "part"] (defScope sPeriod) := ⟨rfl, rfl, rfl, by decide +kernel, rfl, by decide +kernel, by decide +kernel⟩
def spPeriod (K : PySem.W.Frag) (C : Addr) : Sp := fun vs H Q _ => ∃ (r : Addr) (k : Nat) (ns : List Int) (ps : List (List Int)) (p : List Int), vs = [.ref r, .int (k : Int)] ∧ RuleAt K C H r ns ps ∧ Mir ns ∧ Stp ns ps ∧ (partsOf ps ns.length)[k]? = some p ∧
  ∀ H', Same H H' → Per ps (hd0 p) (perN ps (hd0 p)) → Q (.int ((perN ps (hd0 p) : Nat) : Int)) H'
theorem abs_gap (a b : Nat) : (if ((a : Int) + 1 - (b : Int)) < 0 then -((a : Int) + 1 - (b : Int)) else ((a : Int) + 1 - (b : Int))) = ((gapO a b : Nat) : Int) := by
  unfold gapO
  split <;> omega
theorem ok_period {f C fP fO fM : Addr} {fd dP dO dM : FuncData} (F : Fun K "period" "period" sPeriod f fd) (T : Txt K mg C) (B : Bare mg) (DP : DefAt K mg "parts" sParts ["rule"] fP dP) (GP : FnOk P w K mg base CX0 3 fP dP ["rule"] (spParts K C))
    (DO : DefAt K mg "steps_off" sOff ["rule", "marks"] fO dO) (GO : FnOk P w K mg base CX0 2 fO dO ["rule", "marks"] (spOff K C)) (DM : DefAt K mg "common_measure" sMeasure ["one", "other"] fM dM) : FnOk P w K mg base CX0 4 f fd ["rule", "part"] (spPeriod K C) := by
  have GM : FnOk P w K mg base CX0 1 fM dM ["one", "other"] spMeasure := ok_measure DM.fn
  refine F.ok scPeriod (fun vs H Q E h => ?_) (fun cdv A outer s H vs Q E hr h => ?_)
  · obtain ⟨r, k, ns, ps, p, rfl, _⟩ := h
    rfl
  · obtain ⟨r, k, ns, ps, p, rfl, R, M, S, gk, q⟩ := h
    have hu := hu_of hr
    have hu5 := un65 hr
    have hr1 := hr.mono (show 1 ≤ 3 by decide)
    have hr2 := hr.mono (show 2 ≤ 3 by decide)
    refine ⟨_, pss_cons (ps_set (i := 2) scPeriod.nd rfl (Or.inl rfl) (pe_ix ix_tup (pe_call GP hr (by rfl) DP.mg DP.fn.kp DP.bi .nil pass0 (pa_cons (pv 0) pa_nil)) (pv 1) (fun _ _ => rfl)))
      (pss_cons (ps_set (i := 3) scPeriod.nd rfl (Or.inl rfl) (pe_call GO hr2 (by rfl) DO.mg DO.fn.kp DO.bi .nil pass0 (pa_cons (pv 0) (pa_cons (pv 2) pa_nil))))
      (pss_cons (ps_set (i := 4) scPeriod.nd rfl (Or.inl rfl) pe_int)
      (pss_cons (ps_for PassesOwn.never rfl (pi_tup (pe_fld (pv 0) rfl)) (pg_tup rfl (pgs_cons (pg_name (i := 5) scPeriod.nd rfl (Or.inl rfl)) (pgs_cons (pg_name (i := 6) scPeriod.nd rfl (Or.inl rfl)) pgs_nil)))
        (pss_one (ps_if (PW.pt (pw_and (pt_cmpR (op_inTI hu5) (pv 5) (pv 2) (by rfl)) (pw_and1 (pt_cmpR (op_inTI hu5) (pv 6) (pv 2) (by rfl)))))
          (pss_one (ps_set (i := 4) scPeriod.nd rfl (Or.inl rfl) (pe_call GM hr1 (by rfl) DM.mg DM.fn.kp DM.bi .nil pass0 (pa_cons (pv 4) (pa_cons (pe_callB call_abs (by rfl) B.abs (by decide +kernel) (pa_cons (pe_op op_sub (pe_op op_add (pe_dget hu (pv 3) (pv 5) (fun _ _ => rfl)) pe_int) (pe_dget hu (pv 3) (pv 6) (fun _ _ => rfl))) pa_nil)) pa_nil))))) pss_nil)))
      (pss_one (ps_ret (pv 4)))))), ?_⟩
    have h8 := M.few
    have hP : ∀ q ∈ ps, Pr (ns.length : Int) q := fun q hq => S.pair q hq
    have hp := List.mem_of_getElem? gk
    refine ⟨.ref r, rfl, r, ns, ps, rfl, R, M, S, fun H1 c s1 nc hC => ?_⟩
    obtain ⟨ks, ek, hc, hks⟩ := hC
    have gk' : (ks.map (·.2))[k]? = some p := by rw [ek]; exact gk
    obtain ⟨kk, g, ekk⟩ := map_at gk'
    have hT1 : SqT K H1 kk.1 (p.map V.int) := by rw [ekk]; exact (hks kk (List.mem_of_getElem? g)).sq
    refine ⟨.int (k : Int), rfl, c, _, _, .ref kk.1, rfl, rfl, tupNew hc, atI_nat (by rw [List.getElem?_map, g]; rfl), ?_⟩
    refine ⟨.ref r, rfl, .ref kk.1, rfl, r, kk.1, ns, ps, p, rfl, R.same s1, M, S, hp, hT1, fun H2 d us s2 nd ed O => ?_⟩
    have s02 := s1.trans s2
    obtain ⟨dx, a0, b0, t0, g1, g2, g3, g4⟩ := (R.same s02).ex
    obtain ⟨js, ej, hb, hjs⟩ := g3
    refine ⟨.ref r, rfl, r, C, dx, _, _, rfl, g1, T.cl, T.nS, flds_s _ _ _, b0, rfl, ⟨_, hb⟩, ?_⟩
    refine for_it (walk_tup (K := K) (a := b0) (xs := js.map fun p => V.ref p.1)) (fun i σ H' => ∃ (g : Nat) (y5 y6 : Option V), σ = [some (.ref r), some (.int (k : Int)), some (.ref kk.1), some (.ref d), some (.int (g : Int)), y5, y6] ∧ H' = H2 ∧ Gf ps p us (ps.take i) g)
      ⟨0, none, none, rfl, rfl, Gf.nil⟩ (fun i σ H' _ h => ?_) (fun i z σ H4 H3 hi h y => ?_) (fun σ H3 h => ?_)
    · obtain ⟨_, _, _, _, rfl, _⟩ := h
      exact hb
    · obtain ⟨g0, y5, y6, rfl, rfl, G⟩ := h
      obtain ⟨rfl, gz⟩ := y
      obtain ⟨j, gj, rfl⟩ := map_at gz
      have hj : j ∈ js := List.mem_of_getElem? gj
      have hjp : j.2 ∈ ps := by rw [← ej]; exact List.mem_map_of_mem hj
      obtain ⟨x, y, e, _⟩ := S.pair j.2 hjp
      have hjT : SqT K H3 j.1 ([x, y].map V.int) := by rw [← e]; exact hjs j hj
      have gi : ps[i]? = some [x, y] := by rw [← ej, List.getElem?_map, gj, ← e]; rfl
      have tk : ps.take (i + 1) = ps.take i ++ [[x, y]] := by rw [List.take_add_one, gi]; rfl
      have hTp := sqT_same s2 hT1
      refine ⟨j.1, _, rfl, hjT, rfl, _, _, rfl, _, _, rfl, rfl, ?_⟩
      refine ⟨.int x, rfl, .ref kk.1, rfl, kk.1, x, p, rfl, rfl, hTp, _, rfl, ?_⟩
      by_cases hx : x ∈ p
      · rw [decide_eq_true hx]
        refine iteT ⟨.int y, rfl, .ref kk.1, rfl, kk.1, y, p, rfl, rfl, hTp, _, rfl, ?_⟩
        by_cases hy : y ∈ p
        · rw [decide_eq_true hy]
          obtain ⟨a, ha, _, _⟩ := O.get hx
          obtain ⟨b, hb', _, _⟩ := O.get hy
          have ea := valO_at O.nd ha
          have eb := valO_at O.nd hb'
          refine iteT ⟨.int (g0 : Int), rfl, .ref d, rfl, .int x, rfl, d, _, rfl, (by rw [← ea]; exact DGet.k (k := Sum.inl x) ed), _, _, rfl, rfl, .ref d, rfl, .int y, rfl, d, _, rfl, (by rw [← eb]; exact DGet.k (k := Sum.inl y) ed), _, _, rfl, rfl, _, rfl, g0, gapO a b, ?_, ?_⟩
          · rw [abs_gap]; rfl
          · refine ⟨_, _, _, rfl, rfl, ?_⟩
            rw [tk]
            exact G.add O hx hy ha hb'
        · rw [decide_eq_false hy]
          refine iteF ⟨g0, _, _, rfl, rfl, ?_⟩
          rw [tk]
          exact G.skip fun z => hy z.2
      · rw [decide_eq_false hx]
        refine iteF (iteF ⟨g0, _, _, rfl, rfl, ?_⟩)
        rw [tk]
        exact G.skip fun z => hx z.1
    · obtain ⟨g0, y5, y6, rfl, rfl, G⟩ := h
      have ef : ps.take (js.map fun p => V.ref p.1).length = ps := by
        rw [List.length_map]
        have lj : js.length = ps.length := by rw [← ej, List.length_map]
        exact List.take_of_length_le (by omega)
      rw [ef] at G
      have per := G.per O (knot_of hP hp) hP h8 fun m hm => part_bd hp hm
      have e := per.is
      refine ⟨.int (g0 : Int), rfl, ?_⟩
      have z := q H3 s02 (by rw [e]; exact per)
      rw [e] at z
      exact z
end
end K20
set_option maxHeartbeats 4000000
namespace K20
open PySem PySem.Spec PyProof.Rows L2 RV
/-- the class of a mark -/
noncomputable def clsM (ps : List (List Int)) (n : Nat) (m : Int) : Nat := clsN ps (hd0 (lotOf ps n m)) (perN ps (hd0 (lotOf ps n m))) m
noncomputable def clsL (ps : List (List Int)) (n : Nat) (p : List Int) : List Int := p.map fun m => ((clsM ps n m : Nat) : Int)
theorem clsM_of {ps : List (List Int)} {n : Nat} {p : List Int} {m : Int} (hp : p ∈ partsOf ps n) (hm : m ∈ p) : clsM ps n m = clsN ps (hd0 p) (perN ps (hd0 p)) m := by
  unfold clsM
  rw [part_lot hp hm]
section
variable {P : Program} {w : World} {K : PySem.W.Frag} {mg : Str → Option Value} {base : Heap}
/-! ### classes -/
theorem scClasses : FnScope ["rule", "part", "marks", "off", "its_period", "mark"] ["rule", "part"] (defScope sClasses) := ⟨rfl, rfl, rfl, by decide +kernel, rfl, by decide +kernel, by decide +kernel⟩
def spClasses (K : PySem.W.Frag) (C : Addr) : Sp := fun vs H Q _ => ∃ (r : Addr) (k : Nat) (ns : List Int) (ps : List (List Int)) (p : List Int), vs = [.ref r, .int (k : Int)] ∧ RuleAt K C H r ns ps ∧ Mir ns ∧ Stp ns ps ∧ (partsOf ps ns.length)[k]? = some p ∧
  ∀ (H' : Hp) (c : Addr), Same H H' → H c = none → H' c = some (.tup ((clsL ps ns.length p).map V.int)) → Per ps (hd0 p) (perN ps (hd0 p)) → Q (.ref c) H'
theorem ok_classes {f C fP fO fM : Addr} {fd dP dO dM : FuncData} (F : Fun K "classes" "classes" sClasses f fd) (B : Bare mg) (DP : DefAt K mg "parts" sParts ["rule"] fP dP) (GP : FnOk P w K mg base CX0 3 fP dP ["rule"] (spParts K C))
    (DO : DefAt K mg "steps_off" sOff ["rule", "marks"] fO dO) (GO : FnOk P w K mg base CX0 2 fO dO ["rule", "marks"] (spOff K C)) (DM : DefAt K mg "period" sPeriod ["rule", "part"] fM dM) (GM : FnOk P w K mg base CX0 4 fM dM ["rule", "part"] (spPeriod K C)) : FnOk P w K mg base CX0 5 f fd ["rule", "part"] (spClasses K C) := by
  refine F.ok scClasses (fun vs H Q E h => ?_) (fun cdv A outer s H vs Q E hr h => ?_)
  · obtain ⟨r, k, ns, ps, p, rfl, _⟩ := h
    rfl
  · obtain ⟨r, k, ns, ps, p, rfl, R, M, S, gk, q⟩ := h
    have hu := hu_of hr
    have hr2 := hr.mono (show 2 ≤ 4 by decide)
    have hr3 := hr.mono (show 3 ≤ 4 by decide)
    refine ⟨_, pss_cons (ps_set (i := 2) scClasses.nd rfl (Or.inl rfl) (pe_ix ix_tup (pe_call GP hr3 (by rfl) DP.mg DP.fn.kp DP.bi .nil pass0 (pa_cons (pv 0) pa_nil)) (pv 1) (fun _ _ => rfl)))
      (pss_cons (ps_set (i := 3) scClasses.nd rfl (Or.inr rfl) (pe_call GO hr2 (by rfl) DO.mg DO.fn.kp DO.bi .nil pass0 (pa_cons (pv 0) (pa_cons (pv 2) pa_nil))))
      (pss_cons (ps_set (i := 4) scClasses.nd rfl (Or.inr rfl) (pe_call GM hr (by rfl) DM.mg DM.fn.kp DM.bi .nil pass0 (pa_cons (pv 0) (pa_cons (pv 1) pa_nil))))
      (pss_one (ps_ret (pe_tupleOf (by rfl) B.tuple
        (pe_lc (own := [("mark", 5)]) (g := gName 5) (tt := tYes) rfl scClasses.nd (pi_tup (pv 2)) (blkOk_by (N := ["rule", "part", "marks", "off", "its_period", "mark"]) (sc := defScope sClasses) (by decide +kernel))
          (fun _ _ _ _ _ => pg_name (i := 5) scClasses.nd rfl (Or.inl rfl)) (fun _ _ _ _ _ => pts_nil) (fun _ _ _ _ _ => pe_op op_mod (pe_dget hu (pv 3) (pv 5) (fun _ _ => rfl)) (pv 4)))))))), ?_⟩
    have h8 := M.few
    have hP : ∀ q ∈ ps, Pr (ns.length : Int) q := fun q hq => S.pair q hq
    have hp := List.mem_of_getElem? gk
    have kn := knot_of hP hp
    refine ⟨.ref r, rfl, r, ns, ps, rfl, R, M, S, fun H1 c s1 nc hC => ?_⟩
    obtain ⟨ks, ek, hc, hks⟩ := hC
    have gk' : (ks.map (·.2))[k]? = some p := by rw [ek]; exact gk
    obtain ⟨kk, g, ekk⟩ := map_at gk'
    have hT1 : SqT K H1 kk.1 (p.map V.int) := by rw [ekk]; exact (hks kk (List.mem_of_getElem? g)).sq
    refine ⟨.int (k : Int), rfl, c, _, _, .ref kk.1, rfl, rfl, tupNew hc, atI_nat (by rw [List.getElem?_map, g]; rfl), ?_⟩
    refine ⟨.ref r, rfl, .ref kk.1, rfl, r, kk.1, ns, ps, p, rfl, R.same s1, M, S, hp, hT1, fun H2 d us s2 nd ed O => ?_⟩
    have s02 := s1.trans s2
    refine ⟨.ref r, rfl, .int (k : Int), rfl, r, k, ns, ps, p, rfl, R.same s02, M, S, gk, fun H3 s3 per => ?_⟩
    obtain ⟨hx0, hl0⟩ := part_hd_in hp
    have hxl : hd0 p ∈ lotOf ps ns.length (hd0 p) := by rw [hl0]; exact hx0
    have pos : 0 < perN ps (hd0 p) := per.pos (lot_some hxl)
    have s03 := s02.trans s3
    have hT3 := sqT_same (s2.trans s3) hT1
    have ed3 := s3 _ _ ed
    have l8 := part_len8 h8 hp
    refine ⟨.ref kk.1, rfl, kk.1, rfl, ⟨_, hT3⟩, fun D nD => ?_⟩
    refine lc_tup (K := K) (a := kk.1) (xs := p.map V.int) (fun i H' => Same H3 H' ∧ H' D = some (.lst ((clsL ps ns.length (p.take i)).map V.int))) ⟨same_upd nD, by rw [upd_same]; rfl⟩ (fun i H' _ h => sqT_same h.1 hT3) (fun i x H' hx h => ?_) fun H4 h => ?_
    · obtain ⟨m, gm, rfl⟩ := map_at hx
      have hm := List.mem_of_getElem? gm
      obtain ⟨o, ho, wo, _⟩ := O.get hm
      have eo := valO_at O.nd ho
      refine ⟨rfl, tt_yes ⟨.ref d, rfl, .int m, rfl, d, _, rfl, (by rw [← eo]; exact DGet.k (k := Sum.inl m) (h.1 _ _ ed3)), .int ((perN ps (hd0 p) : Nat) : Int), rfl, _, _, rfl, rfl, (by show (0 : Int) < ((perN ps (hd0 p) : Nat) : Int); omega), _, h.2, ?_, fun b o' z => ?_, ?_⟩⟩
      · rw [List.length_map]
        unfold clsL
        rw [List.length_map, List.length_take]; exact few1 (by omega)
      · rw [upd_ne (ne_of_none z nD)]; exact h.1 b o' z
      · have ec : ((o : Int) % ((perN ps (hd0 p) : Nat) : Int)) = ((clsM ps ns.length m : Nat) : Int) := by
          rw [clsM_of hp hm, ← per.cls wo (kn.back m hm)]
          exact (Int.natCast_emod _ _).symm
        rw [upd_same, List.take_add_one, gm]
        unfold clsL
        rw [List.map_append, List.map_append]
        show some (HO.lst (_ ++ [V.int ((o : Int) % ((perN ps (hd0 p) : Nat) : Int))])) = some (HO.lst (_ ++ [V.int ((clsM ps ns.length m : Nat) : Int)]))
        rw [ec]
    · rw [List.length_map, List.take_of_length_le (Nat.le_refl _)] at h
      refine .inl ⟨D, _, rfl, lstNew h.2, fun c2 nc2 => ?_⟩
      have s4 := s03.trans h.1
      exact q _ c2 (s4.trans (same_upd nc2)) (s4.free nc2) upd_same per
/-! ### class_of -/
def spClassOf (K : PySem.W.Frag) (C : Addr) : Sp := fun vs H Q _ => ∃ (r : Addr) (m : Int) (ns : List Int) (ps : List (List Int)), vs = [.ref r, .int m] ∧ RuleAt K C H r ns ps ∧ Mir ns ∧ Stp ns ps ∧ (0 ≤ m ∧ m < (ns.length : Int)) ∧ Rch ps m m ∧
  ∀ H', Same H H' → Q (.int ((clsM ps ns.length m : Nat) : Int)) H'
/-! ### turning -/
noncomputable def turnN (ns : List Int) (ps : List (List Int)) (p : List Int) : Int := ((clsM ps ns.length (hd0 p) : Nat) + (clsM ps ns.length (ns.getD (hd0 p).toNat 0) : Nat) : Int) % ((perN ps (hd0 p) : Nat) : Int)
def spTurning (K : PySem.W.Frag) (C : Addr) : Sp := fun vs H Q _ => ∃ (r : Addr) (k : Nat) (ns : List Int) (ps : List (List Int)) (p : List Int), vs = [.ref r, .int (k : Int)] ∧ RuleAt K C H r ns ps ∧ Mir ns ∧ Stp ns ps ∧ (partsOf ps ns.length)[k]? = some p ∧
  ∀ H', Same H H' → Q (.int (turnN ns ps p)) H'
end
end K20
set_option maxHeartbeats 4000000
/-! {elt for a in x for b in y}: ints, two clauses, no tests -/
namespace RV
open PySem PySem.Spec PyProof.Rows L2
/-- two clauses, no tests -/
abbrev sc2 (el ta ia tb ib : Expr) (sco : Scope) (p : Pos) : Expr := .SetComp el [⟨ta, ia, [], 0⟩, ⟨tb, ib, [], 0⟩] sco p
/-- the code of a comprehension's turn: store what comes, then body -/
def turnOf (p : Pos) (tg : Expr) (it : Value) (env : Env) (rest : Sem Fin) : Sem Fin := standAt p >>= fun _ => pyNext it >>= fun r => match r with
  | none => pure (.done .next)
  | some v => letOwnedTupleGo tg it v >>= fun _ => assign tg env v >>= fun _ => rest
/-- a loop of a comprehension's block whose turns are of that form -/
theorem walk {Y : Cx} {el ta ia t1 ib tg : Expr} {sco : Scope} {pp : Pos} {d : Nat} {it : Addr} {acc : Value} {p : Pos} {rest : Sem Fin} {fp : List Addr} {tn : Nat → Heap → Prop} {J : It} {pins : List (Addr × Obj)} {σ0 : L2.St} {H0 : Hp} {s0 : Shared} {g : TG} {tb : L2.St → Hp → (Hp → Prop) → Prop} {R : Result → Shared → Prop}
    (hc : Y.calm = true) (T : Turn Y.prog Y.w Y.K tg J fp it tn) (form : compTurn (sc2 el ta ia t1 ib sco pp) d (.ref it) acc Y.env = turnOf p tg (.ref it) Y.env rest)
    (fpok : ∀ {H s}, Inv Y pins σ0 H s → (∀ b ∈ fp, H b = none) → ∀ b ∈ fp, FpOk Y pins H b) (pg : PG Y tg g) (noerr : ∀ e s, Y.xe e s → False)
    (hb : ∀ (pins' : List (Addr × Obj)) (σ2 : L2.St) (H2 : Hp) (s2 : Shared) (Nx : Hp → Prop), Inv Y pins' σ2 H2 s2 → tb σ2 H2 Nx → wpAny (model Y.prog Y.w) Y.A rest (fun fin s3 => fin = .again (.compLoop (sc2 el ta ia t1 ib sco pp) d (.ref it) acc Y.env) ∧ ∃ H3, Inv Y pins' σ0 H3 s3 ∧ Nx H3) (fun _ _ => False) s2)
    (W : Nat → Nat → Hp → Prop) {m0 : Nat} (I0 : Inv Y pins σ0 H0 s0) (t0 : tn 0 s0.heap) (n0 : ∀ b ∈ fp, H0 b = none) (w0 : W 0 m0 H0)
    (turn : ∀ i m H, W i m H → (J.stop i H ∧ ∀ s, Inv Y pins σ0 H s → R (.ok .next) s) ∨ (J.go i H ∧ ∃ Nx : Hp → Prop, (∀ H', Nx H' → ∃ m', m' < m ∧ W (i + 1) m' H') ∧ ∀ x H', J.yld i H x H' → g x σ0 H' fun σ2 H2 => tb σ2 H2 Nx)) :
    codeAny (model Y.prog Y.w) Y.A (.compLoop (sc2 el ta ia t1 ib sco pp) d (.ref it) acc Y.env) R s0 := by
  refine codeAny_loop rfl (fun n s => ∃ i H, Inv Y pins σ0 H s ∧ tn i s.heap ∧ (∀ b ∈ fp, H b = none) ∧ W i n H) (fun n s h => ?_) m0 ⟨0, H0, I0, t0, n0, w0⟩
  obtain ⟨i, H, I, st, nf, hw⟩ := h
  show wpAny (model Y.prog Y.w) Y.A ((compTurn (sc2 el ta ia t1 ib sco pp) d (.ref it) acc Y.env).onRaise fun x => do noteFrame x Y.env; theTreesLotGoes x) _ _ s
  refine wpAny_noted ?_
  rw [form]
  refine wpAny_bind (wpAny_standAt (wpAny_bind ?_))
  rcases turn i n H hw with ⟨stop, fin⟩ | ⟨go, Nx, hNx, step⟩
  · refine thnF (T.done Y rfl rfl rfl hc i pins s σ0 H (fun _ _ => False) I (fpok I nf) st stop) fun r s1 ⟨hr, I1⟩ => ?_
    subst hr
    exact wpAny_pure (fin s1 I1)
  · refine thnF (T.item Y rfl rfl rfl hc i pins s σ0 H (fun _ _ => False) I (fpok I nf) st go) fun r s1 ⟨u, hr, h1⟩ => ?_
    subst hr
    refine wpAny_bind (thnF h1 fun _ s2 ⟨x, H2, I2, rx, yx, st2, nf2⟩ => ?_)
    have J2 := I2.pinned (fpok I2 nf2) (T.obj _ _ st2)
    refine wpAny_bind (wpAny_mono (pg.run _ s2 σ0 H2 x u _ J2 rx (step x H2 yx)) (fun _ s3 h3 => ?_) fun e s' z => (noerr e s' z).elim)
    obtain ⟨σ3, H3, I3, b3⟩ := h3
    refine thnF (hb _ σ3 H3 s3 Nx I3 b3) fun fin s4 ⟨ef, H4, I4, nx⟩ => ?_
    subst ef
    refine ⟨rfl, ?_⟩
    obtain ⟨m', lt, w'⟩ := hNx H4 nx
    have held : ∀ b ∈ fp, ∀ o, s2.heap.get? b = some o → s4.heap.get? b = some o ∧ H4 b = none := fun b hb' o e => by
      have z := I4.pin (b, o) (List.mem_append_right _ (List.mem_append_right _ (mem_pinsAt hb' e)))
      exact ⟨z.1, z.2.1⟩
    refine ⟨m', lt, i + 1, H4, I4.unpinned, T.keep _ _ _ st2 fun b hb' o e => (held b hb' o e).1, fun b hb' => ?_, w'⟩
    obtain ⟨o, e, _⟩ := T.obj _ _ st2 b hb'
    exact (held b hb' o e).2
/-- a clause's start goes to its loop -/
theorem start_of {P : Program} {w : World} {A : Around} {env : Env} {R : Result → Shared → Prop} {s : Shared} {el ta ia t1 ib : Expr} {sco : Scope} {pp : Pos} {d : Nat} {it acc : Value} (hd : d < 2) (self : ∀ (Q : Value → Shared → Prop) (E : Value → Shared → Prop), Q it s → wpAny (model P w) A (pyIter it) Q E s)
    (h : codeAny (model P w) A (.compLoop (sc2 el ta ia t1 ib sco pp) d it acc env) R s) : codeAny (model P w) A (.compStart (sc2 el ta ia t1 ib sco pp) d it acc env) R s := by
  refine codeAny_of_tree ?_
  show wpAny (model P w) A ((compStart (sc2 el ta ia t1 ib sco pp) d it acc env).onRaise fun x => do noteFrame x env; standAt theWindowsPlace) _ _ s
  refine wpAny_notedAt ?_
  have go : ∀ q : Pos, wpAny (model P w) A (standAt q >>= fun _ => pyIter it >>= fun j => again (.compLoop (sc2 el ta ia t1 ib sco pp) d j acc env)) (fun fin s' => match fin with | .done f => R (.ok f) s' | .again c' => c'.quiet = true ∧ codeAny (model P w) A c' R s') (notedBy (model P w) A env fun e s' => R (.error e) s') s := fun q =>
    wpAny_bind (wpAny_standAt (wpAny_bind (self _ _ (wpAny_pure ⟨rfl, h⟩))))
  have now : wpAny (model P w) A (again (.compLoop (sc2 el ta ia t1 ib sco pp) d it acc env)) (fun fin s' => match fin with | .done f => R (.ok f) s' | .again c' => c'.quiet = true ∧ codeAny (model P w) A c' R s') (notedBy (model P w) A env fun e s' => R (.error e) s') s := wpAny_pure ⟨rfl, h⟩
  obtain rfl | rfl : d = 0 ∨ d = 1 := by omega
  all_goals
    unfold compStart
    show wpAny (model P w) A (ask >>= _) _ _ s
    refine wpAny_bind (wpAny_askSetting (wpAny_ite ?_))
    split
    · exact wpAny_bind (wpAny_pure now)
    · exact wpAny_bind (wpAny_rule (go _))
section
variable {el ta ia t1 ib : Expr} {sco : Scope} {pp : Pos}
theorem form0 (it acc : Value) (env : Env) : compTurn (sc2 el ta ia t1 ib sco pp) 0 it acc env = turnOf ia.pos ta it env
    (eval ib env >>= fun x => standAt ib.pos >>= fun _ => foldedSetIterable ib env x >>= fun x => holding [x] (pyIter x) >>= fun j => runOwn (.compStart (sc2 el ta ia t1 ib sco pp) 1 j acc env) env >>= fun _ => again (.compLoop (sc2 el ta ia t1 ib sco pp) 0 it acc env)) := by rfl
theorem form1 (it acc : Value) (env : Env) : compTurn (sc2 el ta ia t1 ib sco pp) 1 it acc env = turnOf ib.pos t1 it env
    ((eval el env >>= fun v => standAt el.pos >>= fun _ => call (.builtin "set.add") [acc, v] >>= fun _ => pure ()) >>= fun _ => again (.compLoop (sc2 el ta ia t1 ib sco pp) 1 it acc env)) := by rfl
end
/-- what the inner loop must do, from what the outer one stored -/
def tInner (w : World) (D : Addr) (wi1 : TI) (g1 : TG) (te : TE) (vs1 : List Nat) : L2.St → Hp → (Hp → Prop) → Prop := fun σ2 H2 Nx => wi1 σ2 H2 fun J1 H4 => ∃ W1 : Nat → Nat → Hp → Prop, (∃ m, W1 0 m H4) ∧ ∀ j k H, W1 j k H →
  (J1.stop j H ∧ Nx H) ∨ (J1.go j H ∧ ∃ Nx1 : Hp → Prop, (∀ H', Nx1 H' → ∃ k', k' < k ∧ W1 (j + 1) k' H') ∧ ∀ x H', J1.yld j H x H' → g1 x (wipe σ2 vs1) H' fun σ3 H5 => wipe σ3 vs1 = wipe σ2 vs1 ∧
    te σ3 H5 fun y H7 => ∃ (c : Int) (S : Int → Bool) (n : Nat), y = .int c ∧ H7 D = some (SetO w D S n) ∧ n + 1 < scanBound ∧ Nx1 (upd H7 D (SetO w D (fun j => S j || decide (j = c)) (if S c = true then n else n + 1))))
/-- {el for ta in ia for t1 in ib}: D the new set, vs the block's names, vs1 those of the second target -/
def tS2 (w : World) (wi : TI) (g : TG) (wi1 : TI) (g1 : TG) (te : TE) (vs vs1 : List Nat) : TE := fun σ H Q => wi σ H fun J H1 => ∀ D, H1 D = none → ∃ W : Nat → Nat → Hp → Prop, (∃ m, W 0 m (upd H1 D (SetO w D (fun _ => false) 0))) ∧ ∀ i m H, W i m H →
  (J.stop i H ∧ Q (.ref D) H) ∨ (J.go i H ∧ ∃ Nx : Hp → Prop, (∀ H', Nx H' → ∃ m', m' < m ∧ W (i + 1) m' H') ∧ ∀ x H', J.yld i H x H' → g x (wipe σ vs) H' fun σ2 H2 => wipe σ2 vs = wipe σ vs ∧ tInner w D wi1 g1 te vs1 σ2 H2 Nx)
theorem wipe_keep {σ : L2.St} {j : Nat} : ∀ {vs : List Nat}, j ∉ vs → (wipe σ vs)[j]? = σ[j]?
  | [], _ => rfl
  | v :: vs, h => by
    have h1 := List.ne_of_not_mem_cons h
    show ((wipe σ vs).set v none)[j]? = _
    rw [List.getElem?_set_ne (Ne.symm h1), wipe_keep (List.not_mem_of_not_mem_cons h)]
section
variable {Y : Cx} {el ta ia t1 ib : Expr} {sco : Scope} {pp : Pos} {D : Addr} {wi1 : TI} {g1 : TG} {te : TE} {vs vs1 : List Nat} {σ0 : L2.St}
/-- the outer loop's body -/
theorem inner {o : Addr} (hc : Y.calm = true) (noerr : ∀ e s, Y.xe e s → False) (hv : ∀ i ∈ vs1, i ∈ vs) (hs : ∀ x, foldedSetIterable ib Y.env x = pure x) (p1 : PI Y t1 ib wi1) (pg1 : PG Y t1 g1) (pe : PE Y el te)
    (pins : List (Addr × Obj)) (σ2 : L2.St) (H2 : Hp) (s2 : Shared) (Nx : Hp → Prop) (I2 : Inv Y pins σ2 H2 s2) (h : wipe σ2 vs = σ0 ∧ tInner Y.w D wi1 g1 te vs1 σ2 H2 Nx) :
    wpAny (model Y.prog Y.w) Y.A (eval ib Y.env >>= fun x => standAt ib.pos >>= fun _ => foldedSetIterable ib Y.env x >>= fun x => holding [x] (pyIter x) >>= fun j => runOwn (.compStart (sc2 el ta ia t1 ib sco pp) 1 j (.ref D) Y.env) Y.env >>= fun _ => again (.compLoop (sc2 el ta ia t1 ib sco pp) 0 (.ref o) (.ref D) Y.env))
      (fun fin s3 => fin = .again (.compLoop (sc2 el ta ia t1 ib sco pp) 0 (.ref o) (.ref D) Y.env) ∧ ∃ H3, Inv Y pins σ0 H3 s3 ∧ Nx H3) (fun _ _ => False) s2 := by
  obtain ⟨hw, h⟩ := h
  refine wpAny_bind (wpAny_mono (p1.run pins s2 σ2 H2 _ I2 h) (fun x s3 hx => ?_) fun e s z => (noerr e s z).elim)
  refine wpAny_bind (wpAny_standAt (wpAny_bind (wpAny_of_eq (hs x) (wpAny_bind (wpAny_holding (wpAny_mono hx (fun j s4 h4 => ?_) fun e s z => (noerr e s z).elim))))))
  obtain ⟨it, fp, tn, J1, H4, e, I4, T, st4, f4, W1, ⟨m1, w1⟩, turn1⟩ := h4
  subst e
  have back : ∀ {H s}, Inv Y pins (wipe σ2 vs1) H s → Inv Y pins σ0 H s := fun I => by
    subst hw
    refine I.weak (by rw [wipe_length, wipe_length]) fun i v e => ?_
    obtain ⟨e1, e2⟩ := wipe_some e
    rw [wipe_keep fun z => e2 (hv i z)]; exact e1
  refine wpAny_bind (wpAny_runOwn ?_)
  rw [Around.mark_none]
  have loop := walk (tb := fun σ3 H5 Nx1 => wipe σ3 vs1 = wipe σ2 vs1 ∧ te σ3 H5 fun y H7 => ∃ (c : Int) (S : Int → Bool) (n : Nat), y = .int c ∧ H7 D = some (SetO Y.w D S n) ∧ n + 1 < scanBound ∧ Nx1 (upd H7 D (SetO Y.w D (fun j => S j || decide (j = c)) (if S c = true then n else n + 1))))
    (R := fun r s' => match r with | .ok _ => ∃ H3, Inv Y pins σ0 H3 s' ∧ Nx H3 | .error _ => False) hc T (form1 (el := el) (ta := ta) (ia := ia) (t1 := t1) (ib := ib) (sco := sco) (pp := pp) (.ref it) (.ref D) Y.env)
    (fun {H s} _ hn b hb => ⟨hn b hb, (f4 b hb).2⟩) pg1 noerr
    (fun pins' σ3 H5 s5 Nx1 I5 ⟨hw5, h5⟩ => by
      refine wpAny_bind (wpAny_bind (wpAny_mono (pe.run pins' s5 σ3 H5 _ I5 h5) (fun z s6 h6 => ?_) fun e s z => (noerr e s z).elim))
      obtain ⟨y, H7, I7, r7, c, S, n, ey, hD, room, nx⟩ := h6
      subst ey
      refine wpAny_bind (wpAny_standAt (wpAny_bind ?_))
      refine wpAny_mono (mt_sadd pins' s6 σ3 H7 (.ref D) [.int c] (.ref D) [z] (fun _ H' => Nx1 H') I7 rfl (.cons r7 .nil) ⟨D, c, S, n, rfl, rfl, hD, room, nx⟩) (fun _ s8 h8 => ?_) fun e s z => (noerr e s z).elim
      obtain ⟨y8, H8, I8, _, q8⟩ := h8
      exact wpAny_pure (wpAny_pure ⟨rfl, H8, I8.weak (by rw [← hw5, wipe_length]) fun i v e => by rw [← hw5] at e; exact (wipe_some e).1, q8⟩))
    W1 (I4.weak (wipe_length _ _) fun i v e => (wipe_some e).1) st4 (fun b hb => (f4 b hb).1) w1
    (fun j k H hW => by
      rcases turn1 j k H hW with ⟨stop, nx⟩ | ⟨go, Nx1, hN1, step⟩
      · exact .inl ⟨stop, fun s I => ⟨H, back I, nx⟩⟩
      · exact .inr ⟨go, Nx1, hN1, step⟩)
  refine codeAny_mono (start_of (by decide) (fun Q E q => T.self _ 0 _ _ _ st4 q) loop) fun r s' hr => ?_
  cases r with
  | ok f => exact wpAny_pure ⟨rfl, hr⟩
  | error e => exact hr.elim
end
section
variable {X : Cx}
abbrev blkEnv (X : Cx) (sco : Scope) (s : Shared) : Env := compEnvC sco (cellsFrom (s.heap.objs.size + 1) sco.names (cloFrom X.env.cells sco.names [])) s.heap.objs.size X.env
theorem block {el ta ia t1 ib : Expr} {sco : Scope} {own : List (PySem.Str × Nat)} {vs1 : List Nat} {pp : Pos} {wi1 : TI} {g g1 : TG} {te : TE} {pins : List (Addr × Obj)} {σ : L2.St} {H : Hp} {s : Shared} {it D : Addr} {fp : List Addr} {tn : Nat → Heap → Prop} {J : It} {Q : VK} {W : Nat → Nat → Hp → Prop} {m0 : Nat} {Z : Result → Shared → Prop}
    (hc : X.calm = true) (hN : X.N.Nodup) (ok : BlkOk X.N X.env.scope sco own) (hv : ∀ i ∈ vs1, i ∈ own.map (·.2)) (hs1 : ∀ env x, foldedSetIterable ib env x = pure x)
    (pg : PG (X.blk s H sco (blkEnv X sco s) fp) ta g) (p1 : PI (X.blk s H sco (blkEnv X sco s) fp) t1 ib wi1) (pg1 : PG (X.blk s H sco (blkEnv X sco s) fp) t1 g1) (pe : PE (X.blk s H sco (blkEnv X sco s) fp) el te)
    (I : Inv X pins σ H s) (T : Turn X.prog X.w X.K ta J fp it tn) (st : tn 0 s.heap) (hf : ∀ b ∈ fp, FpOk X pins H b ∧ b < s.heap.objs.size) (w0 : W 0 m0 H)
    (turn : ∀ i m H, W i m H → (J.stop i H ∧ Q (.ref D) H) ∨ (J.go i H ∧ ∃ Nx : Hp → Prop, (∀ H', Nx H' → ∃ m', m' < m ∧ W (i + 1) m' H') ∧ ∀ x H', J.yld i H x H' → g x (wipe σ (own.map (·.2))) H' fun σ2 H2 => wipe σ2 (own.map (·.2)) = wipe σ (own.map (·.2)) ∧ tInner X.w D wi1 g1 te vs1 σ2 H2 Nx))
    (fin : ∀ s' H' m, Inv X pins σ H' s' → Q (.ref D) H' → s'.heap.Ns s.heap.objs.size m → FpOk X pins H' s.heap.objs.size → Z (.ok .next) s') :
    codeAny (model X.prog X.w) X.A (.compStart (sc2 el ta ia t1 ib sco pp) 0 (.ref it) (.ref D) (blkEnv X sco s)) Z { s with heap := pushCells (s.heap.push { cls := .type "dict", data := .dict #[] }) sco.names } := by
  have I4 := block_start I ok hN hf
  have st4 : tn 0 (pushCells (s.heap.push { cls := .type "dict", data := .dict #[] }) sco.names) := T.keep _ _ _ st fun b _ o e => pushCells_keeps _ _ _ _ (Heap.get?_push_of_some _ e)
  refine start_of (by decide) (fun Q' E q => T.self _ 0 _ _ _ st4 q) ?_
  refine walk (Y := X.blk s H sco (blkEnv X sco s) fp) (tb := fun σ2 H2 Nx => wipe σ2 (own.map (·.2)) = wipe σ (own.map (·.2)) ∧ tInner X.w D wi1 g1 te vs1 σ2 H2 Nx) hc T (form0 (.ref it) (.ref D) (blkEnv X sco s))
    (fun {H' s'} I' hn b hb => ⟨hn b hb, (I'.ok.exf b hb).1, I'.ok.exfs b hb, .inl hb, fun x c e => (I'.ok.exf b hb).2 x c e, fun p hp => nomatch (show p ∈ ([] : List (Addr × Obj)) from hp)⟩) pg (fun _ _ z => z)
    (fun pins' σ2 H2 s2 Nx I2 h2 => inner (Y := X.blk s H sco (blkEnv X sco s) fp) (vs := own.map (·.2)) hc (fun _ _ z => z) hv (hs1 _) p1 pg1 pe pins' σ2 H2 s2 Nx I2 h2) W I4 st4 (fun b hb => (hf b hb).1.1) w0 (fun i m H' hW => ?_)
  rcases turn i m H' hW with ⟨stop, qq⟩ | z
  · refine .inl ⟨stop, fun s6 I6 => ?_⟩
    obtain ⟨m', hn, _⟩ := I6.loc
    exact fin s6 H' m' (I.call' (ch := fp) I6.os I6.base I6.hok I6.bare fun b hb => (hf b hb).1.2.2.2.1 |> fun z => ⟨z, (hf b hb).1.2.1, (hf b hb).1.2.2.2.2.1, (hf b hb).1.2.2.2.2.2⟩) qq hn (I.fpOk (Nat.le_refl _) I6.free)
  · exact .inr z
theorem pe_sc2 {el ta ia t1 ib : Expr} {sco : Scope} {own : List (PySem.Str × Nat)} {vs1 : List Nat} {pp : Pos} {wi wi1 : TI} {g g1 : TG} {te : TE} (hc : X.calm = true) (hN : X.N.Nodup) (hi : PI X ta ia wi) (ok : BlkOk X.N X.env.scope sco own) (hv : ∀ i ∈ vs1, i ∈ own.map (·.2))
    (hg : ∀ s H C cl fp, PG (X.blk s H sco (compEnvC sco cl C X.env) fp) ta g) (hi1 : ∀ s H C cl fp, PI (X.blk s H sco (compEnvC sco cl C X.env) fp) t1 ib wi1) (hg1 : ∀ s H C cl fp, PG (X.blk s H sco (compEnvC sco cl C X.env) fp) t1 g1)
    (he : ∀ s H C cl fp, PE (X.blk s H sco (compEnvC sco cl C X.env) fp) el te) (hs : ∀ x, foldedSetIterable ia X.env x = pure x := by intro _; rfl) (hs1 : ∀ env x, foldedSetIterable ib env x = pure x := by intro _ _; rfl) :
    PE X (.SetComp el [⟨ta, ia, [], 0⟩, ⟨t1, ib, [], 0⟩] sco pp) (tS2 X.w wi g wi1 g1 te (own.map (·.2)) vs1) := by
  refine ⟨fun pins s σ H Q I h => ?_⟩
  rw [PpSet.eval_SetComp]
  have known : ∀ y ∈ sco.names, y.2 = .free → ∃ c, X.env.cells.lookup y.1 = some c := fun y hy e => I.ok.has _ (ok.free y hy e)
  refine wpAny_comprehension_free (use := none) rfl hs (closure_ok known) ok.kind (fun y hy e => by rw [ok.uniq y hy, e]) (thn (hi.run pins s σ H _ I h) fun _ _ hx => thn hx fun iv s2 h2 => ?_)
  obtain ⟨it, fp, tn, J, H2, e, I2, T, st2, f2, q⟩ := h2
  subst e
  refine PpSet.newSet_ok (newEnv_comp ?_)
  have nD : H2 s2.heap.objs.size = none := I2.hok.fresh (Nat.le_refl _)
  obtain ⟨W, ⟨m0, w0⟩, turn⟩ := q _ nD
  have I3 := I2.laid (t' := s2.toks) (o := SetO X.w s2.heap.objs.size (fun _ => false) 0) (fun b o e => Heap.get?_push_of_some { cls := .type "set", dict := none, data := .set #[] 0 (.fresh 0 0 (!X.w.params.followText "set-order")) } e) (Nat.le_refl _) (setO_new (setR_fresh X.w))
  have young : ∀ b ∈ fp, b < s2.heap.objs.size := fun b hb => (T.obj _ _ st2 b hb).elim fun o e => Heap.lt_size e.1
  exact block hc hN ok hv hs1 (hg _ _ _ _ _) (hi1 _ _ _ _ _) (hg1 _ _ _ _ _) (he _ _ _ _ _) I3 T (T.keep _ _ _ st2 fun b _ o e => Heap.get?_push_of_some _ e)
    (fun b hb => ⟨⟨by rw [upd_ne (Nat.ne_of_lt (young b hb))]; exact (f2 b hb).1, (f2 b hb).2⟩, by show b < (Heap.push _ _).objs.size; rw [Heap.size_push]; exact Nat.lt_succ_of_lt (young b hb)⟩) w0 turn
    fun s' H' m I' qq hn ⟨f0, f1, _, f3, f4, f5⟩ => ⟨m, hn, fun h'' sb => ⟨.ref s2.heap.objs.size, H', I'.turned (t' := s'.toks) (fun b o hb e => (sb.2 b hb).trans e) f0 f1 f3 f4 f5, rfl, qq⟩⟩
end
end RV
set_option maxHeartbeats 4000000
/-! {elt for a in x for b in y if ..}: ints, two clauses, tests on the second -/
namespace RV
open PySem PySem.Spec PyProof.Rows L2
/-- two clauses, tests on the second -/
abbrev scT (el ta ia tb ib : Expr) (cs : List Expr) (sco : Scope) (p : Pos) : Expr := .SetComp el [⟨ta, ia, [], 0⟩, ⟨tb, ib, cs, 0⟩] sco p
/-- a loop of a comprehension's block whose turns are of that form -/
theorem walkT {Y : Cx} {el ta ia t1 ib tg : Expr} {cs : List Expr} {sco : Scope} {pp : Pos} {d : Nat} {it : Addr} {acc : Value} {p : Pos} {rest : Sem Fin} {fp : List Addr} {tn : Nat → Heap → Prop} {J : It} {pins : List (Addr × Obj)} {σ0 : L2.St} {H0 : Hp} {s0 : Shared} {g : TG} {tb : L2.St → Hp → (Hp → Prop) → Prop} {R : Result → Shared → Prop}
    (hc : Y.calm = true) (T : Turn Y.prog Y.w Y.K tg J fp it tn) (form : compTurn (scT el ta ia t1 ib cs sco pp) d (.ref it) acc Y.env = turnOf p tg (.ref it) Y.env rest)
    (fpok : ∀ {H s}, Inv Y pins σ0 H s → (∀ b ∈ fp, H b = none) → ∀ b ∈ fp, FpOk Y pins H b) (pg : PG Y tg g) (noerr : ∀ e s, Y.xe e s → False)
    (hb : ∀ (pins' : List (Addr × Obj)) (σ2 : L2.St) (H2 : Hp) (s2 : Shared) (Nx : Hp → Prop), Inv Y pins' σ2 H2 s2 → tb σ2 H2 Nx → wpAny (model Y.prog Y.w) Y.A rest (fun fin s3 => fin = .again (.compLoop (scT el ta ia t1 ib cs sco pp) d (.ref it) acc Y.env) ∧ ∃ H3, Inv Y pins' σ0 H3 s3 ∧ Nx H3) (fun _ _ => False) s2)
    (W : Nat → Nat → Hp → Prop) {m0 : Nat} (I0 : Inv Y pins σ0 H0 s0) (t0 : tn 0 s0.heap) (n0 : ∀ b ∈ fp, H0 b = none) (w0 : W 0 m0 H0)
    (turn : ∀ i m H, W i m H → (J.stop i H ∧ ∀ s, Inv Y pins σ0 H s → R (.ok .next) s) ∨ (J.go i H ∧ ∃ Nx : Hp → Prop, (∀ H', Nx H' → ∃ m', m' < m ∧ W (i + 1) m' H') ∧ ∀ x H', J.yld i H x H' → g x σ0 H' fun σ2 H2 => tb σ2 H2 Nx)) :
    codeAny (model Y.prog Y.w) Y.A (.compLoop (scT el ta ia t1 ib cs sco pp) d (.ref it) acc Y.env) R s0 := by
  refine codeAny_loop rfl (fun n s => ∃ i H, Inv Y pins σ0 H s ∧ tn i s.heap ∧ (∀ b ∈ fp, H b = none) ∧ W i n H) (fun n s h => ?_) m0 ⟨0, H0, I0, t0, n0, w0⟩
  obtain ⟨i, H, I, st, nf, hw⟩ := h
  show wpAny (model Y.prog Y.w) Y.A ((compTurn (scT el ta ia t1 ib cs sco pp) d (.ref it) acc Y.env).onRaise fun x => do noteFrame x Y.env; theTreesLotGoes x) _ _ s
  refine wpAny_noted ?_
  rw [form]
  refine wpAny_bind (wpAny_standAt (wpAny_bind ?_))
  rcases turn i n H hw with ⟨stop, fin⟩ | ⟨go, Nx, hNx, step⟩
  · refine thnF (T.done Y rfl rfl rfl hc i pins s σ0 H (fun _ _ => False) I (fpok I nf) st stop) fun r s1 ⟨hr, I1⟩ => ?_
    subst hr
    exact wpAny_pure (fin s1 I1)
  · refine thnF (T.item Y rfl rfl rfl hc i pins s σ0 H (fun _ _ => False) I (fpok I nf) st go) fun r s1 ⟨u, hr, h1⟩ => ?_
    subst hr
    refine wpAny_bind (thnF h1 fun _ s2 ⟨x, H2, I2, rx, yx, st2, nf2⟩ => ?_)
    have J2 := I2.pinned (fpok I2 nf2) (T.obj _ _ st2)
    refine wpAny_bind (wpAny_mono (pg.run _ s2 σ0 H2 x u _ J2 rx (step x H2 yx)) (fun _ s3 h3 => ?_) fun e s' z => (noerr e s' z).elim)
    obtain ⟨σ3, H3, I3, b3⟩ := h3
    refine thnF (hb _ σ3 H3 s3 Nx I3 b3) fun fin s4 ⟨ef, H4, I4, nx⟩ => ?_
    subst ef
    refine ⟨rfl, ?_⟩
    obtain ⟨m', lt, w'⟩ := hNx H4 nx
    have held : ∀ b ∈ fp, ∀ o, s2.heap.get? b = some o → s4.heap.get? b = some o ∧ H4 b = none := fun b hb' o e => by
      have z := I4.pin (b, o) (List.mem_append_right _ (List.mem_append_right _ (mem_pinsAt hb' e)))
      exact ⟨z.1, z.2.1⟩
    refine ⟨m', lt, i + 1, H4, I4.unpinned, T.keep _ _ _ st2 fun b hb' o e => (held b hb' o e).1, fun b hb' => ?_, w'⟩
    obtain ⟨o, e, _⟩ := T.obj _ _ st2 b hb'
    exact (held b hb' o e).2
/-- a clause's start goes to its loop -/
theorem start_ofT {P : Program} {w : World} {A : Around} {env : Env} {R : Result → Shared → Prop} {s : Shared} {el ta ia t1 ib : Expr} {cs : List Expr} {sco : Scope} {pp : Pos} {d : Nat} {it acc : Value} (hd : d < 2) (self : ∀ (Q : Value → Shared → Prop) (E : Value → Shared → Prop), Q it s → wpAny (model P w) A (pyIter it) Q E s)
    (h : codeAny (model P w) A (.compLoop (scT el ta ia t1 ib cs sco pp) d it acc env) R s) : codeAny (model P w) A (.compStart (scT el ta ia t1 ib cs sco pp) d it acc env) R s := by
  refine codeAny_of_tree ?_
  show wpAny (model P w) A ((compStart (scT el ta ia t1 ib cs sco pp) d it acc env).onRaise fun x => do noteFrame x env; standAt theWindowsPlace) _ _ s
  refine wpAny_notedAt ?_
  have go : ∀ q : Pos, wpAny (model P w) A (standAt q >>= fun _ => pyIter it >>= fun j => again (.compLoop (scT el ta ia t1 ib cs sco pp) d j acc env)) (fun fin s' => match fin with | .done f => R (.ok f) s' | .again c' => c'.quiet = true ∧ codeAny (model P w) A c' R s') (notedBy (model P w) A env fun e s' => R (.error e) s') s := fun q =>
    wpAny_bind (wpAny_standAt (wpAny_bind (self _ _ (wpAny_pure ⟨rfl, h⟩))))
  have now : wpAny (model P w) A (again (.compLoop (scT el ta ia t1 ib cs sco pp) d it acc env)) (fun fin s' => match fin with | .done f => R (.ok f) s' | .again c' => c'.quiet = true ∧ codeAny (model P w) A c' R s') (notedBy (model P w) A env fun e s' => R (.error e) s') s := wpAny_pure ⟨rfl, h⟩
  obtain rfl | rfl : d = 0 ∨ d = 1 := by omega
  all_goals
    unfold compStart
    show wpAny (model P w) A (ask >>= _) _ _ s
    refine wpAny_bind (wpAny_askSetting (wpAny_ite ?_))
    split
    · exact wpAny_bind (wpAny_pure now)
    · exact wpAny_bind (wpAny_rule (go _))
section
variable {el ta ia t1 ib : Expr} {cs : List Expr} {sco : Scope} {pp : Pos}
theorem form0T (it acc : Value) (env : Env) : compTurn (scT el ta ia t1 ib cs sco pp) 0 it acc env = turnOf ia.pos ta it env
    (eval ib env >>= fun x => standAt ib.pos >>= fun _ => foldedSetIterable ib env x >>= fun x => holding [x] (pyIter x) >>= fun j => runOwn (.compStart (scT el ta ia t1 ib cs sco pp) 1 j acc env) env >>= fun _ => again (.compLoop (scT el ta ia t1 ib cs sco pp) 0 it acc env)) := by rfl
theorem form1T (it acc : Value) (env : Env) : compTurn (scT el ta ia t1 ib cs sco pp) 1 it acc env = turnOf ib.pos t1 it env
    (do
      let mut ok := true
      for c in cs do
        if ok then ok ← isTrue c env (eval c env)
      if ok then
        (do let v ← eval el env; standAt el.pos; let _ ← call (.builtin "set.add") [acc, v])
      again (.compLoop (scT el ta ia t1 ib cs sco pp) 1 it acc env)) := by rfl
end
/-- what the inner loop must do, from what the outer one stored -/
def tInnerT (w : World) (D : Addr) (wi1 : TI) (g1 : TG) (tt : TT) (te : TE) (vs1 : List Nat) : L2.St → Hp → (Hp → Prop) → Prop := fun σ2 H2 Nx => wi1 σ2 H2 fun J1 H4 => ∃ W1 : Nat → Nat → Hp → Prop, (∃ m, W1 0 m H4) ∧ ∀ j k H, W1 j k H →
  (J1.stop j H ∧ Nx H) ∨ (J1.go j H ∧ ∃ Nx1 : Hp → Prop, (∀ H', Nx1 H' → ∃ k', k' < k ∧ W1 (j + 1) k' H') ∧ ∀ x H', J1.yld j H x H' → g1 x (wipe σ2 vs1) H' fun σ3 H5 => wipe σ3 vs1 = wipe σ2 vs1 ∧
    tt σ3 H5 fun b H6 => if b = true then te σ3 H6 fun y H7 => ∃ (c : Int) (S : Int → Bool) (n : Nat), y = .int c ∧ H7 D = some (SetO w D S n) ∧ n + 1 < scanBound ∧ Nx1 (upd H7 D (SetO w D (fun j => S j || decide (j = c)) (if S c = true then n else n + 1))) else Nx1 H6)
/-- {el for ta in ia for t1 in ib}: D the new set, vs the block's names, vs1 those of the second target -/
def tST (w : World) (wi : TI) (g : TG) (wi1 : TI) (g1 : TG) (tt : TT) (te : TE) (vs vs1 : List Nat) : TE := fun σ H Q => wi σ H fun J H1 => ∀ D, H1 D = none → ∃ W : Nat → Nat → Hp → Prop, (∃ m, W 0 m (upd H1 D (SetO w D (fun _ => false) 0))) ∧ ∀ i m H, W i m H →
  (J.stop i H ∧ Q (.ref D) H) ∨ (J.go i H ∧ ∃ Nx : Hp → Prop, (∀ H', Nx H' → ∃ m', m' < m ∧ W (i + 1) m' H') ∧ ∀ x H', J.yld i H x H' → g x (wipe σ vs) H' fun σ2 H2 => wipe σ2 vs = wipe σ vs ∧ tInnerT w D wi1 g1 tt te vs1 σ2 H2 Nx)
section
variable {Y : Cx} {el ta ia t1 ib : Expr} {cs : List Expr} {sco : Scope} {pp : Pos} {D : Addr} {wi1 : TI} {g1 : TG} {tt : TT} {te : TE} {vs vs1 : List Nat} {σ0 : L2.St}
/-- the outer loop's body -/
theorem innerT {o : Addr} (hc : Y.calm = true) (noerr : ∀ e s, Y.xe e s → False) (hv : ∀ i ∈ vs1, i ∈ vs) (hs : ∀ x, foldedSetIterable ib Y.env x = pure x) (p1 : PI Y t1 ib wi1) (pg1 : PG Y t1 g1) (pt : PTs Y cs tt) (pe : PE Y el te)
    (pins : List (Addr × Obj)) (σ2 : L2.St) (H2 : Hp) (s2 : Shared) (Nx : Hp → Prop) (I2 : Inv Y pins σ2 H2 s2) (h : wipe σ2 vs = σ0 ∧ tInnerT Y.w D wi1 g1 tt te vs1 σ2 H2 Nx) :
    wpAny (model Y.prog Y.w) Y.A (eval ib Y.env >>= fun x => standAt ib.pos >>= fun _ => foldedSetIterable ib Y.env x >>= fun x => holding [x] (pyIter x) >>= fun j => runOwn (.compStart (scT el ta ia t1 ib cs sco pp) 1 j (.ref D) Y.env) Y.env >>= fun _ => again (.compLoop (scT el ta ia t1 ib cs sco pp) 0 (.ref o) (.ref D) Y.env))
      (fun fin s3 => fin = .again (.compLoop (scT el ta ia t1 ib cs sco pp) 0 (.ref o) (.ref D) Y.env) ∧ ∃ H3, Inv Y pins σ0 H3 s3 ∧ Nx H3) (fun _ _ => False) s2 := by
  obtain ⟨hw, h⟩ := h
  refine wpAny_bind (wpAny_mono (p1.run pins s2 σ2 H2 _ I2 h) (fun x s3 hx => ?_) fun e s z => (noerr e s z).elim)
  refine wpAny_bind (wpAny_standAt (wpAny_bind (wpAny_of_eq (hs x) (wpAny_bind (wpAny_holding (wpAny_mono hx (fun j s4 h4 => ?_) fun e s z => (noerr e s z).elim))))))
  obtain ⟨it, fp, tn, J1, H4, e, I4, T, st4, f4, W1, ⟨m1, w1⟩, turn1⟩ := h4
  subst e
  have back : ∀ {H s}, Inv Y pins (wipe σ2 vs1) H s → Inv Y pins σ0 H s := fun I => by
    subst hw
    refine I.weak (by rw [wipe_length, wipe_length]) fun i v e => ?_
    obtain ⟨e1, e2⟩ := wipe_some e
    rw [wipe_keep fun z => e2 (hv i z)]; exact e1
  refine wpAny_bind (wpAny_runOwn ?_)
  rw [Around.mark_none]
  have loop := walkT (tb := fun σ3 H5 Nx1 => wipe σ3 vs1 = wipe σ2 vs1 ∧ tt σ3 H5 fun b H6 => if b = true then te σ3 H6 fun y H7 => ∃ (c : Int) (S : Int → Bool) (n : Nat), y = .int c ∧ H7 D = some (SetO Y.w D S n) ∧ n + 1 < scanBound ∧ Nx1 (upd H7 D (SetO Y.w D (fun j => S j || decide (j = c)) (if S c = true then n else n + 1))) else Nx1 H6)
    (R := fun r s' => match r with | .ok _ => ∃ H3, Inv Y pins σ0 H3 s' ∧ Nx H3 | .error _ => False) hc T (form1T (el := el) (ta := ta) (ia := ia) (t1 := t1) (ib := ib) (sco := sco) (pp := pp) (.ref it) (.ref D) Y.env)
    (fun {H s} _ hn b hb => ⟨hn b hb, (f4 b hb).2⟩) pg1 noerr
    (fun pins' σ3 H5 s5 Nx1 I5 ⟨hw5, h5⟩ => by
      have weak : ∀ {H8 s8}, Inv Y pins' σ3 H8 s8 → Inv Y pins' (wipe σ2 vs1) H8 s8 := fun I8 => I8.weak (by rw [← hw5, wipe_length]) fun i v e => by rw [← hw5] at e; exact (wipe_some e).1
      refine wpAny_bind (wpAny_mono (pt.run pins' s5 σ3 H5 _ I5 h5) (fun ok s6 h6 => ?_) fun e s z => (noerr e s z).elim)
      obtain ⟨H6, I6, q6⟩ := h6
      cases ok with
      | false =>
        simp only [Bool.false_eq_true, if_false] at q6 ⊢
        exact wpAny_pure ⟨rfl, H6, weak I6, q6⟩
      | true =>
        simp only [if_true] at q6 ⊢
        refine wpAny_bind (wpAny_bind (wpAny_mono (pe.run pins' s6 σ3 H6 _ I6 q6) (fun z s7 h7 => ?_) fun e s z => (noerr e s z).elim))
        obtain ⟨y, H7, I7, r7, c, S, n, ey, hD, room, nx⟩ := h7
        subst ey
        refine wpAny_bind (wpAny_standAt (wpAny_bind ?_))
        refine wpAny_mono (mt_sadd pins' s7 σ3 H7 (.ref D) [.int c] (.ref D) [z] (fun _ H' => Nx1 H') I7 rfl (.cons r7 .nil) ⟨D, c, S, n, rfl, rfl, hD, room, nx⟩) (fun _ s8 h8 => ?_) fun e s z => (noerr e s z).elim
        obtain ⟨y8, H8, I8, _, q8⟩ := h8
        exact wpAny_pure (wpAny_pure ⟨rfl, H8, weak I8, q8⟩))
    W1 (I4.weak (wipe_length _ _) fun i v e => (wipe_some e).1) st4 (fun b hb => (f4 b hb).1) w1
    (fun j k H hW => by
      rcases turn1 j k H hW with ⟨stop, nx⟩ | ⟨go, Nx1, hN1, step⟩
      · exact .inl ⟨stop, fun s I => ⟨H, back I, nx⟩⟩
      · exact .inr ⟨go, Nx1, hN1, step⟩)
  refine codeAny_mono (start_ofT (by decide) (fun Q E q => T.self _ 0 _ _ _ st4 q) loop) fun r s' hr => ?_
  cases r with
  | ok f => exact wpAny_pure ⟨rfl, hr⟩
  | error e => exact hr.elim
end
section
variable {X : Cx}
abbrev blkEnvT (X : Cx) (sco : Scope) (s : Shared) : Env := compEnvC sco (cellsFrom (s.heap.objs.size + 1) sco.names (cloFrom X.env.cells sco.names [])) s.heap.objs.size X.env
theorem blockT {el ta ia t1 ib : Expr} {cs : List Expr} {sco : Scope} {own : List (PySem.Str × Nat)} {vs1 : List Nat} {pp : Pos} {wi1 : TI} {g g1 : TG} {tt : TT} {te : TE} {pins : List (Addr × Obj)} {σ : L2.St} {H : Hp} {s : Shared} {it D : Addr} {fp : List Addr} {tn : Nat → Heap → Prop} {J : It} {Q : VK} {W : Nat → Nat → Hp → Prop} {m0 : Nat} {Z : Result → Shared → Prop}
    (hc : X.calm = true) (hN : X.N.Nodup) (ok : BlkOk X.N X.env.scope sco own) (hv : ∀ i ∈ vs1, i ∈ own.map (·.2)) (hs1 : ∀ env x, foldedSetIterable ib env x = pure x)
    (pg : PG (X.blk s H sco (blkEnvT X sco s) fp) ta g) (p1 : PI (X.blk s H sco (blkEnvT X sco s) fp) t1 ib wi1) (pg1 : PG (X.blk s H sco (blkEnvT X sco s) fp) t1 g1) (pt : PTs (X.blk s H sco (blkEnvT X sco s) fp) cs tt) (pe : PE (X.blk s H sco (blkEnvT X sco s) fp) el te)
    (I : Inv X pins σ H s) (T : Turn X.prog X.w X.K ta J fp it tn) (st : tn 0 s.heap) (hf : ∀ b ∈ fp, FpOk X pins H b ∧ b < s.heap.objs.size) (w0 : W 0 m0 H)
    (turn : ∀ i m H, W i m H → (J.stop i H ∧ Q (.ref D) H) ∨ (J.go i H ∧ ∃ Nx : Hp → Prop, (∀ H', Nx H' → ∃ m', m' < m ∧ W (i + 1) m' H') ∧ ∀ x H', J.yld i H x H' → g x (wipe σ (own.map (·.2))) H' fun σ2 H2 => wipe σ2 (own.map (·.2)) = wipe σ (own.map (·.2)) ∧ tInnerT X.w D wi1 g1 tt te vs1 σ2 H2 Nx))
    (fin : ∀ s' H' m, Inv X pins σ H' s' → Q (.ref D) H' → s'.heap.Ns s.heap.objs.size m → FpOk X pins H' s.heap.objs.size → Z (.ok .next) s') :
    codeAny (model X.prog X.w) X.A (.compStart (scT el ta ia t1 ib cs sco pp) 0 (.ref it) (.ref D) (blkEnvT X sco s)) Z { s with heap := pushCells (s.heap.push { cls := .type "dict", data := .dict #[] }) sco.names } := by
  have I4 := block_start I ok hN hf
  have st4 : tn 0 (pushCells (s.heap.push { cls := .type "dict", data := .dict #[] }) sco.names) := T.keep _ _ _ st fun b _ o e => pushCells_keeps _ _ _ _ (Heap.get?_push_of_some _ e)
  refine start_ofT (by decide) (fun Q' E q => T.self _ 0 _ _ _ st4 q) ?_
  refine walkT (Y := X.blk s H sco (blkEnvT X sco s) fp) (tb := fun σ2 H2 Nx => wipe σ2 (own.map (·.2)) = wipe σ (own.map (·.2)) ∧ tInnerT X.w D wi1 g1 tt te vs1 σ2 H2 Nx) hc T (form0T (.ref it) (.ref D) (blkEnvT X sco s))
    (fun {H' s'} I' hn b hb => ⟨hn b hb, (I'.ok.exf b hb).1, I'.ok.exfs b hb, .inl hb, fun x c e => (I'.ok.exf b hb).2 x c e, fun p hp => nomatch (show p ∈ ([] : List (Addr × Obj)) from hp)⟩) pg (fun _ _ z => z)
    (fun pins' σ2 H2 s2 Nx I2 h2 => innerT (Y := X.blk s H sco (blkEnvT X sco s) fp) (vs := own.map (·.2)) hc (fun _ _ z => z) hv (hs1 _) p1 pg1 pt pe pins' σ2 H2 s2 Nx I2 h2) W I4 st4 (fun b hb => (hf b hb).1.1) w0 (fun i m H' hW => ?_)
  rcases turn i m H' hW with ⟨stop, qq⟩ | z
  · refine .inl ⟨stop, fun s6 I6 => ?_⟩
    obtain ⟨m', hn, _⟩ := I6.loc
    exact fin s6 H' m' (I.call' (ch := fp) I6.os I6.base I6.hok I6.bare fun b hb => (hf b hb).1.2.2.2.1 |> fun z => ⟨z, (hf b hb).1.2.1, (hf b hb).1.2.2.2.2.1, (hf b hb).1.2.2.2.2.2⟩) qq hn (I.fpOk (Nat.le_refl _) I6.free)
  · exact .inr z
theorem pe_scT {el ta ia t1 ib : Expr} {cs : List Expr} {sco : Scope} {own : List (PySem.Str × Nat)} {vs1 : List Nat} {pp : Pos} {wi wi1 : TI} {g g1 : TG} {tt : TT} {te : TE} (hc : X.calm = true) (hN : X.N.Nodup) (hi : PI X ta ia wi) (ok : BlkOk X.N X.env.scope sco own) (hv : ∀ i ∈ vs1, i ∈ own.map (·.2))
    (hg : ∀ s H C cl fp, PG (X.blk s H sco (compEnvC sco cl C X.env) fp) ta g) (hi1 : ∀ s H C cl fp, PI (X.blk s H sco (compEnvC sco cl C X.env) fp) t1 ib wi1) (hg1 : ∀ s H C cl fp, PG (X.blk s H sco (compEnvC sco cl C X.env) fp) t1 g1)
    (ht1 : ∀ s H C cl fp, PTs (X.blk s H sco (compEnvC sco cl C X.env) fp) cs tt) (he : ∀ s H C cl fp, PE (X.blk s H sco (compEnvC sco cl C X.env) fp) el te) (hs : ∀ x, foldedSetIterable ia X.env x = pure x := by intro _; rfl) (hs1 : ∀ env x, foldedSetIterable ib env x = pure x := by intro _ _; rfl) :
    PE X (.SetComp el [⟨ta, ia, [], 0⟩, ⟨t1, ib, cs, 0⟩] sco pp) (tST X.w wi g wi1 g1 tt te (own.map (·.2)) vs1) := by
  refine ⟨fun pins s σ H Q I h => ?_⟩
  rw [PpSet.eval_SetComp]
  have known : ∀ y ∈ sco.names, y.2 = .free → ∃ c, X.env.cells.lookup y.1 = some c := fun y hy e => I.ok.has _ (ok.free y hy e)
  refine wpAny_comprehension_free (use := none) rfl hs (closure_ok known) ok.kind (fun y hy e => by rw [ok.uniq y hy, e]) (thn (hi.run pins s σ H _ I h) fun _ _ hx => thn hx fun iv s2 h2 => ?_)
  obtain ⟨it, fp, tn, J, H2, e, I2, T, st2, f2, q⟩ := h2
  subst e
  refine PpSet.newSet_ok (newEnv_comp ?_)
  have nD : H2 s2.heap.objs.size = none := I2.hok.fresh (Nat.le_refl _)
  obtain ⟨W, ⟨m0, w0⟩, turn⟩ := q _ nD
  have I3 := I2.laid (t' := s2.toks) (o := SetO X.w s2.heap.objs.size (fun _ => false) 0) (fun b o e => Heap.get?_push_of_some { cls := .type "set", dict := none, data := .set #[] 0 (.fresh 0 0 (!X.w.params.followText "set-order")) } e) (Nat.le_refl _) (setO_new (setR_fresh X.w))
  have young : ∀ b ∈ fp, b < s2.heap.objs.size := fun b hb => (T.obj _ _ st2 b hb).elim fun o e => Heap.lt_size e.1
  exact blockT hc hN ok hv hs1 (hg _ _ _ _ _) (hi1 _ _ _ _ _) (hg1 _ _ _ _ _) (ht1 _ _ _ _ _) (he _ _ _ _ _) I3 T (T.keep _ _ _ st2 fun b _ o e => Heap.get?_push_of_some _ e)
    (fun b hb => ⟨⟨by rw [upd_ne (Nat.ne_of_lt (young b hb))]; exact (f2 b hb).1, (f2 b hb).2⟩, by show b < (Heap.push _ _).objs.size; rw [Heap.size_push]; exact Nat.lt_succ_of_lt (young b hb)⟩) w0 turn
    fun s' H' m I' qq hn ⟨f0, f1, _, f3, f4, f5⟩ => ⟨m, hn, fun h'' sb => ⟨.ref s2.heap.objs.size, H', I'.turned (t' := s'.toks) (fun b o hb e => (sb.2 b hb).trans e) f0 f1 f3 f4 f5, rfl, qq⟩⟩
end
end RV
set_option maxHeartbeats 4000000
/-! min of tuples of ints: of two, of a list of them -/
namespace RV
open PySem PySem.Spec PyProof.Rows L2
theorem lex_irr (xs : List Int) : HT.lexLt xs xs = false := by
  cases e : HT.lexLt xs xs with
  | false => rfl
  | true => have := NtL.lex_asym _ _ e; rw [e] at this; cases this
/-- the place of the first least -/
theorem best_least (l : Nat → List Int) : ∀ n : Nat, argBest (fun i j => HT.lexLt (l i) (l j)) n ≤ n ∧ ∀ j, j ≤ n → HT.lexLt (l j) (l (argBest (fun i j => HT.lexLt (l i) (l j)) n)) = false
  | 0 => ⟨Nat.le_refl _, fun j hj => by
    have : j = 0 := by omega
    subst this
    exact lex_irr _⟩
  | n + 1 => by
    obtain ⟨h1, h2⟩ := best_least l n
    have e0 : argBest (fun i j => HT.lexLt (l i) (l j)) (n + 1) = if HT.lexLt (l (n + 1)) (l (argBest (fun i j => HT.lexLt (l i) (l j)) n)) then n + 1 else argBest (fun i j => HT.lexLt (l i) (l j)) n := rfl
    rw [e0]
    generalize argBest (fun i j => HT.lexLt (l i) (l j)) n = b at h1 h2
    cases e : HT.lexLt (l (n + 1)) (l b) with
    | true =>
      rw [if_pos rfl]
      refine ⟨Nat.le_refl _, fun j hj => ?_⟩
      rcases Nat.lt_or_ge j (n + 1) with z | z
      · exact NtL.lex_tr _ _ _ (NtL.lex_asym _ _ e) (h2 j (by omega))
      · have : j = n + 1 := by omega
        subst this; exact lex_irr _
    | false =>
      rw [if_neg (by decide)]
      refine ⟨by omega, fun j hj => ?_⟩
      rcases Nat.lt_or_ge j (n + 1) with z | z
      · exact h2 j (by omega)
      · have : j = n + 1 := by omega
        subst this; exact e
section
variable {prog : Program} {w : World} {A : Around} {E : Value → Shared → Prop} {s : Shared}
/-- v is a tuple of the ints ns in h -/
def TupIn (h : Heap) (v : Value) (ns : List Int) : Prop := ∃ (a : Addr) (items : Array Value), v = .ref a ∧ IsTup h a items ∧ IntsAre items.toList ns
theorem TupIn.keep {h h' : Heap} {v : Value} {ns : List Int} (t : TupIn h v ns) (k : ∀ b o, h.get? b = some o → h'.get? b = some o) : TupIn h' v ns := by
  obtain ⟨a, items, e, ⟨o, h1, h2, h3⟩, hi⟩ := t
  exact ⟨a, items, e, ⟨o, k _ _ h1, h2, h3⟩, hi⟩
theorem cmp_tups {vs : Array Value} {l : Nat → List Int} (hu : A.units < cLine) (ht : ∀ i v, vs[i]? = some v → TupIn s.heap v (l i)) :
    CmpIn prog w A .Lt s.heap (fun i v => vs[i]? = some v) (fun i j => HT.lexLt (l i) (l j)) := fun i j vi vj s' Q E hk hi hj hq => by
  obtain ⟨a, it1, rfl, t1, i1⟩ := (ht i vi hi).keep hk
  obtain ⟨b, it2, rfl, t2, i2⟩ := (ht j vj hj).keep hk
  exact HT.lt_tupInts t1 t2 i1 i2 hu hq
/-- min(l) of a list of tuples of ints -/
theorem min_tups {a : Addr} {vs : Array Value} {l : Nat → List Int} {Q : Value → Shared → Prop} (hh : A.handled = none) (hl : s.heap.IsList a vs) (h0 : 0 < vs.size) (hu : A.units + 1 < cLine) (ht : ∀ i v, vs[i]? = some v → TupIn s.heap v (l i))
    (h : ∀ (i : Nat) v h' tk, vs[i]? = some v → (∀ j, j < vs.size → HT.lexLt (l j) (l i) = false) → (∀ b o, s.heap.get? b = some o → h'.get? b = some o) → Q v { s with heap := h', toks := tk }) :
    wpAny (model prog w) A (call (.builtin "min") [.ref a]) Q E s := by
  refine call_min_walkH (PySem.W.iter_listW (A := A.in1) hh hl fun s₂ e W st hfp hw hk => ?_)
  refine ⟨_, _, _, _, _, _, _, s.heap, _, rfl, W, st, hfp, h0, hw, hk, cmp_tups (A := A.in1) (show A.units + 1 < cLine from hu) ht, fun v s' hP m => ?_⟩
  obtain ⟨h', tk, rfl, hk'⟩ := PySem.W.moved_old e rfl m
  obtain ⟨b1, b2⟩ := best_least l (vs.size - 1)
  exact h _ v h' tk hP (fun j hj => b2 j (by omega)) hk'
/-- min(v, u) of two tuples of ints -/
theorem min_two_tups {v u : Value} {ns ms : List Int} {Q : Value → Shared → Prop} (hh : A.handled = none) (hu : A.units + 1 < cLine) (hv : TupIn s.heap v ns) (hw : TupIn s.heap u ms)
    (h : ∀ h' tk, (∀ b o, s.heap.get? b = some o → h'.get? b = some o) → Q (if HT.lexLt ms ns = true then u else v) { s with heap := h', toks := tk }) :
    wpAny (model prog w) A (call (.builtin "min") [v, u]) Q E s := by
  have hname : (toString "min" ++ toString ".loop" : String) = "min.loop" := by decide
  refine call_function_tree F.kind_min F.plain_min F.entry_min (F.args_min2 _ _) ?_
  show wpAny _ A.in1 (Builtin.Builtins.bindParams "min" ["key", "default"] 0 ⟨[], []⟩ >>= _) _ _ s
  refine wpAny_bind (wpAny_of_eq (show Builtin.Builtins.bindParams "min" ["key", "default"] 0 ⟨[], []⟩ = pure [none, none] from rfl) ?_)
  show wpAny _ A.in1 (newTuple [v, u] >>= _) _ _ s
  refine wpAny_bind (wpAny_newObj_type ?_)
  have hT : (s.heap.push { cls := .type "tuple", data := .seq #[v, u] }).IsTuple s.heap.objs.size #[v, u] := ⟨_, Heap.get?_push_size _ rfl, rfl, 0, rfl⟩
  have k0 : ∀ b o, s.heap.get? b = some o → (s.heap.push { cls := .type "tuple", data := .seq #[v, u] }).get? b = some o := fun b o e => Heap.get?_push_of_some _ e
  have ht : ∀ i x, (#[v, u] : Array Value)[i]? = some x → TupIn (s.heap.push { cls := .type "tuple", data := .seq #[v, u] }) x ((fun i : Nat => if i = 0 then ns else ms) i) := fun i x hx => by
    match i, hx with
    | 0, hx => cases hx; exact hv.keep k0
    | 1, hx => cases hx; exact hw.keep k0
    | i + 2, hx => simp at hx
  refine wpAny_bind (PySem.W.iter_tupleW (s := { s with heap := s.heap.push { cls := .type "tuple", data := .seq #[v, u] } }) (A := A.in1) hh hT fun s₂ e W st hfp hw' hk => ?_)
  refine wpAny_bind (wpAny_newObj_type ?_)
  have hSf : s₂.heap.objs.size ∉ [(s.heap.push { cls := .type "tuple", data := .seq #[v, u] }).objs.size, s.heap.objs.size] := fun hm => Nat.lt_irrefl _ (hfp _ hm)
  rw [hname]
  refine wpAny_pure ⟨plainId_quiet F.plain_min_loop _, codeAny_min_loop_firstH W _ hw' _ (cmp_tups (s := { s with heap := s.heap.push { cls := .type "tuple", data := .seq #[v, u] } }) (A := A.in1) (show A.units + 1 < cLine from hu) ht) s₂.heap.objs.size hSf (fresh_in hk) _ (by show 0 < 2; decide) (fun b o e => Heap.get?_push_of_some _ (hk b o e)) (W.frame 0 s₂ _ s₂.toks st (Nat.le_refl _) fun b _ o e => Heap.get?_push_of_some _ e) (Heap.get?_push_size _ rfl) fun x s' hP hm => ?_⟩
  have m := Moved.drop_new (tk := s₂.toks) hm (Nat.le_refl _)
  obtain ⟨h', tk, rfl, hk'⟩ := PySem.W.moved_old e rfl m
  have z := h h' tk fun b o eb => hk' b o (k0 b o eb)
  have ex : x = if HT.lexLt ms ns = true then u else v := by
    have hP1 : (#[v, u] : Array Value)[argBest (fun i j => HT.lexLt ((fun i : Nat => if i = 0 then ns else ms) i) ((fun i : Nat => if i = 0 then ns else ms) j)) 1]? = some x := hP
    cases el : HT.lexLt ms ns with
    | true =>
      have e1 : argBest (fun i j => HT.lexLt ((fun i : Nat => if i = 0 then ns else ms) i) ((fun i : Nat => if i = 0 then ns else ms) j)) 1 = 1 := by simp [argBest, el]
      rw [e1] at hP1
      rw [if_pos rfl]; cases hP1; rfl
    | false =>
      have e1 : argBest (fun i j => HT.lexLt ((fun i : Nat => if i = 0 then ns else ms) i) ((fun i : Nat => if i = 0 then ns else ms) j)) 1 = 0 := by simp [argBest, el]
      rw [e1] at hP1
      rw [if_neg (by decide)]; cases hP1; rfl
  rw [ex]; exact z
end
section
variable {X : Cx}
theorem tupIn_of {pins : List (Addr × Obj)} {s : Shared} {σ : L2.St} {H : Hp} (I : Inv X pins σ H s) {a : Addr} {ns : List Int} (h : SqT X.K H a (ns.map V.int)) : TupIn s.heap (.ref a) ns := by
  obtain ⟨its, r1, p1, _⟩ := I.tuple h
  exact ⟨a, _, rfl, p1, intsAre_of r1⟩
/-- min(t, u) of two tuples of ints -/
def rMin2T (K : PySem.W.Frag) : List V → Hp → VK → Prop := fun vs H Q => ∃ (a b : Addr) (ns ms : List Int), vs = [.ref a, .ref b] ∧ SqT K H a (ns.map V.int) ∧ SqT K H b (ms.map V.int) ∧ Q (.ref (if HT.lexLt ms ns = true then b else a)) H
theorem cr_min2T (hc : X.calm = true) (hu : X.A.units + 1 < cLine) : CallR X (.builtin "min") (rMin2T X.K) := by
  intro pins s σ H vs us Q I r h
  obtain ⟨a, b, ns, ms, rfl, ha, hb, q⟩ := h
  obtain ⟨u, w', rfl, e1, e2⟩ := vals2 r
  cases e1
  cases e2
  refine min_two_tups (I.ok.hd hc) hu (tupIn_of I ha) (tupIn_of I hb) fun h' tk k => ⟨_, H, I.kept k, ?_, q⟩
  cases HT.lexLt ms ns <;> rfl
/-! sorted of two tuples of ints of one length -/
theorem code_lex {B : Int} : ∀ {xs ys : List Int}, xs.length = ys.length → TS.Bd B xs → TS.Bd B ys → HT.lexLt xs ys = decide (TS.code B xs < TS.code B ys)
  | [], [], _, _, _ => by
    show false = decide (TS.code B [] < TS.code B [])
    rw [decide_eq_false (Int.lt_irrefl _)]
  | x :: xs, y :: ys, hl, h1, h2 => by
    have hl' : xs.length = ys.length := by simpa using hl
    have t1 : TS.Bd B xs := fun m hm => h1 m (List.mem_cons_of_mem _ hm)
    have t2 : TS.Bd B ys := fun m hm => h2 m (List.mem_cons_of_mem _ hm)
    rw [HT.lexLt_cons]
    by_cases e : x = y
    · rw [if_pos e, code_lex hl' t1 t2, e]
      refine decide_eq_decide.mpr ?_
      show TS.code B xs < TS.code B ys ↔ y * B ^ xs.length + TS.code B xs < y * B ^ ys.length + TS.code B ys
      rw [hl']
      omega
    · rw [if_neg e]
      refine decide_eq_decide.mpr ⟨fun z => TS.code_lt hl' t1 t2 z, fun z => ?_⟩
      rcases Int.lt_trichotomy x y with c | c | c
      · exact c
      · exact absurd c e
      · have := TS.code_lt hl'.symm t2 t1 c
        omega
theorem lex_tot : ∀ {xs ys : List Int}, HT.lexLt xs ys = false → HT.lexLt ys xs = false → xs = ys
  | [], [], _, _ => rfl
  | [], y :: ys, h, _ => by cases h
  | x :: xs, [], _, h => by cases h
  | x :: xs, y :: ys, h1, h2 => by
    rw [HT.lexLt_cons] at h1 h2
    by_cases e : x = y
    · rw [if_pos e] at h1
      rw [if_pos e.symm] at h2
      rw [e, lex_tot h1 h2]
    · rw [if_neg e] at h1
      rw [if_neg (fun z => e z.symm)] at h2
      have a1 := of_decide_eq_false h1
      have a2 := of_decide_eq_false h2
      omega
def rSort2T (K : PySem.W.Frag) : List V → Hp → VK → Prop := fun vs H Q => ∃ (l a b : Addr) (ns ms : List Int) (B : Int), vs = [.ref l] ∧ SqL K H l [.ref a, .ref b] ∧ SqT K H a (ns.map V.int) ∧ SqT K H b (ms.map V.int) ∧ ns.length = ms.length ∧ 1 ≤ ns.length ∧ TS.Bd B ns ∧ TS.Bd B ms ∧
  ∀ (c d p : Addr), SqT K H c ((if HT.lexLt ms ns = true then ms else ns).map V.int) → H p = none → Q (.ref p) (upd H p (.lst [.ref c, .ref d]))
theorem cr_sort2T : CallR X (.builtin "sorted") (rSort2T X.K) := by
  intro pins s σ H vs us Q I r h
  obtain ⟨l, a, b, ns, ms, B, rfl, hL, ha, hb, hlen, h1, B1, B2, q⟩ := h
  refine cr_sortT (d := ns.length) (B := B) h1 pins s σ H _ us Q I r ⟨l, _, rfl, hL, by show 2 < 64; decide, fun x hx => ?_, fun ys p pm pw np => ?_⟩
  · simp only [List.mem_cons, List.not_mem_nil, or_false] at hx
    rcases hx with rfl | rfl
    · exact ⟨ns, ⟨a, rfl, ha⟩, rfl, B1⟩
    · exact ⟨ms, ⟨b, rfl, hb⟩, hlen.symm, B2⟩
  · have hl2 : ys.length = 2 := pm.length_eq
    match ys, hl2, pm, pw with
    | [x, y], _, pm, pw =>
      have rel : ∀ n m, TupI X.K H x n → TupI X.K H y m → TS.code B n ≤ TS.code B m := by
        have z := pw
        rw [List.pairwise_cons] at z
        exact z.1 y (List.mem_singleton.mpr rfl)
      have ma : V.ref a = x ∨ V.ref a = y := by
        have z := pm.mem_iff.mpr (show V.ref a ∈ [V.ref a, V.ref b] by simp)
        simpa using z
      have mb : V.ref b = x ∨ V.ref b = y := by
        have z := pm.mem_iff.mpr (show V.ref b ∈ [V.ref a, V.ref b] by simp)
        simpa using z
      have my : y = V.ref a ∨ y = V.ref b := by
        have z := pm.mem_iff.mp (show y ∈ [x, y] by simp)
        simpa using z
      obtain ⟨d, ed⟩ : ∃ d, y = V.ref d := my.elim (fun e => ⟨_, e⟩) fun e => ⟨_, e⟩
      have fst : ∀ ty : TupI X.K H y ms, x = V.ref a → Q (.ref p) (upd H p (.lst [x, y])) := fun ty ex => by
        have le := rel ns ms ⟨a, ex, ha⟩ ty
        have z := code_lex hlen.symm B2 B1
        rw [decide_eq_false (by omega)] at z
        rw [ex, ed]
        refine q a d p ?_ np
        rw [z, if_neg (by decide)]; exact ha
      rcases ma with ea | ea
      · rcases mb with eb | eb
        · have eab : a = b := V.ref.inj (ea.trans eb.symm)
          refine fst ?_ ea.symm
          rcases my with e | e
          · exact ⟨a, e, by rw [eab]; exact hb⟩
          · exact ⟨b, e, hb⟩
        · exact fst ⟨b, eb.symm, hb⟩ ea.symm
      · rcases mb with eb | eb
        · have le := rel ms ns ⟨b, eb.symm, hb⟩ ⟨a, ea.symm, ha⟩
          rw [← eb, ed]
          refine q b d p ?_ np
          have z := code_lex hlen.symm B2 B1
          cases el : HT.lexLt ms ns with
          | true => rw [if_pos rfl]; exact hb
          | false =>
            rw [if_neg (by decide)]
            have z2 := code_lex hlen B1 B2
            rw [decide_eq_false (by omega)] at z2
            rw [lex_tot z2 el]; exact hb
        · have eab : a = b := V.ref.inj (ea.trans eb.symm)
          have mx : x = V.ref a ∨ x = V.ref b := by
            have z := pm.mem_iff.mp (show x ∈ [x, y] by simp)
            simpa using z
          refine fst ⟨b, eb.symm, hb⟩ ?_
          rcases mx with e | e
          · exact e
          · rw [e, eab]
end
end RV
set_option maxHeartbeats 4000000
/-! the least of all walks: mark by mark, and of all gone through -/
namespace RV
open PyProof.Rows
section
variable {bh : Int → List Int} {N : Nat} {E : List Int}
/-- from where so many steps lead to E -/
def beg (bh : Int → List Int) (N : Nat) (E : List Int) : Nat → List Int
  | 0 => E
  | n + 1 => (upN N).filter fun m => (bh m).any fun c => decide (c ∈ beg bh N E n)
theorem mem_beg {n : Nat} {m : Int} : m ∈ beg bh N E (n + 1) ↔ (0 ≤ m ∧ m < (N : Int)) ∧ ∃ c ∈ bh m, c ∈ beg bh N E n := by
  show m ∈ (upN N).filter _ ↔ _
  rw [List.mem_filter, mem_upN, List.any_eq_true]
  simp only [decide_eq_true_eq]
/-- mark by mark the least that still leads there -/
def Gr (bh : Int → List Int) (B : Nat → List Int) : Nat → Int → List Int → Prop
  | 0, m, w => w = [m]
  | n + 1, m, w => ∃ c w', w = m :: w' ∧ c ∈ bh m ∧ c ∈ B n ∧ (∀ y ∈ bh m, y ∈ B n → c ≤ y) ∧ Gr bh B n c w'
theorem Gr.uniq {B : Nat → List Int} : ∀ {n : Nat} {m : Int} {w v : List Int}, Gr bh B n m w → Gr bh B n m v → w = v
  | 0, m, w, v, h, h' => by rw [show w = [m] from h, show v = [m] from h']
  | n + 1, m, w, v, h, h' => by
    obtain ⟨c, w', rfl, a1, a2, a3, a4⟩ := h
    obtain ⟨d, v', rfl, b1, b2, b3, b4⟩ := h'
    have : c = d := Int.le_antisymm (a3 d b1 b2) (b3 c a1 a2)
    subst this
    rw [a4.uniq b4]
theorem Gr.len {B : Nat → List Int} : ∀ {n : Nat} {m : Int} {w : List Int}, Gr bh B n m w → w.length = n + 1
  | 0, m, w, h => by rw [show w = [m] from h]; rfl
  | n + 1, m, w, h => by
    obtain ⟨c, w', rfl, _, _, _, a4⟩ := h
    rw [List.length_cons, a4.len]
theorem Gr.congr {B B' : Nat → List Int} : ∀ {n : Nat} (_ : ∀ k, k < n → ∀ m, m ∈ B k ↔ m ∈ B' k) {m : Int} {w : List Int}, Gr bh B n m w → Gr bh B' n m w
  | 0, _, m, w, h => h
  | n + 1, e, m, w, h => by
    obtain ⟨c, w', rfl, a1, a2, a3, a4⟩ := h
    exact ⟨c, w', rfl, a1, (e n (by omega) c).mp a2, fun y y1 y2 => a3 y y1 ((e n (by omega) y).mpr y2), a4.congr fun k hk => e k (by omega)⟩
theorem Gr.inn {B : Nat → List Int} {P : Int → Prop} (hb : ∀ m, P m → ∀ c ∈ bh m, P c) : ∀ {n : Nat} {m : Int} {w : List Int}, Gr bh B n m w → P m → ∀ x ∈ w, P x
  | 0, m, w, h, hm, x, hx => by
    rw [show w = [m] from h, List.mem_singleton] at hx
    rw [hx]; exact hm
  | n + 1, m, w, h, hm, x, hx => by
    obtain ⟨c, w', rfl, a1, a2, a3, a4⟩ := h
    rcases List.mem_cons.mp hx with rfl | z
    · exact hm
    · exact a4.inn hb (hb m hm c a1) x z
/-- a walk of so many steps from m to o -/
def WkL (bh : Int → List Int) : Nat → Int → Int → List Int → Prop
  | 0, m, o, w => w = [m] ∧ m = o
  | n + 1, m, o, w => ∃ c w', w = m :: w' ∧ c ∈ bh m ∧ WkL bh n c o w'
theorem WkL.head : ∀ {n : Nat} {m o : Int} {w : List Int}, WkL bh n m o w → ∃ v, w = m :: v
  | 0, m, o, w, h => ⟨[], h.1⟩
  | n + 1, m, o, w, h => by
    obtain ⟨c, w', e, _⟩ := h
    exact ⟨w', e⟩
theorem Gr.head {B : Nat → List Int} : ∀ {n : Nat} {m : Int} {w : List Int}, Gr bh B n m w → ∃ v, w = m :: v
  | 0, m, w, h => ⟨[], h⟩
  | n + 1, m, w, h => by
    obtain ⟨c, w', e, _⟩ := h
    exact ⟨w', e⟩
theorem WkL.beg (hb : ∀ m, (0 ≤ m ∧ m < (N : Int)) → ∀ c ∈ bh m, 0 ≤ c ∧ c < (N : Int)) {o : Int} : ∀ {n : Nat} {m : Int} {w : List Int}, WkL bh n m o w → (0 ≤ m ∧ m < (N : Int)) → m ∈ RV.beg bh N [o] n
  | 0, m, w, h, _ => by rw [h.2]; exact List.mem_singleton.mpr rfl
  | n + 1, m, w, h, hm => by
    obtain ⟨c, w', _, h1, h2⟩ := h
    exact mem_beg.mpr ⟨hm, c, h1, h2.beg hb (hb m hm c h1)⟩
theorem Gr.wk {o : Int} : ∀ {n : Nat} {m : Int} {w : List Int}, Gr bh (RV.beg bh N [o]) n m w → m ∈ RV.beg bh N [o] n → WkL bh n m o w
  | 0, m, w, h, hm => ⟨h, List.mem_singleton.mp hm⟩
  | n + 1, m, w, h, hm => by
    obtain ⟨c, w', e, a1, a2, a3, a4⟩ := h
    exact ⟨c, w', e, a1, a4.wk a2⟩
theorem Gr.least (hb : ∀ m, (0 ≤ m ∧ m < (N : Int)) → ∀ c ∈ bh m, 0 ≤ c ∧ c < (N : Int)) {o : Int} : ∀ {n : Nat} {m : Int} {g w : List Int}, Gr bh (RV.beg bh N [o]) n m g → WkL bh n m o w → (0 ≤ m ∧ m < (N : Int)) → HT.lexLt w g = false
  | 0, m, g, w, h, h', _ => by rw [show g = [m] from h, h'.1]; exact lex_irr _
  | n + 1, m, g, w, h, h', hm => by
    obtain ⟨c, g', rfl, a1, a2, a3, a4⟩ := h
    obtain ⟨d, w', rfl, b1, b2⟩ := h'
    have hd := hb m hm d b1
    have le := a3 d b1 (b2.beg hb hd)
    rw [HT.lexLt_cons, if_pos rfl]
    by_cases e : d = c
    · subst e
      exact a4.least hb b2 hd
    · obtain ⟨x, rfl⟩ := a4.head
      obtain ⟨y, rfl⟩ := b2.head
      rw [HT.lexLt_cons, if_neg e, decide_eq_false (by omega)]
theorem ex_gr : ∀ {n : Nat} {m : Int}, m ∈ RV.beg bh N E n → ∃ w, Gr bh (RV.beg bh N E) n m w
  | 0, m, _ => ⟨[m], rfl⟩
  | n + 1, m, h => by
    obtain ⟨_, c, h1, h2⟩ := mem_beg.mp h
    have lst : ∀ (l : List Int), l ≠ [] → ∃ x ∈ l, ∀ y ∈ l, x ≤ y := by
      intro l
      induction l with
      | nil => intro z; exact absurd rfl z
      | cons a l ih =>
        intro _
        by_cases e : l = []
        · subst e
          exact ⟨a, List.mem_singleton.mpr rfl, fun y hy => by rw [List.mem_singleton.mp hy]; exact Int.le_refl _⟩
        · obtain ⟨x, x1, x2⟩ := ih e
          rcases Int.le_total a x with z | z
          · exact ⟨a, List.mem_cons_self, fun y hy => by
              rcases List.mem_cons.mp hy with rfl | y1
              · exact Int.le_refl _
              · exact Int.le_trans z (x2 y y1)⟩
          · exact ⟨x, List.mem_cons_of_mem _ x1, fun y hy => by
              rcases List.mem_cons.mp hy with rfl | y1
              · exact z
              · exact x2 y y1⟩
    obtain ⟨x, x1, x2⟩ := lst ((bh m).filter fun y => decide (y ∈ RV.beg bh N E n)) (fun z => by
      have : c ∈ (bh m).filter fun y => decide (y ∈ RV.beg bh N E n) := List.mem_filter.mpr ⟨h1, decide_eq_true h2⟩
      rw [z] at this; cases this)
    obtain ⟨x3, x4⟩ := List.mem_filter.mp x1
    have x4 := of_decide_eq_true x4
    obtain ⟨w, hw⟩ := ex_gr x4
    exact ⟨m :: w, x, w, rfl, x3, x4, fun y y1 y2 => x2 y (List.mem_filter.mpr ⟨y1, decide_eq_true y2⟩), hw⟩
/-- the last mark -/
def la (w : List Int) : Int := w.getLast?.getD 0
theorem la_add (w : List Int) (c : Int) : la (w ++ [c]) = c := by unfold la; simp
theorem WkL.snoc {o d : Int} : ∀ {n : Nat} {m : Int} {w : List Int}, WkL bh n m o w → d ∈ bh o → WkL bh (n + 1) m d (w ++ [d])
  | 0, m, w, h, hd => by
    obtain ⟨rfl, rfl⟩ := h
    exact ⟨d, [d], rfl, hd, rfl, rfl⟩
  | n + 1, m, w, h, hd => by
    obtain ⟨c, w', rfl, h1, h2⟩ := h
    exact ⟨c, w' ++ [d], rfl, h1, h2.snoc hd⟩
theorem WkL.unsnoc {d : Int} : ∀ {n : Nat} {m : Int} {w : List Int}, WkL bh (n + 1) m d w → ∃ o v, WkL bh n m o v ∧ d ∈ bh o ∧ w = v ++ [d]
  | 0, m, w, h => by
    obtain ⟨c, w', rfl, h1, h2, rfl⟩ := h
    exact ⟨m, [m], ⟨rfl, rfl⟩, h1, by rw [h2]; rfl⟩
  | n + 1, m, w, h => by
    obtain ⟨c, w', rfl, h1, h2⟩ := h
    obtain ⟨o, v, k1, k2, rfl⟩ := h2.unsnoc
    exact ⟨o, m :: v, ⟨c, v, rfl, h1, k1⟩, k2, rfl⟩
theorem WkL.la : ∀ {n : Nat} {m o : Int} {w : List Int}, WkL bh n m o w → RV.la w = o
  | 0, m, o, w, h => by rw [h.1, h.2]; rfl
  | n + 1, m, o, w, h => by
    obtain ⟨c, v, _, _, rfl⟩ := h.unsnoc
    exact la_add _ _
theorem WkL.len : ∀ {n : Nat} {m o : Int} {w : List Int}, WkL bh n m o w → w.length = n + 1
  | 0, m, o, w, h => by rw [h.1]; rfl
  | n + 1, m, o, w, h => by
    obtain ⟨c, v, rfl, _, h2⟩ := h
    rw [List.length_cons, h2.len]
/-- all walks of so many steps from m, gone through -/
def alw (bh : Int → List Int) (m : Int) : Nat → List (List Int)
  | 0 => [[m]]
  | n + 1 => (alw bh m n).flatMap fun w => (bh (la w)).map fun c => w ++ [c]
theorem mem_alw {m : Int} : ∀ {n : Nat} {w : List Int}, w ∈ alw bh m n ↔ ∃ o, WkL bh n m o w
  | 0, w => by
    show w ∈ [[m]] ↔ _
    rw [List.mem_singleton]
    exact ⟨fun h => ⟨m, h, rfl⟩, fun ⟨o, h, _⟩ => h⟩
  | n + 1, w => by
    show w ∈ (alw bh m n).flatMap _ ↔ _
    rw [List.mem_flatMap]
    constructor
    · rintro ⟨v, h1, h2⟩
      obtain ⟨o, ho⟩ := mem_alw.mp h1
      obtain ⟨c, c1, rfl⟩ := List.mem_map.mp h2
      rw [ho.la] at c1
      exact ⟨c, ho.snoc c1⟩
    · rintro ⟨d, hd⟩
      obtain ⟨o, v, k1, k2, rfl⟩ := hd.unsnoc
      refine ⟨v, mem_alw.mpr ⟨o, k1⟩, List.mem_map.mpr ⟨d, ?_, rfl⟩⟩
      rw [k1.la]; exact k2
theorem alw_len {m : Int} {b : Nat} (hb : ∀ x, (bh x).length ≤ b) : ∀ n, (alw bh m n).length ≤ b ^ n
  | 0 => Nat.le_refl _
  | n + 1 => by
    show ((alw bh m n).flatMap _).length ≤ _
    have h : ∀ L : List (List Int), (L.flatMap fun w => (bh (la w)).map fun c => w ++ [c]).length ≤ L.length * b := by
      intro L
      induction L with
      | nil => simp
      | cons w L ih =>
        rw [List.flatMap_cons, List.length_append, List.length_map, List.length_cons, Nat.succ_mul]
        have := hb (la w)
        omega
    exact Nat.le_trans (h _) (by rw [Nat.pow_succ]; exact Nat.mul_le_mul (alw_len hb n) (Nat.le_refl _))
end
end RV
set_option maxHeartbeats 4000000
namespace RV
open PySem PySem.Spec PyProof.Rows L2
theorem shows_dI7 {ns : List Int} (hn : ∀ n ∈ ns, n.natAbs < 10 ^ 12) (ln : ns.length ≤ 7000) : Shows (dI ns) := by
  have i3 : (dI ns).bulk = ns.length := by simp only [dI, PyData.bulk, bulk_ints]
  refine ⟨by simp only [dI, PyData.showable]; exact show_ints ns hn, PyData.hasDict_of_canLay _ (dI_lay ns), by rw [dI_dep]; decide, ?_⟩
  refine PyData.shown_fits_bulk (B := 13) (by decide) (by decide) (PyData.leavesShort_of_canLay0 13 _ (dI_lay ns) ?_) (by rw [i3]; omega)
  simp only [dI, PyData.intsShort]; exact PyData.intsShortAll_ints ns hn
section
variable {X : Cx}
/-- repr of a tuple or of None -/
def rReprT (K : PySem.W.Frag) : List V → Hp → VK → Prop := fun xs H Q => (∃ (a : Addr) (ns : List Int), xs = [.ref a] ∧ SqT K H a (ns.map V.int) ∧ Shows (dI ns) ∧ Q (.str (dI ns).shown) H) ∨ (xs = [.non] ∧ Q (.str "None") H)
theorem call_reprT (gd : X.A.guards = some []) (hu : X.A.units + 65 < cLine) : CallR X (.builtin "repr") (rReprT X.K) := by
  intro pins s σ H xs us Q I r h
  rcases h with ⟨a, ns, e, hT, sh, q⟩ | ⟨rfl, q⟩
  · exact call_reprD gd hu pins s σ H xs us Q I r ⟨a, dI ns, e, dpT hT, sh.h1, sh.h2, sh.h3, sh.h4, q⟩
  · obtain ⟨u, rfl, rx⟩ := vals1 r
    cases (show u = Value.none from rx)
    exact PySem.P.repr_of_none ⟨.str "None", H, I.tok _, ⟨_, rfl⟩, q⟩
end
/-- unlike numbers below n are at most n -/
theorem few_below : ∀ {n : Nat} {l : List Int}, l.Nodup → (∀ x ∈ l, 0 ≤ x ∧ x < (n : Int)) → l.length ≤ n
  | 0, l, _, h => by
    cases l with
    | nil => exact Nat.le_refl _
    | cons x l => have := h x List.mem_cons_self; omega
  | n + 1, l, nd, h => by
    have nd2 : (l.erase (n : Int)).Nodup := nd.erase _
    have h2 : ∀ x ∈ l.erase (n : Int), 0 ≤ x ∧ x < (n : Int) := fun x hx => by
      have h3 := (List.Nodup.mem_erase_iff nd).mp hx
      have h4 := h x h3.2
      have h5 := h3.1
      omega
    have z := few_below nd2 h2
    rw [List.length_erase] at z
    split at z
    · omega
    · rename_i hno
      omega
end RV
set_option maxHeartbeats 4000000
/-! walks of so many steps, and tables of where they end -/
namespace RV
open PySem PySem.Spec PyProof.Rows L2
section
variable {bh : Int → List Int} {N : Nat}
/-- so many steps lead from the one to the other -/
def lk (bh : Int → List Int) : Nat → Int → Int → Prop
  | 0, a, b => a = b
  | n + 1, a, b => ∃ c, c ∈ bh a ∧ lk bh n c b
theorem lk_add {n : Nat} {b : Int} : ∀ {m : Nat} {a : Int}, lk bh (m + n) a b ↔ ∃ c, lk bh m a c ∧ lk bh n c b
  | 0, a => by
    rw [Nat.zero_add]
    exact ⟨fun h => ⟨a, rfl, h⟩, fun ⟨c, h1, h2⟩ => by rw [show a = c from h1]; exact h2⟩
  | m + 1, a => by
    rw [show m + 1 + n = (m + n) + 1 by omega]
    constructor
    · rintro ⟨c, h1, h2⟩
      obtain ⟨d, h3, h4⟩ := lk_add.mp h2
      exact ⟨d, ⟨c, h1, h3⟩, h4⟩
    · rintro ⟨d, ⟨c, h1, h3⟩, h4⟩
      exact ⟨c, h1, lk_add.mpr ⟨d, h3, h4⟩⟩
theorem lk_one {a b : Int} : lk bh 1 a b ↔ b ∈ bh a :=
  ⟨fun ⟨c, h1, h2⟩ => by rw [← show c = b from h2]; exact h1, fun h => ⟨b, h, rfl⟩⟩
theorem lk_inn (hb : ∀ m, ∀ c ∈ bh m, 0 ≤ c ∧ c < (N : Int)) {b : Int} : ∀ {n : Nat} {a : Int}, lk bh n a b → (0 ≤ a ∧ a < (N : Int)) → 0 ≤ b ∧ b < (N : Int)
  | 0, a, h, ha => by rw [← show a = b from h]; exact ha
  | n + 1, a, ⟨c, h1, h2⟩, _ => lk_inn hb h2 (hb a c h1)
theorem beg_lk (hb : ∀ m, ∀ c ∈ bh m, 0 ≤ c ∧ c < (N : Int)) {b : Int} : ∀ {n : Nat} {a : Int}, (0 ≤ a ∧ a < (N : Int)) → (a ∈ beg bh N [b] n ↔ lk bh n a b)
  | 0, a, _ => by show a ∈ [b] ↔ a = b; rw [List.mem_singleton]
  | n + 1, a, ha => by
    rw [mem_beg]
    exact ⟨fun ⟨_, c, h1, h2⟩ => ⟨c, h1, (beg_lk hb (hb a c h1)).mp h2⟩, fun ⟨c, h1, h2⟩ => ⟨ha, c, h1, (beg_lk hb (hb a c h1)).mpr h2⟩⟩
end
/-- a tuple of rising tuples: x in the row of i just where f i x -/
def Tab (K : PySem.W.Frag) (H : Hp) (t : Addr) (N : Nat) (f : Int → Int → Prop) : Prop := ∃ as : List Addr, SqT K H t (as.map V.ref) ∧ as.length = N ∧
  ∀ (i : Nat) (a : Addr), as[i]? = some a → ∃ xs : List Int, SqT K H a (xs.map V.int) ∧ xs.Pairwise (· < ·) ∧ (∀ x ∈ xs, 0 ≤ x ∧ x < (N : Int)) ∧ ∀ x, x ∈ xs ↔ f (i : Int) x
theorem Tab.same {K : PySem.W.Frag} {H H' : Hp} {t : Addr} {N : Nat} {f : Int → Int → Prop} (h : Tab K H t N f) (s : Same H H') : Tab K H' t N f := by
  obtain ⟨as, h1, h2, h3⟩ := h
  exact ⟨as, sqT_same s h1, h2, fun i a e => (h3 i a e).imp fun xs q => ⟨sqT_same s q.1, q.2⟩⟩
theorem Tab.congr {K : PySem.W.Frag} {H : Hp} {t : Addr} {N : Nat} {f g : Int → Int → Prop} (h : Tab K H t N f) (e : ∀ i x : Int, 0 ≤ i → i < (N : Int) → (f i x ↔ g i x)) : Tab K H t N g := by
  obtain ⟨as, h1, h2, h3⟩ := h
  refine ⟨as, h1, h2, fun i a ea => ?_⟩
  obtain ⟨xs, q1, q2, q3, q4⟩ := h3 i a ea
  have hi := (List.getElem?_eq_some_iff.mp ea).1
  exact ⟨xs, q1, q2, q3, fun x => (q4 x).trans (e i x (by omega) (by omega))⟩
theorem Tab.at {K : PySem.W.Frag} {H : Hp} {t : Addr} {N : Nat} {f : Int → Int → Prop} (h : Tab K H t N f) {m : Int} (h0 : 0 ≤ m) (h1 : m < (N : Int)) : ∃ (vs : List V) (a : Addr) (xs : List Int), SqT K H t vs ∧ atI vs m = some (.ref a) ∧ SqT K H a (xs.map V.int) ∧ xs.Pairwise (· < ·) ∧ (∀ x ∈ xs, 0 ≤ x ∧ x < (N : Int)) ∧ ∀ x, x ∈ xs ↔ f m x := by
  obtain ⟨as, q1, q2, q3⟩ := h
  have hm : m.toNat < as.length := by omega
  have e : ((m.toNat : Nat) : Int) = m := Int.toNat_of_nonneg h0
  obtain ⟨xs, z1, z2, z3, z4⟩ := q3 m.toNat _ (List.getElem?_eq_getElem hm)
  rw [e] at z4
  refine ⟨_, as[m.toNat], xs, q1, ?_, z1, z2, z3, z4⟩
  have := atI_nat (xs := as.map V.ref) (j := m.toNat) (v := .ref as[m.toNat]) (by rw [List.getElem?_map, List.getElem?_eq_getElem hm]; rfl)
  rw [e] at this; exact this
theorem rise_nodup {xs : List Int} (h : xs.Pairwise (· < ·)) : xs.Nodup := h.imp fun {a b} z e => by omega
section
variable {X : Cx} {K : PySem.W.Frag} {w : World}
theorem pe_tupleOfK {a : Expr} {ta : TE} {p pos : Pos} (h : X.K = K) (hg : Gl X "tuple") (hm : X.mg "tuple" = none) (ha : PE X a ta) (na : starEach [a] X.env = (false, eval a X.env) :: starEach [] X.env := by rfl) :
    PE X (.Call (.Name "tuple" p) [a] [] pos) (tThen ta (kTup K)) := h ▸ pe_tupleOf hg hm ha na
theorem cr_sortedSetW (h : X.w = w) (hc : X.calm = true) : CallR X (.builtin "sorted") (rSortedSet w) := h ▸ cr_sortedSet hc
theorem pe_sc2W {el ta ia t1 ib : Expr} {sco : Scope} {own : List (PySem.Str × Nat)} {vs1 : List Nat} {pp : Pos} {wi wi1 : TI} {g g1 : TG} {te : TE} (h : X.w = w) (hc : X.calm = true) (hN : X.N.Nodup) (hi : PI X ta ia wi) (ok : BlkOk X.N X.env.scope sco own) (hv : ∀ i ∈ vs1, i ∈ own.map (·.2))
    (hg : ∀ s H C cl fp, PG (X.blk s H sco (compEnvC sco cl C X.env) fp) ta g) (hi1 : ∀ s H C cl fp, PI (X.blk s H sco (compEnvC sco cl C X.env) fp) t1 ib wi1) (hg1 : ∀ s H C cl fp, PG (X.blk s H sco (compEnvC sco cl C X.env) fp) t1 g1)
    (he : ∀ s H C cl fp, PE (X.blk s H sco (compEnvC sco cl C X.env) fp) el te) (hs : ∀ x, foldedSetIterable ia X.env x = pure x := by intro _; rfl) (hs1 : ∀ env x, foldedSetIterable ib env x = pure x := by intro _ _; rfl) :
    PE X (.SetComp el [⟨ta, ia, [], 0⟩, ⟨t1, ib, [], 0⟩] sco pp) (tS2 w wi g wi1 g1 te (own.map (·.2)) vs1) := h ▸ pe_sc2 hc hN hi ok hv hg hi1 hg1 he hs hs1
end
/-- a loop over a tuple that its turns leave as it is -/
theorem it_tup {K : PySem.W.Frag} {a : Addr} {xs : List V} {H0 : Hp} {Fin : Hp → Prop} {Bd : V → Hp → (Hp → Prop) → Prop} (Pv : Nat → Hp → Prop) (h0 : Pv 0 H0) (hl : ∀ i H, i ≤ xs.length → Pv i H → SqT K H a xs)
    (hs : ∀ i x H, xs[i]? = some x → Pv i H → Bd x H (Pv (i + 1))) (hd : ∀ H, Pv xs.length H → Fin H) :
    ∃ W : Nat → Nat → Hp → Prop, (∃ m, W 0 m H0) ∧ ∀ i m H, W i m H → ((Itt K a).stop i H ∧ Fin H) ∨ ((Itt K a).go i H ∧ ∃ Nx : Hp → Prop, (∀ H', Nx H' → ∃ m', m' < m ∧ W (i + 1) m' H') ∧ ∀ x H', (Itt K a).yld i H x H' → Bd x H' Nx) := by
  refine ⟨fun i m H => i ≤ xs.length ∧ m + i = xs.length ∧ Pv i H, ⟨xs.length, Nat.zero_le _, rfl, h0⟩, fun i m H ⟨hi, hm, hp⟩ => ?_⟩
  have hq := hl i H hi hp
  rcases Nat.lt_or_ge i xs.length with z | z
  · refine .inr ⟨⟨xs, xs[i], hq, List.getElem?_eq_getElem z⟩, Pv (i + 1), fun H' p' => ⟨m - 1, by omega, z, by omega, p'⟩, fun x H' y => ?_⟩
    obtain ⟨rfl, y⟩ := y
    exact hs i x _ (y xs hq) hp
  · obtain rfl : i = xs.length := by omega
    exact .inl ⟨⟨xs, hq, Nat.le_refl _⟩, hd H hp⟩
/-- a set that has just these -/
def SetL (w : World) (H : Hp) (D : Addr) (ls : List Int) : Prop := ∃ S : Int → Bool, H D = some (SetO w D S ls.length) ∧ ls.Nodup ∧ ∀ k, S k = true ↔ k ∈ ls
theorem SetL.nil {w : World} {H : Hp} {D : Addr} : SetL w (upd H D (SetO w D (fun _ => false) 0)) D [] := ⟨_, upd_same, List.nodup_nil, fun k => by simp⟩
theorem SetL.add {w : World} {H : Hp} {D : Addr} {ls : List Int} (h : SetL w H D ls) (c : Int) (room : ls.length ≤ 1000) : ∃ (S : Int → Bool) (n : Nat), H D = some (SetO w D S n) ∧ n + 1 < scanBound ∧ ∃ ls', SetL w (upd H D (SetO w D (fun j => S j || decide (j = c)) (if S c = true then n else n + 1))) D ls' ∧ ∀ k, k ∈ ls' ↔ k ∈ ls ∨ k = c := by
  obtain ⟨S, h1, h2, h3⟩ := h
  refine ⟨S, ls.length, h1, by show ls.length + 1 < 4096; omega, ?_⟩
  by_cases e : S c = true
  · refine ⟨ls, ⟨_, by rw [upd_same, if_pos e], h2, fun k => ?_⟩, fun k => ⟨.inl, fun z => z.elim id fun z => by rw [z]; exact (h3 c).mp e⟩⟩
    rw [Bool.or_eq_true, h3, decide_eq_true_iff]
    exact ⟨fun z => z.elim id fun z => by rw [z]; exact (h3 c).mp e, .inl⟩
  · refine ⟨c :: ls, ⟨_, by rw [upd_same, if_neg e]; rfl, List.nodup_cons.mpr ⟨fun z => e ((h3 c).mpr z), h2⟩, fun k => ?_⟩, fun k => by rw [List.mem_cons, or_comm]⟩
    rw [Bool.or_eq_true, h3, decide_eq_true_iff, List.mem_cons, or_comm]
theorem SetL.same {w : World} {H H' : Hp} {D : Addr} {ls : List Int} (h : SetL w H D ls) (s : Same H H') : SetL w H' D ls := by
  obtain ⟨S, h1, h2⟩ := h
  exact ⟨S, s _ _ h1, h2⟩
theorem sqT_set {w : World} {K : PySem.W.Frag} {H : Hp} {D D' : Addr} {S : Int → Bool} {n : Nat} {o' : HO} (e : H D = some (SetO w D' S n)) {a : Addr} {xs : List V} (h : SqT K H a xs) : SqT K (upd H D o') a xs := by
  rcases h with (h | ⟨o, h⟩) | h
  · exact .inl (.inl (by rw [upd_ne (fun z => by rw [z, e] at h; cases h)]; exact h))
  · exact .inl (.inr ⟨o, by rw [upd_ne (fun z => by rw [z, e] at h; cases h)]; exact h⟩)
  · exact .inr h
end RV
set_option maxHeartbeats 4000000
/-! list(zip(s, t)) of two tuples -/
namespace RV
open PySem PySem.Spec PyProof.Rows L2
section
variable {prog : Program} {w : World} {A : Around} {E : Value → Shared → Prop} {s : Shared}
/-- the next pair, while the first one is still out -/
theorem zt_item {z TI TO T0 i1 i2 u1 u2 : Addr} {f : Bool} {ob : Obj} {j : Nat} {xs ys : Array Value} {x y : Value} {Q : Option Value → Shared → Prop} (D : ZipApart z TI TO i1 i2 u1 u2)
    (hz : IsZipHeld s.heap z TI TO T0 f) (h0 : s.heap.get? T0 = some ob) (hP : IsPair s.heap TI (.ref i1) (.ref i2)) (a1 : s.heap.IsTupleIter i1 u1 j) (a2 : s.heap.IsTupleIter i2 u2 j) (b1 : s.heap.IsTuple u1 xs) (b2 : s.heap.IsTuple u2 ys)
    (ex : xs[j]? = some x) (ey : ys[j]? = some y)
    (q : ∀ hh, IsZipHeld hh z TI TO T0 true → hh.IsTupleIter i1 u1 (j + 1) → hh.IsTupleIter i2 u2 (j + 1) → IsPair hh s.heap.objs.size x y → hh.objs.size = s.heap.objs.size + 1 → (∀ c o, c ≠ z → c ≠ i1 → c ≠ i2 → s.heap.get? c = some o → hh.get? c = some o) → Q (some (.ref s.heap.objs.size)) { s with heap := hh }) :
    wpAny (model prog w) A (pyNext (.ref z)) Q E s := by
  have tz : s.TypeIs (.ref z) "zip" := ⟨_, hz, rfl⟩
  unfold pyNext
  refine wpAny_bind (wpAny_attempt (wpAny_callSpecial?_slot (name := Str.ofString "__next__") tz F.slot_zip_next (wpAny_call_entry F.slot_zip_next tz F.entry_zip_next ?_ (F.args_zip_next_1 _))))
  show wpAny _ _ (field (.ref z) 2 >>= fun _ => _) _ _ s
  refine wpAny_bind (wpAny_field hz rfl (x := .bool false) rfl (wpAny_bind (wpAny_field hz rfl (x := .ref TI) rfl (wpAny_bind (wpAny_seqItems hP rfl (wpAny_bind (wpAny_tupleHeld_zip hz h0 fun g1 z1 k1 => ?_)))))))
  simp only [Bool.false_eq_true, if_false]
  refine wpAny_bind ?_
  rw [← Array.forIn_toList]; simp only [List.forIn_cons, List.forIn_nil]
  refine wpAny_bind (wpAny_bind (wpAny_holding (wpAny_bind (wpAny_nextOf_tuple_item (s := { s with heap := g1 }) (a1.extBut k1.extBut D.i1z) (b1.extBut k1.extBut D.l1z) ex fun g2 c1 k2 => wpAny_pure (wpAny_pure ?_)))))
  refine wpAny_bind (wpAny_bind (wpAny_holding (wpAny_bind (wpAny_nextOf_tuple_item (s := { s with heap := g2 }) ((a2.extBut k1.extBut D.i2z).extBut k2.extBut D.i12.symm) ((b2.extBut k1.extBut D.l2z).extBut k2.extBut D.l2i1) ey fun g3 c2 k3 => wpAny_pure (wpAny_pure (wpAny_pure ?_))))))
  show wpAny _ _ (newTuple [x, y] >>= fun _ => _) _ _ _
  refine wpAny_bind (wpAny_newTuple ?_)
  have ez : g3.objs.size = s.heap.objs.size := by rw [k3.1, k2.1, k1.1]
  have z3 : IsZipHeld g3 z TI TO T0 true := k3.extBut _ _ D.i2z.symm (k2.extBut _ _ D.i1z.symm z1)
  have c13 := c1.extBut k3.extBut D.i12
  have np : IsPair (g3.push { cls := .type "tuple", data := .seq #[x, y] }) g3.objs.size x y := Heap.get?_push_size _ rfl
  have nz : (g3.push { cls := .type "tuple", data := .seq #[x, y] }).objs.size = g3.objs.size + 1 := Heap.size_push ..
  refine wpAny_pure ⟨_, rfl, wpAny_pure ?_⟩
  show Q (some (.ref g3.objs.size)) _
  rw [ez] at np nz ⊢
  exact q _ (Heap.get?_push_of_some _ z3) (c13.at fun o e => Heap.get?_push_of_some _ e) (c2.at fun o e => Heap.get?_push_of_some _ e) np nz fun c o n1 n2 n3 e => Heap.get?_push_of_some _ (k3.extBut _ _ n3 (k2.extBut _ _ n2 (k1.extBut _ _ n1 e)))
theorem zt_end {z TI TO T0 i1 i2 u1 u2 : Addr} {f : Bool} {ob : Obj} {j : Nat} {xs ys : Array Value} {Q : Option Value → Shared → Prop} (hh : A.handled = none) (D : ZipApart z TI TO i1 i2 u1 u2)
    (hz : IsZipHeld s.heap z TI TO T0 f) (h0 : s.heap.get? T0 = some ob) (hP : IsPair s.heap TI (.ref i1) (.ref i2)) (a1 : s.heap.IsTupleIter i1 u1 j) (a2 : s.heap.IsTupleIter i2 u2 j) (b1 : s.heap.IsTuple u1 xs) (b2 : s.heap.IsTuple u2 ys)
    (no : xs[j]? = none ∨ ys[j]? = none) (q : ∀ hp, (∀ c o, c ≠ z → c ≠ i1 → c ≠ i2 → s.heap.get? c = some o → hp.get? c = some o) → Q none { s with heap := hp }) : wpAny (model prog w) A (pyNext (.ref z)) Q E s := by
  have tz : s.TypeIs (.ref z) "zip" := ⟨_, hz, rfl⟩
  unfold pyNext
  have fin : ∀ (hp : Heap) (e : Addr), (∀ c o, c ≠ z → c ≠ i1 → c ≠ i2 → s.heap.get? c = some o → hp.get? c = some o) → (∃ o, hp.get? e = some o ∧ o.cls = .type "StopIteration") →
      wpAny (model prog w) A (do if ← isInstance (.ref e) (.type "StopIteration") then pure none else throw (.ref e)) Q E { s with heap := hp } := fun hp e k ⟨o, ho, hc⟩ => by
    refine wpAny_bind (wpAny_isInstance (T := "StopIteration") (b := true) ⟨o, ho, hc⟩ isSubtype_stop ?_)
    exact wpAny_pure (q _ k)
  refine wpAny_bind (wpAny_attempt (wpAny_callSpecial?_slot (name := Str.ofString "__next__") tz F.slot_zip_next (wpAny_call_entry F.slot_zip_next tz F.entry_zip_next ?_ (F.args_zip_next_1 _))))
  show wpAny _ _ (field (.ref z) 2 >>= fun _ => _) _ _ s
  refine wpAny_bind (wpAny_field hz rfl (x := .bool false) rfl (wpAny_bind (wpAny_field hz rfl (x := .ref TI) rfl (wpAny_bind (wpAny_seqItems hP rfl (wpAny_bind (wpAny_tupleHeld_zip hz h0 fun g1 z1 k1 => ?_)))))))
  simp only [Bool.false_eq_true, if_false]
  refine wpAny_bind ?_
  rw [← Array.forIn_toList]; simp only [List.forIn_cons, List.forIn_nil]
  refine wpAny_bind (wpAny_bind (wpAny_holding ?_))
  cases ex : xs[j]? with
  | none => exact wpAny_bind (wpAny_nextOf_tuple_end (s := { s with heap := g1 }) hh (a1.extBut k1.extBut D.i1z) (b1.extBut k1.extBut D.l1z) ex fun g2 e k2 he => fin g2 e (fun c o n1 n2 _ y => k2 _ _ n2 (k1.extBut _ _ n1 y)) he)
  | some x =>
    have ey : ys[j]? = none := by
      rcases no with n | n
      · rw [ex] at n; cases n
      · exact n
    refine wpAny_bind (wpAny_nextOf_tuple_item (s := { s with heap := g1 }) (a1.extBut k1.extBut D.i1z) (b1.extBut k1.extBut D.l1z) ex fun g2 c1 k2 => wpAny_pure (wpAny_pure (wpAny_bind (wpAny_bind (wpAny_holding ?_)))))
    exact wpAny_bind (wpAny_nextOf_tuple_end (s := { s with heap := g2 }) hh ((a2.extBut k1.extBut D.i2z).extBut k2.extBut D.i12.symm) ((b2.extBut k1.extBut D.l2z).extBut k2.extBut D.l2i1) ey fun g3 e k3 he => fin g3 e (fun c o n1 n2 n3 y => k3 _ _ n3 (k2.extBut _ _ n2 (k1.extBut _ _ n1 y))) he)
/-- where the walk stands behind j pairs -/
structure ZSt (h : Heap) (z TI TO i1 i2 u1 u2 S : Addr) (j : Nat) : Prop where
  pr : IsPair h TI (.ref i1) (.ref i2)
  a1 : h.IsTupleIter i1 u1 j
  a2 : h.IsTupleIter i2 u2 j
  st : (j = 0 ∧ IsZip h z TI TO .none ∧ ∃ a b, IsPair h TO a b) ∨ ∃ T0 f ob, IsZipHeld h z TI TO T0 f ∧ h.get? T0 = some ob ∧ T0 ≠ z ∧ T0 ≠ i1 ∧ T0 ≠ i2 ∧ T0 ≠ S
theorem ZSt.keep {h h' : Heap} {z TI TO i1 i2 u1 u2 S : Addr} {j : Nat} (x : ZSt h z TI TO i1 i2 u1 u2 S j) (k : ∀ b o, b ≠ S → h.get? b = some o → h'.get? b = some o) (n1 : z ≠ S) (n2 : TI ≠ S) (n3 : TO ≠ S) (n4 : i1 ≠ S) (n5 : i2 ≠ S) : ZSt h' z TI TO i1 i2 u1 u2 S j := by
  obtain ⟨p, a1, a2, st⟩ := x
  refine ⟨k _ _ n2 p, a1.at fun o e => k _ _ n4 e, a2.at fun o e => k _ _ n5 e, ?_⟩
  rcases st with ⟨e, hz, a, b, ho⟩ | ⟨T0, f, ob, hz, h0, m1, m2, m3, m4⟩
  · exact .inl ⟨e, k _ _ n1 hz, a, b, k _ _ n3 ho⟩
  · exact .inr ⟨T0, f, ob, k _ _ n1 hz, k _ _ m4 h0, m1, m2, m3, m4⟩
theorem zs_item {z TI TO i1 i2 u1 u2 S : Addr} {j : Nat} {xs ys : Array Value} {x y : Value} {Q : Option Value → Shared → Prop} (D : ZipApart z TI TO i1 i2 u1 u2) (x0 : ZSt s.heap z TI TO i1 i2 u1 u2 S j) (hS : S < s.heap.objs.size) (b1 : s.heap.IsTuple u1 xs) (b2 : s.heap.IsTuple u2 ys) (ex : xs[j]? = some x) (ey : ys[j]? = some y)
    (q : ∀ hh, ZSt hh z TI TO i1 i2 u1 u2 S (j + 1) → IsPair hh s.heap.objs.size x y → (∀ c o, c ≠ z → c ≠ TO → c ≠ i1 → c ≠ i2 → s.heap.get? c = some o → hh.get? c = some o) → Q (some (.ref s.heap.objs.size)) { s with heap := hh }) : wpAny (model prog w) A (pyNext (.ref z)) Q E s := by
  obtain ⟨p, a1, a2, st⟩ := x0
  have lt : ∀ {c o}, s.heap.get? c = some o → s.heap.objs.size ≠ c := fun e => Nat.ne_of_gt (Heap.lt_size e)
  have l1 : s.heap.objs.size ≠ i1 := by obtain ⟨_, e, _⟩ := a1; exact lt e
  have l2 : s.heap.objs.size ≠ i2 := by obtain ⟨_, e, _⟩ := a2; exact lt e
  rcases st with ⟨e, hz, a, b, ho⟩ | ⟨T0, f, ob, hz, h0, m1, m2, m3, m4⟩
  · exact RZ.pyNext_zipT_item D hz p ho a1 a2 b1 b2 ex ey fun hh z' o' c1 c2 np nz k => q hh ⟨k _ _ D.TIz D.TITO D.TIi1 D.TIi2 p, c1, c2, .inr ⟨s.heap.objs.size, false, _, z', np, lt hz, l1, l2, Nat.ne_of_gt hS⟩⟩ np k
  · exact zt_item D hz h0 p a1 a2 b1 b2 ex ey fun hh z' c1 c2 np nz k => q hh ⟨k _ _ D.TIz D.TIi1 D.TIi2 p, c1, c2, .inr ⟨T0, true, ob, z', k _ _ m1 m2 m3 h0, m1, m2, m3, m4⟩⟩ np fun c o n1 _ n3 n4 e => k c o n1 n3 n4 e
theorem zs_end {z TI TO i1 i2 u1 u2 S : Addr} {j : Nat} {xs ys : Array Value} {Q : Option Value → Shared → Prop} (hh : A.handled = none) (D : ZipApart z TI TO i1 i2 u1 u2) (x0 : ZSt s.heap z TI TO i1 i2 u1 u2 S j) (b1 : s.heap.IsTuple u1 xs) (b2 : s.heap.IsTuple u2 ys) (no : xs[j]? = none ∨ ys[j]? = none)
    (q : ∀ hp, (∀ c o, c ≠ z → c ≠ TO → c ≠ i1 → c ≠ i2 → s.heap.get? c = some o → hp.get? c = some o) → Q none { s with heap := hp }) : wpAny (model prog w) A (pyNext (.ref z)) Q E s := by
  obtain ⟨p, a1, a2, st⟩ := x0
  rcases st with ⟨e, hz, a, b, ho⟩ | ⟨T0, f, ob, hz, h0, m1, m2, m3, m4⟩
  · exact RZ.pyNext_zipT_end hh D hz p ho a1 a2 b1 b2 no q
  · exact zt_end hh D hz h0 p a1 a2 b1 b2 no fun hp k => q hp fun c o n1 _ n3 n4 e => k c o n1 n3 n4 e
/-- the tuples told so far -/
structure ZG (xs ys : Array Value) (lo : Addr) (h : Heap) (as : List Addr) : Prop where
  up : as.Pairwise (· < ·)
  hi : ∀ a ∈ as, lo < a
  at_ : ∀ (j : Nat) (a : Addr), as[j]? = some a → ∃ x y, xs[j]? = some x ∧ ys[j]? = some y ∧ IsPair h a x y
theorem ZG.lt {xs ys : Array Value} {lo : Addr} {h : Heap} {as : List Addr} (g : ZG xs ys lo h as) {a : Addr} (ha : a ∈ as) : a < h.objs.size := by
  obtain ⟨j, hj⟩ := List.mem_iff_getElem?.mp ha
  obtain ⟨_, _, _, _, e⟩ := g.at_ j a hj
  exact Heap.lt_size e
theorem zs_loop {R : Result → Shared → Prop} {z TI TO i1 i2 u1 u2 S : Addr} {xs ys : Array Value} (hh : A.handled = none) (D : ZipApart z TI TO i1 i2 u1 u2) (n1 : z < S) (n2 : TI < S) (n3 : TO < S) (n4 : i1 < S) (n5 : i2 < S) (n6 : u1 < S) (n7 : u2 < S) (hn : min xs.size ys.size ≤ sizeLine) (res : Value) {h1 : Heap}
    (q : ∀ h' tk acc c as, (∀ b o, b ≠ S → b ≠ z → b ≠ TO → b ≠ i1 → b ≠ i2 → h1.get? b = some o → h'.get? b = some o) → h'.get? S = some { cls := .type "list", dict := none, data := .seq acc c, slots := #[] } → as.length = min xs.size ys.size → ZG xs ys S h' as → acc.toList = as.map Value.ref → R (.ok (.ret res)) { s with heap := h', toks := tk }) :
    ∀ (k j : Nat) (h : Heap) (tk c : Nat) (acc : Array Value) (as : List Addr), min xs.size ys.size - j = k → j ≤ min xs.size ys.size → ZSt h z TI TO i1 i2 u1 u2 S j → h.IsTuple u1 xs → h.IsTuple u2 ys → (∀ b o, b ≠ S → b ≠ z → b ≠ TO → b ≠ i1 → b ≠ i2 → h1.get? b = some o → h.get? b = some o) →
      h.get? S = some { cls := .type "list", dict := none, data := .seq acc c, slots := #[] } → acc.toList = as.map Value.ref → as.length = j → ZG xs ys S h as → codeAny (model prog w) A (.builtin "list.extend.loop" ⟨[.ref S, .ref z, res], []⟩) R { s with heap := h, toks := tk } := by
  intro k
  induction k with
  | zero =>
    intro j h tk c acc as hk hj x0 b1 b2 kp hS ea la g
    refine codeAny_builtin PySem.F.entry_extend_loop ?_
    rw [Around.under_plainId PySem.F.plain_extend_loop _]
    show wpAny _ A.in1 (pyNext (.ref z) >>= fun _ => _) _ _ _
    have no : xs[j]? = none ∨ ys[j]? = none := by
      by_cases e : xs.size ≤ j
      · exact .inl (by simp; omega)
      · exact .inr (by simp; omega)
    refine wpAny_bind (zs_end (s := { s with heap := h, toks := tk }) (A := A.in1) hh D x0 b1 b2 no fun hp k2 => ?_)
    have up : ∀ b o, S ≤ b → h.get? b = some o → hp.get? b = some o := fun b o lb e => k2 b o (Nat.ne_of_gt (Nat.lt_of_lt_of_le n1 lb)) (Nat.ne_of_gt (Nat.lt_of_lt_of_le n3 lb)) (Nat.ne_of_gt (Nat.lt_of_lt_of_le n4 lb)) (Nat.ne_of_gt (Nat.lt_of_lt_of_le n5 lb)) e
    refine wpAny_pure (q hp tk acc c as (fun b o m0 m1 m2 m3 m4 e => k2 b o m1 m2 m3 m4 (kp b o m0 m1 m2 m3 m4 e)) (up S _ (Nat.le_refl _) hS) (by omega) ⟨g.up, g.hi, fun i a hi => ?_⟩ ea)
    obtain ⟨x, y, e1, e2, e3⟩ := g.at_ i a hi
    exact ⟨x, y, e1, e2, up a _ (Nat.le_of_lt (g.hi a (List.mem_of_getElem? hi))) e3⟩
  | succ k ih =>
    intro j h tk c acc as hk hj x0 b1 b2 kp hS ea la g
    have hlt : j < min xs.size ys.size := by omega
    have ex : xs[j]? = some (xs[j]'(by omega)) := Array.getElem?_eq_getElem _
    have ey : ys[j]? = some (ys[j]'(by omega)) := Array.getElem?_eq_getElem _
    have sz : acc.size = j := by rw [← Array.length_toList, ea, List.length_map, la]
    refine codeAny_builtin PySem.F.entry_extend_loop ?_
    rw [Around.under_plainId PySem.F.plain_extend_loop _]
    show wpAny _ A.in1 (pyNext (.ref z) >>= fun _ => _) _ _ _
    refine wpAny_bind (zs_item (s := { s with heap := h, toks := tk }) D x0 (Heap.lt_size hS) b1 b2 ex ey fun hp x1 np k2 => ?_)
    have hSl : S < h.objs.size := Heap.lt_size hS
    have ge : ∀ b o, S ≤ b → h.get? b = some o → hp.get? b = some o := fun b o lb e => k2 b o (Nat.ne_of_gt (Nat.lt_of_lt_of_le n1 lb)) (Nat.ne_of_gt (Nat.lt_of_lt_of_le n3 lb)) (Nat.ne_of_gt (Nat.lt_of_lt_of_le n4 lb)) (Nat.ne_of_gt (Nat.lt_of_lt_of_le n5 lb)) e
    have hS' := ge S _ (Nat.le_refl _) hS
    replace np : IsPair hp h.objs.size _ _ := np
    have up : ∀ b o, b ≠ S → hp.get? b = some o → (hp.update S (Obj.mapSeq (·.push (Value.ref h.objs.size)))).get? b = some o := fun b o hb e => (Heap.get?_update_other _ _ (Ne.symm hb)).trans e
    have ut : ∀ {u : Addr} {vs : Array Value}, u < S → u ≠ z → u ≠ TO → u ≠ i1 → u ≠ i2 → h.IsTuple u vs → (hp.update S (Obj.mapSeq (·.push (Value.ref h.objs.size)))).IsTuple u vs := fun {u vs} lu m1 m2 m3 m4 ⟨o, e, r⟩ => ⟨o, up u o (Nat.ne_of_lt lu) (k2 u o m1 m2 m3 m4 e), r⟩
    show wpAny _ A.in1 (updateSeq S (·.push (Value.ref h.objs.size)) >>= fun _ => _) _ _ _
    refine wpAny_bind ?_
    refine wpAny_updateSeq hS' rfl (wpAny_pure ⟨plainId_quiet PySem.F.plain_extend_loop _, ih (j + 1) _ tk _ (acc.push (Value.ref h.objs.size)) (as ++ [h.objs.size]) (by omega) hlt (x1.keep up (Nat.ne_of_lt n1) (Nat.ne_of_lt n2) (Nat.ne_of_lt n3) (Nat.ne_of_lt n4) (Nat.ne_of_lt n5)) (ut n6 D.l1z D.l1TO D.l1i1 D.l1i2 b1) (ut n7 D.l2z D.l2TO D.l2i1 D.l2i2 b2)
      (fun b o m0 m1 m2 m3 m4 e => up b o m0 (k2 b o m1 m2 m3 m4 (kp b o m0 m1 m2 m3 m4 e))) (Heap.get?_update_self _ hS' rfl) (by rw [Array.toList_push, ea, List.map_append]; rfl) (by rw [List.length_append, la]; rfl) ⟨?_, ?_, ?_⟩⟩) (by rw [sz]; omega) (by show (acc.push (Value.ref h.objs.size)).size ≤ sizeLine + 1; rw [Array.size_push, sz]; omega)
    · refine List.pairwise_append.mpr ⟨g.up, List.pairwise_singleton _ _, fun a ha b hb => ?_⟩
      rw [List.mem_singleton.mp hb]; exact g.lt ha
    · intro a ha
      rcases List.mem_append.mp ha with y | y
      · exact g.hi a y
      · rw [List.mem_singleton.mp y]; exact hSl
    · intro i b hi
      by_cases e : i < as.length
      · rw [List.getElem?_append_left e] at hi
        obtain ⟨x, y, e1, e2, e3⟩ := g.at_ i b hi
        have lb := g.hi b (List.mem_of_getElem? hi)
        exact ⟨x, y, e1, e2, up b _ (Nat.ne_of_gt lb) (ge b _ (Nat.le_of_lt lb) e3)⟩
      · have hl := (List.getElem?_eq_some_iff.mp hi).1
        rw [List.length_append] at hl
        have ei : i = as.length := by
          have : [h.objs.size].length = 1 := rfl
          omega
        subst ei
        rw [List.getElem?_append_right (Nat.le_refl _), Nat.sub_self] at hi
        have eb : h.objs.size = b := Option.some.inj hi
        subst eb
        exact ⟨_, _, by rw [la]; exact ex, by rw [la]; exact ey, up _ _ (Nat.ne_of_gt hSl) np⟩
theorem zip_nolen : typeLookup (.type "zip") "__len__" = pure none := am_miss_of_fast (by decide +kernel)
theorem zip_nohint : typeLookup (.type "zip") "__length_hint__" = pure none := am_miss_of_fast (by decide +kernel)
theorem zs_extend {R : Result → Shared → Prop} {z TI TO i1 i2 u1 u2 S : Addr} {xs ys : Array Value} (hh : A.handled = none) (D : ZipApart z TI TO i1 i2 u1 u2) (x0 : ZSt s.heap z TI TO i1 i2 u1 u2 S 0) (hz : IsZip s.heap z TI TO .none) (b1 : s.heap.IsTuple u1 xs) (b2 : s.heap.IsTuple u2 ys) (n1 : z < S) (n2 : TI < S) (n3 : TO < S) (n4 : i1 < S) (n5 : i2 < S) (n6 : u1 < S) (n7 : u2 < S) (hn : min xs.size ys.size ≤ sizeLine) (res : Value) (c0 : Nat) (hS : s.heap.get? S = some { cls := .type "list", data := .seq #[] c0 })
    (q : ∀ h' tk acc c as, (∀ b o, b ≠ S → b ≠ z → b ≠ TO → b ≠ i1 → b ≠ i2 → s.heap.get? b = some o → h'.get? b = some o) → h'.get? S = some { cls := .type "list", dict := none, data := .seq acc c, slots := #[] } → as.length = min xs.size ys.size → ZG xs ys S h' as → acc.toList = as.map Value.ref → R (.ok (.ret res)) { s with heap := h', toks := tk }) :
    wpAny (model prog w) A.in1 (Builtin.List.listExtendWith (.ref S) (.ref z) res)
      (fun fin s' => match fin with | .done f => R (.ok f) s' | .again c' => c'.quiet = true ∧ codeAny (model prog w) A c' R s') (fun e s' => R (.error e) s') s := by
  have tz : s.TypeIs (.ref z) "zip" := ⟨_, hz, rfl⟩
  have key : ∀ (h : Heap) (c1 : Nat), (∀ b o, b ≠ S → s.heap.get? b = some o → h.get? b = some o) → h.get? S = some { cls := .type "list", data := .seq #[] c1 } → codeAny (model prog w) A (.builtin "list.extend.loop" ⟨[.ref S, .ref z, res], []⟩) R { s with heap := h, toks := s.toks } := fun h c1 k hS1 =>
    zs_loop (s := s) (h1 := s.heap) hh D n1 n2 n3 n4 n5 n6 n7 hn res q (min xs.size ys.size) 0 h s.toks c1 #[] [] (Nat.sub_zero _) (Nat.zero_le _) (x0.keep k (Nat.ne_of_lt n1) (Nat.ne_of_lt n2) (Nat.ne_of_lt n3) (Nat.ne_of_lt n4) (Nat.ne_of_lt n5))
      (let ⟨o, e, r⟩ := b1; ⟨o, k _ _ (Nat.ne_of_lt n6) e, r⟩) (let ⟨o, e, r⟩ := b2; ⟨o, k _ _ (Nat.ne_of_lt n7) e, r⟩) (fun b o m0 _ _ _ _ e => k b o m0 e) hS1 rfl rfl ⟨List.Pairwise.nil, (fun _ ha => nomatch ha), (fun j a hj => by simp at hj)⟩
  unfold Builtin.List.listExtendWith
  refine wpAny_bind (wpAny_typeOf (T := "zip") tz ?_)
  have e1 : Builtin.List.listSameRef (.ref S) (.ref z) = false := by simp [Builtin.List.listSameRef, Nat.ne_of_gt n1]
  have e2 : (Value.type "zip" == Value.type "list") = false := by decide
  have e3 : (Value.type "zip" == Value.type "tuple") = false := by decide
  simp only [e1, e2, e3, Bool.or_false, Bool.false_eq_true, if_false]
  refine wpAny_bind (wpAny_pyIter_zip hz (wpAny_bind (wpAny_holding ?_)))
  unfold Builtin.List.listLengthHint
  refine wpAny_bind (wpAny_specialOf tz zip_nolen ?_)
  show wpAny _ A.in1 (specialOf (Value.ref z) (Str.ofString "__length_hint__") >>= fun _ => _) _ _ _
  refine wpAny_bind (wpAny_specialOf tz zip_nohint (wpAny_pure ?_))
  show wpAny _ A.in1 (rule "list.extend.makes-room" >>= fun _ => Builtin.List.listTouch (.ref S) >>= fun _ => again (.builtin "list.extend.loop" ⟨[.ref S, .ref z, res], []⟩)) _ _ _
  refine wpAny_bind (wpAny_rule (wpAny_bind ?_))
  show wpAny _ _ (updateSeq S (·.push .none) >>= fun _ => updateSeq S (·.pop)) _ _ _
  refine wpAny_bind (wpAny_updateSeq hS rfl ?_)
  have g2 := Heap.get?_update_self (Obj.mapSeq (·.push Value.none)) hS rfl
  refine wpAny_updateSeq (hz := by seq_fits) g2 rfl ?_
  have g3 := Heap.get?_update_self (Obj.mapSeq (·.pop)) g2 rfl
  refine wpAny_pure ⟨plainId_quiet PySem.F.plain_extend_loop _, key _ _ (fun b o hb e => ?_) g3⟩
  exact (Heap.get?_update_other _ _ (Ne.symm hb)).trans ((Heap.get?_update_other _ _ (Ne.symm hb)).trans e)
theorem ZG.low {xs ys : Array Value} {lo lo' : Addr} {h : Heap} {as : List Addr} (g : ZG xs ys lo h as) (l : lo' ≤ lo) : ZG xs ys lo' h as := ⟨g.up, fun a ha => Nat.lt_of_le_of_lt l (g.hi a ha), g.at_⟩
theorem zs_call {z TI TO i1 i2 u1 u2 : Addr} {xs ys : Array Value} {Q : Value → Shared → Prop} (hh : A.handled = none) (D : ZipApart z TI TO i1 i2 u1 u2) (hz : IsZip s.heap z TI TO .none) (hP : IsPair s.heap TI (.ref i1) (.ref i2)) (hO : ∃ a b, IsPair s.heap TO a b) (a1 : s.heap.IsTupleIter i1 u1 0) (a2 : s.heap.IsTupleIter i2 u2 0) (b1 : s.heap.IsTuple u1 xs) (b2 : s.heap.IsTuple u2 ys) (hn : min xs.size ys.size ≤ sizeLine)
    (q : ∀ h' tk acc c as, (∀ b o, b ≠ z → b ≠ TO → b ≠ i1 → b ≠ i2 → s.heap.get? b = some o → h'.get? b = some o) → h'.get? s.heap.objs.size = some { cls := .type "list", dict := none, data := .seq acc c, slots := #[] } → as.length = min xs.size ys.size → ZG xs ys s.heap.objs.size h' as → acc.toList = as.map Value.ref → Q (.ref s.heap.objs.size) { s with heap := h', toks := tk }) :
    wpAny (model prog w) A (call (.type "list") [.ref z]) Q E s := by
  refine callType_codes (Q₁ := fun obj s₁ => obj = .ref s.heap.objs.size ∧ s₁ = { s with heap := s.heap.push { cls := .type "list", data := .seq #[] } }) PySem.F.called_list (PySem.F.typeCall_list_1 _) PySem.F.entry_list_init (code_list_new _ ⟨rfl, rfl⟩) fun obj s₁ h₁ => ?_
  obtain ⟨rfl, rfl⟩ := h₁
  have hS : (s.heap.push { cls := .type "list", data := .seq #[] }).get? s.heap.objs.size = some { cls := .type "list", data := .seq #[] } := Heap.get?_push_size _ rfl
  refine ⟨⟨_, hS, rfl⟩, PySem.F.args_list_init_2 _ _, ?_⟩
  show wpAny _ A.in1.in1 (do let old ← Builtin.List.listItems (.ref s.heap.objs.size); Builtin.List.listUpdate (.ref s.heap.objs.size) (fun _ => #[]); letGo old.toList.reverse; Builtin.List.listExtendWith (.ref s.heap.objs.size) (.ref z) .none) _ _ _
  refine wpAny_bind ?_
  unfold Builtin.List.listItems
  refine wpAny_bind (wpAny_seqItems hS rfl (wpAny_pure ?_))
  show wpAny _ _ (updateSeq s.heap.objs.size (fun _ => #[]) >>= fun _ => letGo (#[] : Array Value).toList.reverse >>= fun _ => Builtin.List.listExtendWith (.ref s.heap.objs.size) (.ref z) .none) _ _ _
  refine wpAny_bind (wpAny_updateSeq hS rfl ?_)
  have g2 := Heap.get?_update_self (Obj.mapSeq (fun _ => (#[] : Array Value))) hS rfl
  have oth : ∀ b o, s.heap.get? b = some o → ((s.heap.push { cls := .type "list", data := .seq #[] }).update s.heap.objs.size (Obj.mapSeq (fun _ => (#[] : Array Value)))).get? b = some o :=
    fun b o e => (Heap.get?_update_other _ _ (Nat.ne_of_gt (Heap.lt_size e))).trans (Heap.get?_push_of_some _ e)
  refine wpAny_bind (wpAny_letGo ?_)
  obtain ⟨oa, ob, hO⟩ := hO
  have l1 : i1 < s.heap.objs.size := by obtain ⟨_, e, _⟩ := a1; exact Heap.lt_size e
  have l2 : i2 < s.heap.objs.size := by obtain ⟨_, e, _⟩ := a2; exact Heap.lt_size e
  have l3 : u1 < s.heap.objs.size := by obtain ⟨_, e, _⟩ := b1; exact Heap.lt_size e
  have l4 : u2 < s.heap.objs.size := by obtain ⟨_, e, _⟩ := b2; exact Heap.lt_size e
  have key := zs_extend (prog := prog) (w := w) (A := A.in1) (s := { s with heap := (s.heap.push { cls := .type "list", data := .seq #[] }).update s.heap.objs.size (Obj.mapSeq (fun _ => (#[] : Array Value))) }) (R := wants (fun v s' => v = .none ∧ Q (.ref s.heap.objs.size) s') E) hh D
    ⟨oth _ _ hP, a1.at fun o e => oth _ _ e, a2.at fun o e => oth _ _ e, .inl ⟨rfl, oth _ _ hz, oa, ob, oth _ _ hO⟩⟩ (oth _ _ hz) (let ⟨o, e, r⟩ := b1; ⟨o, oth _ _ e, r⟩) (let ⟨o, e, r⟩ := b2; ⟨o, oth _ _ e, r⟩) (Heap.lt_size hz) (Heap.lt_size hP) (Heap.lt_size hO) l1 l2 l3 l4 hn .none _ g2
    (fun h' tk acc c as k hS' la g ea => ⟨rfl, q h' tk acc c as (fun b o m1 m2 m3 m4 e => k b o (Nat.ne_of_lt (Heap.lt_size e)) m1 m2 m3 m4 (oth b o e)) hS' la g ea⟩)
  exact key
end
theorem lookup_zip {β : Type} : ∀ {as : List Addr} {ps : List β}, as.Nodup → ∀ {j : Nat} {a : Addr} {p : β}, as[j]? = some a → ps[j]? = some p → (as.zip ps).lookup a = some p
  | [], _, _, j, a, p, h, _ => by simp at h
  | _ :: _, [], _, j, a, p, _, h => by simp at h
  | b :: as, r :: ps, nd, 0, a, p, h1, h2 => by
    have e1 : b = a := Option.some.inj h1
    have e2 : r = p := Option.some.inj h2
    subst e1 e2
    simp [List.lookup]
  | b :: as, r :: ps, nd, j + 1, a, p, h1, h2 => by
    have h1' : as[j]? = some a := h1
    have hn := List.nodup_cons.mp nd
    have ne : (a == b) = false := by
      rw [beq_eq_false_iff_ne]
      intro e
      exact hn.1 (e ▸ List.mem_of_getElem? h1')
    show ((b, r) :: as.zip ps).lookup a = some p
    rw [List.lookup_cons, ne]
    exact lookup_zip hn.2 h1' h2
theorem lookup_not {β : Type} : ∀ {as : List Addr} {ps : List β} {a : Addr}, a ∉ as → (as.zip ps).lookup a = none
  | [], _, _, _ => by simp
  | _ :: _, [], _, _ => by simp
  | b :: as, r :: ps, a, h => by
    have ne : (a == b) = false := by
      rw [beq_eq_false_iff_ne]
      intro e
      exact h (by rw [e]; exact List.mem_cons_self ..)
    show ((b, r) :: as.zip ps).lookup a = none
    rw [List.lookup_cons, ne]
    exact lookup_not fun z => h (List.mem_cons_of_mem _ z)
def putZ (H : Hp) (S : Addr) (as : List Addr) (ps : List (V × V)) : Hp := fun b => if b = S then some (.lst (as.map V.ref)) else match (as.zip ps).lookup b with
  | some p => some (.tup [p.1, p.2])
  | none => H b
def tListZip (K : PySem.W.Frag) (ta : TA) : TE := fun σ H Q => ta σ H fun vs H1 => ∃ a b xs ys, vs = [.ref a, .ref b] ∧ SqT K H1 a xs ∧ SqT K H1 b ys ∧
  ∀ (H' : Hp) (p : Addr) (ts : List Addr), Same H1 H' → H1 p = none → H' p = some (.lst (ts.map V.ref)) → ts.length = min xs.length ys.length → (∀ (j : Nat) (t : Addr), ts[j]? = some t → ∃ x y, xs[j]? = some x ∧ ys[j]? = some y ∧ H' t = some (.tup [x, y])) → Q (.ref p) H'
section
variable {X : Cx} {e e2 : Expr} {ta : TA} {p p2 pos pos2 : Pos}
/-- list(zip(s, t)) -/
theorem pe_listZip (hc : X.calm = true) (hg : Gl X "list") (hm : X.mg "list" = none) (hg2 : Gl X "zip") (hm2 : X.mg "zip" = none) (ha : PA X [e, e2] ta)
    (hs : starEach [.Call (.Name "zip" p2) [e, e2] [] pos2] X.env = (false, eval (.Call (.Name "zip" p2) [e, e2] [] pos2) X.env) :: starEach [] X.env := by rfl)
    (hs2 : starEach [e, e2] X.env = (false, eval e X.env) :: starEach [e2] X.env := by rfl) (hpl : (backTo pos2 (starEach [e2] X.env)).any (·.1) = false := by rfl) :
    PE X (.Call (.Name "list" p) [.Call (.Name "zip" p2) [e, e2] [] pos2] [] pos) (tListZip X.K ta) := by
  refine ⟨fun pins s σ H Q I hq => ?_⟩
  refine wpAny_Call_Name_kw (ld_blt I hg hm boot_list (PyProof.Rows.callWith_type1 ?_ hs rfl))
  rw [hs]
  refine Calls.spliced_cons (Call_ (ld_blt I hg2 hm2 PyProof.Rows.boot_zip (PyProof.Rows.callWith_type1 (thn (ha.run pos2 pins s σ H _ I hq) fun us s1 ⟨vs, H1, I1, r1, q1⟩ => ?_) hs2 hpl)))
  obtain ⟨a, b, xs, ys, ex, hx, hy, q⟩ := q1
  subst ex
  obtain ⟨v1, v2, rfl, r2, r3⟩ := vals2 r1
  cases r2
  cases r3
  obtain ⟨its, rv, t1, z1⟩ := I1.tuple hx
  obtain ⟨its2, rv2, t2, z2⟩ := I1.tuple hy
  obtain ⟨o1, ho1, _⟩ := id t1
  obtain ⟨o2, ho2, _⟩ := id t2
  have l1 := rv.length
  have l2 := rv2.length
  refine RZ.call_zipT (show s1.heap.IsTuple a its.toArray from t1) (show s1.heap.IsTuple b its2.toArray from t2) fun h1 hz hP hO i1 i2 hsz hk => Calls.spliced_nil ?_
  have D := PySem.W.ktu_apart s1.heap.objs.size a b (Heap.lt_size ho1) (Heap.lt_size ho2)
  refine zs_call (s := { s1 with heap := h1 }) (I1.ok.hd hc) D hz hP ⟨_, _, hO⟩ i1 i2 (let ⟨o, e, r⟩ := t1; ⟨o, hk _ _ e, r⟩) (let ⟨o, e, r⟩ := t2; ⟨o, hk _ _ e, r⟩) (by rw [List.size_toArray, List.size_toArray]; omega) fun h' tk acc c as k hS la g ea => ?_
  dsimp only at k hS g ⊢
  rw [List.size_toArray, List.size_toArray, ← l1, ← l2] at la
  have kp : ∀ b o, s1.heap.get? b = some o → h'.get? b = some o := fun b o e => by
    have lb := Heap.lt_size e
    exact k b o (Nat.ne_of_lt (Nat.lt_of_lt_of_le lb (Nat.le_add_right _ _))) (Nat.ne_of_lt (Nat.lt_of_lt_of_le lb (Nat.le_add_right _ _))) (Nat.ne_of_lt lb) (Nat.ne_of_lt (Nat.lt_succ_of_lt lb)) (hk b o e)
  have sz5 : s1.heap.objs.size ≤ h1.objs.size := by rw [hsz]; exact Nat.le_add_right _ _
  have ab : ∀ t ∈ as, s1.heap.objs.size ≤ t := fun t ht => Nat.le_of_lt (Nat.lt_of_le_of_lt sz5 (g.hi t ht))
  have nd : as.Nodup := List.Pairwise.imp (fun {a b} (h : a < b) => Nat.ne_of_lt h) g.up
  have new : ∀ t, s1.heap.objs.size ≤ t → H1 t = none := fun t ht => I1.hok.fresh ht
  have hSn : h1.objs.size ∉ as := fun z => Nat.lt_irrefl _ (g.hi _ z)
  have atH : ∀ (j : Nat) (t : Addr), as[j]? = some t → ∃ x y, xs[j]? = some x ∧ ys[j]? = some y ∧ putZ H1 h1.objs.size as (xs.zip ys) t = some (.tup [x, y]) ∧ ∃ u v, RelV x u ∧ RelV y v ∧ IsPair h' t u v := fun j t hj => by
    have hjl := (List.getElem?_eq_some_iff.mp hj).1
    obtain ⟨u, v, e1, e2, e3⟩ := g.at_ j t hj
    have ex : xs[j]? = some (xs[j]'(by omega)) := List.getElem?_eq_getElem _
    have ey : ys[j]? = some (ys[j]'(by omega)) := List.getElem?_eq_getElem _
    obtain ⟨u', hu', ru⟩ := rv.get ex
    obtain ⟨v', hv', rv'⟩ := rv2.get ey
    have eu : u' = u := by
      have z : its[j]? = some u := by simpa using e1
      rw [hu'] at z; exact Option.some.inj z
    have ev : v' = v := by
      have z : its2[j]? = some v := by simpa using e2
      rw [hv'] at z; exact Option.some.inj z
    subst eu ev
    refine ⟨_, _, ex, ey, ?_, u', v', ru, rv', e3⟩
    have ez : (xs.zip ys)[j]? = some (xs[j]'(by omega), ys[j]'(by omega)) := by
      rw [List.getElem?_zip_eq_some]; exact ⟨ex, ey⟩
    unfold putZ
    rw [if_neg (show ¬ t = h1.objs.size from fun z => hSn (by rw [← z]; exact List.mem_of_getElem? hj)), lookup_zip nd hj ez]
  have eS : putZ H1 h1.objs.size as (xs.zip ys) h1.objs.size = some (.lst (as.map V.ref)) := by unfold putZ; rw [if_pos rfl]
  have off : ∀ t, t ∉ as → t ≠ h1.objs.size → putZ H1 h1.objs.size as (xs.zip ys) t = H1 t := fun t n1 n2 => by
    unfold putZ
    rw [if_neg n2, lookup_not n1]
  have kpH : ∀ t o, H1 t = some o → putZ H1 h1.objs.size as (xs.zip ys) t = some o := fun t o e => by
    rw [off t (fun z => by rw [new t (ab t z)] at e; cases e) (fun z => by rw [z, new _ sz5] at e; cases e)]
    exact e
  refine ⟨.ref h1.objs.size, putZ H1 h1.objs.size as (xs.zip ys), ?_, rfl, q _ _ as kpH (new _ sz5) eS la fun j t hj => ?_⟩
  · have J := I1.call' (ch := []) (H' := putZ H1 h1.objs.size as (xs.zip ys)) (s' := { s1 with heap := h', toks := tk }) rfl ⟨fun b o q _ _ _ => kp b o q, fun b o q _ _ _ => ⟨o.slots, kp b o q⟩, fun b o q n _ => ?_, fun b o q _ => ⟨o, kp b o q⟩, fun b xs q => kpH b _ q, fun b o u q => kpH b _ q, fun b ps q => ⟨#[], by rw [kpH b _ q]; simp⟩⟩ (fun b u q => ?_) I1.bare fun b z => by simp at z
    · exact J
    · have lb := Heap.lt_size q
      rw [off b (fun z => absurd lb (Nat.not_lt.mpr (ab b z))) (fun z => absurd lb (Nat.not_lt.mpr (by rw [z]; exact sz5)))]
      exact n
    · by_cases hb : b ∈ as
      · obtain ⟨j, hj⟩ := List.mem_iff_getElem?.mp hb
        obtain ⟨x, y, _, _, e3, u1, v1, ru, rv', pr⟩ := atH j b hj
        rw [e3] at q
        cases q
        exact ⟨by show 2 ≤ sizeLine; decide, [u1, v1], .cons ru (.cons rv' .nil), ⟨_, pr, rfl, _, rfl⟩⟩
      · by_cases hb2 : b = h1.objs.size
        · subst hb2
          rw [eS] at q
          cases q
          refine ⟨by rw [List.length_map]; omega, acc.toList, c, by rw [ea]; exact LiI.vals_refs as, ?_⟩
          rw [Array.toArray_toList]
          exact hS
        · rw [off b hb hb2] at q
          exact (I1.hok b u q).stay (fun d v _ y => kp d v y) (fun d y => kpH d _ y) fun d xs y => kpH d _ y
  · obtain ⟨x, y, e1, e2, e3, _⟩ := atH j t hj
    exact ⟨x, y, e1, e2, e3⟩
end
end RV
set_option maxHeartbeats 4000000
namespace K20
open PySem PySem.Spec PyProof.Rows L2 RV
/-- the mirror -/
def mirI (ns : List Int) (x : Int) : Int := ns.getD x.toNat 0
theorem mirI_at {ns : List Int} {x mx : Int} (h : ns[x.toNat]? = some mx) : mirI ns x = mx := by unfold mirI; rw [List.getD_eq_getElem?_getD, h]; rfl
theorem mirI_get {ns : List Int} {x : Int} (h0 : 0 ≤ x) (h1 : x < (ns.length : Int)) : ns[x.toNat]? = some (mirI ns x) := by
  have h : x.toNat < ns.length := by omega
  unfold mirI
  rw [List.getD_eq_getElem?_getD, List.getElem?_eq_getElem h]; rfl
/-- the part is its own mirror -/
def Own (ns p : List Int) : Prop := ∀ x ∈ p, mirI ns x ∈ p
noncomputable def ownB (ns p : List Int) : Bool := @decide (Own ns p) (Classical.propDecidable _)
theorem ownB_iff {ns p : List Int} : ownB ns p = true ↔ Own ns p := @decide_eq_true_iff _ (Classical.propDecidable _)
def atAx (ns : List Int) (ps : List (List Int)) (m g : Int) : Bool := if g = 0 then decide (mirI ns m = m) else decide (mirI ns m ∈ behindOf ps m)
section
variable {P : Program} {w : World} {K : PySem.W.Frag} {mg : Str → Option Value} {base : Heap}
/-! ### is_own_mirror -/
def spIsOwn (K : PySem.W.Frag) (C : Addr) : Sp := fun vs H Q _ => ∃ (r : Addr) (k : Nat) (p : List Int) (ns : List Int) (ps : List (List Int)), vs = [.ref r, .int (k : Int)] ∧ RuleAt K C H r ns ps ∧ Mir ns ∧ Stp ns ps ∧ (partsOf ps ns.length)[k]? = some p ∧ ∀ H', Same H H' → Q (.bl (ownB ns p)) H'
/-! ### is_at_axis -/
def spIsAt (K : PySem.W.Frag) (C : Addr) : Sp := fun vs H Q _ => ∃ (r : Addr) (m g : Int) (ns : List Int) (ps : List (List Int)), vs = [.ref r, .int m, .int g] ∧ RuleAt K C H r ns ps ∧ (0 ≤ m ∧ m < (ns.length : Int)) ∧ Q (.bl (atAx ns ps m g)) H
end
end K20
set_option maxHeartbeats 4000000
namespace K20
open PySem PySem.Spec PyProof.Rows L2 RV
/-- a loop over a list that its turns leave as it is -/
theorem it_list {K : PySem.W.Frag} {a : Addr} {xs : List V} {H0 : Hp} {Fin : Hp → Prop} {Bd : V → Hp → (Hp → Prop) → Prop} (Pv : Nat → Hp → Prop) (h0 : Pv 0 H0) (hl : ∀ i H, i ≤ xs.length → Pv i H → SqL K H a xs)
    (hs : ∀ i x H, xs[i]? = some x → Pv i H → Bd x H (Pv (i + 1))) (hd : ∀ H, Pv xs.length H → Fin H) :
    ∃ W : Nat → Nat → Hp → Prop, (∃ m, W 0 m H0) ∧ ∀ i m H, W i m H → ((Itl K a).stop i H ∧ Fin H) ∨ ((Itl K a).go i H ∧ ∃ Nx : Hp → Prop, (∀ H', Nx H' → ∃ m', m' < m ∧ W (i + 1) m' H') ∧ ∀ x H', (Itl K a).yld i H x H' → Bd x H' Nx) := by
  refine ⟨fun i m H => i ≤ xs.length ∧ m + i = xs.length ∧ Pv i H, ⟨xs.length, Nat.zero_le _, rfl, h0⟩, fun i m H ⟨hi, hm, hp⟩ => ?_⟩
  have hq := hl i H hi hp
  rcases Nat.lt_or_ge i xs.length with z | z
  · refine .inr ⟨⟨xs, xs[i], hq, List.getElem?_eq_getElem z⟩, Pv (i + 1), fun H' p' => ⟨m - 1, by omega, z, by omega, p'⟩, fun x H' y => ?_⟩
    obtain ⟨rfl, y⟩ := y
    exact hs i x _ (y xs hq) hp
  · obtain rfl : i = xs.length := by omega
    exact .inl ⟨⟨xs, hq, Nat.le_refl _⟩, hd H hp⟩
theorem SetL.more {w : World} {H : Hp} {D : Addr} {ls : List Int} (h : SetL w H D ls) (c : Int) (room : ls.length ≤ 1000) : ∃ (S : Int → Bool) (n : Nat), H D = some (SetO w D S n) ∧ n + 1 < scanBound ∧ ∃ ls', SetL w (upd H D (SetO w D (fun j => S j || decide (j = c)) (if S c = true then n else n + 1))) D ls' ∧ ls'.length ≤ ls.length + 1 ∧ ∀ k, k ∈ ls' ↔ k ∈ ls ∨ k = c := by
  obtain ⟨S, h1, h2, h3⟩ := h
  refine ⟨S, ls.length, h1, by show ls.length + 1 < 4096; omega, ?_⟩
  by_cases e : S c = true
  · refine ⟨ls, ⟨_, by rw [upd_same, if_pos e], h2, fun k => ?_⟩, by omega, fun k => ⟨.inl, fun z => z.elim id fun z => by rw [z]; exact (h3 c).mp e⟩⟩
    rw [Bool.or_eq_true, h3, decide_eq_true_iff]
    exact ⟨fun z => z.elim id fun z => by rw [z]; exact (h3 c).mp e, .inl⟩
  · refine ⟨c :: ls, ⟨_, by rw [upd_same, if_neg e]; rfl, List.nodup_cons.mpr ⟨fun z => e ((h3 c).mpr z), h2⟩, fun k => ?_⟩, Nat.le_refl _, fun k => by rw [List.mem_cons, or_comm]⟩
    rw [Bool.or_eq_true, h3, decide_eq_true_iff, List.mem_cons, or_comm]
/-- the axis classes -/
def AxC (ns : List Int) (ps : List (List Int)) (p : List Int) (z : Int) : Prop := Own ns p ∧ ∃ m ∈ p, ∃ g ∈ ([0, 1] : List Int), atAx ns ps m g = true ∧ z = 2 * ((clsM ps ns.length m : Nat) : Int) + g
section
variable {P : Program} {w : World} {K : PySem.W.Frag} {mg : Str → Option Value} {base : Heap}
/-! ### axis_classes -/
abbrev nAx : List Str := ["rule", "part", "known", "mark", "k", "gap"]
def spAx (K : PySem.W.Frag) (C : Addr) : Sp := fun vs H Q _ => ∃ (r : Addr) (k : Nat) (p : List Int) (ns : List Int) (ps : List (List Int)), vs = [.ref r, .int (k : Int)] ∧ RuleAt K C H r ns ps ∧ Mir ns ∧ Stp ns ps ∧ (partsOf ps ns.length)[k]? = some p ∧
  ∀ (H' : Hp) (t : Addr) (zs : List Int), Same H H' → SqT K H' t (zs.map V.int) → zs.Pairwise (· < ·) → (∀ z, z ∈ zs ↔ AxC ns ps p z) → zs.length ≤ 16 → Q (.ref t) H'
end
end K20
set_option maxHeartbeats 4000000
namespace K20
open PySem PySem.Spec PyProof.Rows L2 RV
theorem fmod_small {c d : Int} (h : d ≠ 0) : (c.fmod d).natAbs < d.natAbs := by
  rw [Int.fmod_eq_emod]
  have h1 := Int.emod_nonneg c h
  have h2 : c % d < (d.natAbs : Int) := Int.emod_lt c h
  by_cases z : 0 ≤ d ∨ d ∣ c
  · rw [if_pos z]
    omega
  · rw [if_neg z]
    have h3 : ¬ (d ∣ c) := fun y => z (.inr y)
    have h4 : c % d ≠ 0 := fun y => h3 (Int.dvd_of_emod_eq_zero y)
    have h5 : ¬ 0 ≤ d := fun y => z (.inl y)
    omega
theorem gcd_fmod (c d : Int) : Int.gcd d (c.fmod d) = Int.gcd c d := by
  have e : c.fmod d = c - d * c.fdiv d := Int.fmod_def c d
  refine Nat.dvd_antisymm ?_ ?_
  · have h1 : ((Int.gcd d (c.fmod d) : Nat) : Int) ∣ d := Int.gcd_dvd_left ..
    have h2 : ((Int.gcd d (c.fmod d) : Nat) : Int) ∣ c.fmod d := Int.gcd_dvd_right ..
    have h3 : ((Int.gcd d (c.fmod d) : Nat) : Int) ∣ c := by
      have z := Int.dvd_add h2 (Int.dvd_trans h1 (Int.dvd_mul_right d (c.fdiv d)))
      rwa [show c.fmod d + d * c.fdiv d = c by omega] at z
    exact Int.ofNat_dvd.mp (Int.dvd_coe_gcd h3 h1)
  · have h1 : ((Int.gcd c d : Nat) : Int) ∣ c := Int.gcd_dvd_left ..
    have h2 : ((Int.gcd c d : Nat) : Int) ∣ d := Int.gcd_dvd_right ..
    have h3 : ((Int.gcd c d : Nat) : Int) ∣ c.fmod d := by
      rw [e]
      exact Int.dvd_sub h1 (Int.dvd_trans h2 (Int.dvd_mul_right _ _))
    exact Int.ofNat_dvd.mp (Int.dvd_coe_gcd h2 h3)
/-! ### gaps, as marks are found -/
theorem one_off {us : List (Int × Nat)} (nd : (us.map (·.1)).Nodup) {m : Int} {a b : Nat} (h1 : (m, a) ∈ us) (h2 : (m, b) ∈ us) : a = b := by
  have e1 := valO_at nd h1
  have e2 := valO_at nd h2
  rw [e1] at e2
  have := Option.some.inj e2
  injection this with e
  omega
theorem gf_grow {ps : List (List Int)} {p : List Int} {us : List (Int × Nat)} {qs : List (List Int)} {g : Nat} {y0 : Int} {n : Nat} (G : Gf ps p us qs g) (nd : ((us ++ [(y0, n)]).map (·.1)).Nodup) (known : ∀ x y : Int, [x, y] ∈ qs → x ∈ us.map (·.1) ∧ y ∈ us.map (·.1)) : Gf ps p (us ++ [(y0, n)]) qs g := by
  have old : ∀ (x : Int) (a : Nat), x ∈ us.map (·.1) → (x, a) ∈ us ++ [(y0, n)] → (x, a) ∈ us := fun x a hx ha => by
    rcases List.mem_append.mp ha with z | z
    · exact z
    · have z := List.mem_singleton.mp z
      cases z
      rw [List.map_append, List.nodup_append] at nd
      exact (nd.2.2 _ hx _ (List.mem_singleton.mpr rfl) rfl).elim
  exact ⟨fun x y a b h hx hy ha hb => G.all x y a b h hx hy (old x a (known x y h).1 ha) (old y b (known x y h).2 hb), fun d hd => G.most d fun x y a b h hx hy ha hb => hd x y a b h hx hy (List.mem_append_left _ ha) (List.mem_append_left _ hb)⟩
theorem gf_more {ps : List (List Int)} {p : List Int} {us : List (Int × Nat)} {qs : List (List Int)} {g : Nat} {x y : Int} {a b : Nat} (nd : (us.map (·.1)).Nodup) (G : Gf ps p us qs g) (hx : x ∈ p) (hy : y ∈ p) (ha : (x, a) ∈ us) (hb : (y, b) ∈ us) : Gf ps p us (qs ++ [[x, y]]) (Nat.gcd g (gapO a b)) := by
  refine ⟨fun x' y' a' b' h hx' hy' ha' hb' => ?_, fun d hd => Nat.dvd_gcd (G.most d fun x' y' a b h => hd x' y' a b (List.mem_append_left _ h)) (hd x y a b (List.mem_append_right _ (List.mem_singleton.mpr rfl)) hx hy ha hb)⟩
  rcases List.mem_append.mp h with e | e
  · exact Nat.dvd_trans (Nat.gcd_dvd_left _ _) (G.all x' y' a' b' e hx' hy' ha' hb')
  · have e := List.mem_singleton.mp e
    injection e with e1 e2
    injection e2 with e2 _
    subst e1 e2
    rw [one_off nd ha' ha, one_off nd hb' hb]
    exact Nat.gcd_dvd_right _ _
theorem gf_like {ps : List (List Int)} {p : List Int} {us : List (Int × Nat)} {qs qs' : List (List Int)} {g : Nat} (G : Gf ps p us qs g) (e : ∀ x y : Int, x ∈ p → y ∈ p → ([x, y] ∈ qs ↔ [x, y] ∈ qs')) : Gf ps p us qs' g :=
  ⟨fun x y a b h hx hy ha hb => G.all x y a b ((e x y hx hy).mpr h) hx hy ha hb, fun d hd => G.most d fun x y a b h hx hy ha hb => hd x y a b ((e x y hx hy).mp h) hx hy ha hb⟩
section
variable {P : Program} {w : World} {K : PySem.W.Frag} {mg : Str → Option Value} {base : Heap}
/-! ### _law_common -/
def spCommon : Sp := fun vs H Q _ => ∃ a b : Int, vs = [.int a, .int b] ∧ Q (.int ((Int.gcd a b : Nat) : Int)) H
end
end K20
set_option maxHeartbeats 4000000
namespace K20
open PySem PySem.Spec PyProof.Rows L2 RV
theorem paired_get {α β : Type} {F : α → β → Prop} : ∀ {ts : List α} {ks : List β}, ts.length = ks.length → (∀ (j : Nat) (t : α) (k : β), ts[j]? = some t → ks[j]? = some k → F t k) → Paired F ts ks
  | [], [], _, _ => .nil
  | [], _ :: _, h, _ => by cases h
  | _ :: _, [], h, _ => by cases h
  | t :: ts, k :: ks, h, f => .cons (f 0 t k rfl rfl) (paired_get (Nat.succ.inj h) fun j a b ha hb => f (j + 1) a b ha hb)
theorem merge_fn {f : Int → V} {k : Int} : ∀ (l : List Int) (kvs : List (L2.Key × V)), valV (mergeK kvs (l.map fun m => ((Sum.inl m : L2.Key), f m))) (Sum.inl k) = if k ∈ l then some (f k) else valV kvs (Sum.inl k)
  | [], kvs => by simp [mergeK]
  | m :: l, kvs => by
    show valV (mergeK (putK kvs (Sum.inl m) (f m)) (l.map fun m => ((Sum.inl m : L2.Key), f m))) (Sum.inl k) = _
    rw [merge_fn l, valV_put]
    by_cases e : k = m
    · subst e
      by_cases h : k ∈ l <;> simp [h]
    · have e' : ¬ (Sum.inl k : L2.Key) = Sum.inl m := fun z => e (Sum.inl.inj z)
      by_cases h : k ∈ l <;> simp [h, e, e']
/-- what _law_classes tells: the period and each mark's class -/
def Known (H : Hp) (t : Addr) (ps : List (List Int)) (N : Nat) (p : List Int) : Prop := ∃ (d : Addr) (kvs : List (L2.Key × V)), H t = some (.tup [.int ((perN ps (hd0 p) : Nat) : Int), .ref d]) ∧ H d = some (.dK kvs) ∧ ∀ m ∈ p, valV kvs (Sum.inl m) = some (.int ((clsM ps N m : Nat) : Int))
theorem Known.same {H H' : Hp} {t : Addr} {ps : List (List Int)} {N : Nat} {p : List Int} (h : Known H t ps N p) (s : Same H H') : Known H' t ps N p := by
  obtain ⟨d, kvs, h1, h2, h3⟩ := h
  exact ⟨d, kvs, s _ _ h1, s _ _ h2, h3⟩
section
variable {P : Program} {w : World} {K : PySem.W.Frag} {mg : Str → Option Value} {base : Heap}
/-! ### _law_classes -/
abbrev nLC : List Str := ["_law_steps", "_law_part", "_law_off", "_law_waiting", "_law_goes", "_law_mark", "_law_other", "_law_a", "_law_b"]
def spLC (K : PySem.W.Frag) : Sp := fun vs H Q _ => ∃ (c a : Addr) (ns p : List Int) (ps : List (List Int)), vs = [.ref c, .ref a] ∧ TupsH H c ps ∧ Mir ns ∧ Stp ns ps ∧ p ∈ partsOf ps ns.length ∧ SqT K H a (p.map V.int) ∧
  ∀ (H' : Hp) (t : Addr), Same H H' → Known H' t ps ns.length p → Per ps (hd0 p) (perN ps (hd0 p)) → Q (.ref t) H'
end
end K20
set_option maxHeartbeats 4000000
/-! rising lists of marks: at most two to the power of how many; where walks end, step by step, comes round -/
namespace RV
def subs : Nat → List (List Int)
  | 0 => [[]]
  | n + 1 => subs n ++ (subs n).map fun xs => xs ++ [(n : Int)]
theorem subs_len : ∀ n, (subs n).length = 2 ^ n
  | 0 => rfl
  | n + 1 => by
    show (subs n ++ (subs n).map _).length = _
    rw [List.length_append, List.length_map, subs_len n, Nat.pow_succ]; omega
theorem mem_subs : ∀ {n : Nat} {xs : List Int}, xs.Pairwise (· < ·) → (∀ x ∈ xs, 0 ≤ x ∧ x < (n : Int)) → xs ∈ subs n
  | 0, xs, _, h => by
    cases xs with
    | nil => exact List.mem_singleton.mpr rfl
    | cons x xs => have := h x List.mem_cons_self; omega
  | n + 1, xs, hr, h => by
    show xs ∈ subs n ++ (subs n).map _
    rw [List.mem_append]
    by_cases e : xs = []
    · subst e
      exact .inl (mem_subs List.Pairwise.nil fun x hx => nomatch hx)
    obtain ⟨ys, y, rfl⟩ : ∃ ys y, xs = ys ++ [y] := ⟨xs.dropLast, xs.getLast e, (List.dropLast_concat_getLast e).symm⟩
    obtain ⟨r1, _, r2⟩ := List.pairwise_append.mp hr
    have hy := h y (List.mem_append_right _ (List.mem_singleton.mpr rfl))
    have hys : ∀ x ∈ ys, 0 ≤ x ∧ x < y := fun x hx => ⟨(h x (List.mem_append_left _ hx)).1, r2 x hx y (List.mem_singleton.mpr rfl)⟩
    by_cases e2 : y = (n : Int)
    · subst e2
      exact .inr (List.mem_map.mpr ⟨ys, mem_subs r1 hys, rfl⟩)
    · refine .inl (mem_subs hr fun x hx => ?_)
      rcases List.mem_append.mp hx with z | z
      · have := hys x z; omega
      · rw [List.mem_singleton.mp z]; omega
theorem rise_uniq : ∀ {xs ys : List Int}, xs.Pairwise (· < ·) → ys.Pairwise (· < ·) → (∀ x, x ∈ xs ↔ x ∈ ys) → xs = ys
  | [], [], _, _, _ => rfl
  | [], y :: ys, _, _, h => nomatch (h y).mpr List.mem_cons_self
  | x :: xs, [], _, _, h => nomatch (h x).mp List.mem_cons_self
  | x :: xs, y :: ys, hx, hy, h => by
    obtain ⟨x1, x2⟩ := List.pairwise_cons.mp hx
    obtain ⟨y1, y2⟩ := List.pairwise_cons.mp hy
    have e : x = y := by
      rcases List.mem_cons.mp ((h x).mp List.mem_cons_self) with z | z
      · exact z
      · rcases List.mem_cons.mp ((h y).mpr List.mem_cons_self) with z2 | z2
        · exact z2.symm
        · have := y1 x z; have := x1 y z2; omega
    subst e
    rw [rise_uniq x2 y2 fun z => ?_]
    constructor
    · intro hz
      rcases List.mem_cons.mp ((h z).mp (List.mem_cons_of_mem _ hz)) with e | e
      · have := x1 z hz; omega
      · exact e
    · intro hz
      rcases List.mem_cons.mp ((h z).mpr (List.mem_cons_of_mem _ hz)) with e | e
      · have := y1 z hz; omega
      · exact e
section
variable {bh : Int → List Int} {m : Int}
/-- the rising list of where n steps lead from m -/
def isE (bh : Int → List Int) (m : Int) (n : Nat) (xs : List Int) : Prop := xs.Pairwise (· < ·) ∧ ∀ x, x ∈ xs ↔ lk bh n m x
theorem isE_uniq {n n' : Nat} {xs ys : List Int} (h : isE bh m n xs) (h' : isE bh m n' ys) (e : ∀ x, lk bh n m x ↔ lk bh n' m x) : xs = ys := rise_uniq h.1 h'.1 fun x => (h.2 x).trans ((e x).trans (h'.2 x).symm)
theorem lk_round {f l : Nat} (hf : f < l) (e : ∀ x, lk bh l m x ↔ lk bh f m x) : ∀ (n : Nat), f ≤ n → ∀ x, lk bh n m x ↔ lk bh (f + (n - f) % (l - f)) m x := by
  intro n
  induction n using Nat.strongRecOn with
  | ind n ih =>
    intro hn x
    by_cases z : n < l
    · rw [Nat.mod_eq_of_lt (by omega), Nat.add_sub_cancel' hn]
    · have h1 : lk bh n m x ↔ lk bh (f + (n - l)) m x := by
        rw [show n = l + (n - l) by omega, lk_add, show l + (n - l) - l = n - l by omega, lk_add]
        exact exists_congr fun c => and_congr (e c) Iff.rfl
      rw [h1, ih (f + (n - l)) (by omega) (by omega) x]
      have : (n - f) % (l - f) = (f + (n - l) - f) % (l - f) := by
        rw [show n - f = (f + (n - l) - f) + (l - f) by omega, Nat.add_mod_right]
      rw [this]
end
end RV
set_option maxHeartbeats 4000000
namespace K20
open PySem PySem.Spec PyProof.Rows L2 RV
theorem mirI_two {ns : List Int} (M : Mir ns) {x : Int} (h0 : 0 ≤ x) (h1 : x < (ns.length : Int)) : mirI ns (mirI ns x) = x := mirI_at (mir_back M h0 (mirI_get h0 h1))
theorem sorted_own {ns : List Int} (M : Mir ns) {p zs : List Int} (rise : p.Pairwise (· < ·)) (inn : ∀ x ∈ p, 0 ≤ x ∧ x < (ns.length : Int)) (pm : zs.Perm (p.map (mirI ns))) (up : zs.Pairwise (· ≤ ·)) : decide (zs = p) = ownB ns p := by
  rw [Bool.eq_iff_iff, decide_eq_true_iff, ownB_iff]
  constructor
  · intro e x hx
    have : mirI ns x ∈ zs := pm.mem_iff.mpr (List.mem_map_of_mem hx)
    rw [e] at this; exact this
  · intro o
    have nd : (p.map (mirI ns)).Nodup := by
      refine List.pairwise_map.mpr ((rise_nodup rise).imp_of_mem fun {a b} ha hb ne e => ne ?_)
      rw [← mirI_two M (inn a ha).1 (inn a ha).2, e, mirI_two M (inn b hb).1 (inn b hb).2]
    have ndz : zs.Nodup := pm.nodup_iff.mpr nd
    have risez : zs.Pairwise (· < ·) := (up.and ndz).imp fun {a b} h => by
      have h1 := h.1
      have h2 : a ≠ b := h.2
      omega
    refine rise_uniq risez rise fun x => ?_
    rw [pm.mem_iff, List.mem_map]
    constructor
    · rintro ⟨y, hy, rfl⟩
      exact o y hy
    · intro hx
      exact ⟨mirI ns x, o x hx, mirI_two M (inn x hx).1 (inn x hx).2⟩
section
variable {P : Program} {w : World} {K : PySem.W.Frag} {mg : Str → Option Value} {base : Heap}
/-! ### _law_is_own -/
def spLIO (K : PySem.W.Frag) : Sp := fun vs H Q _ => ∃ (R a : Addr) (ns p : List Int) (ps : List (List Int)), vs = [.ref R, .ref a] ∧ OwnH K H R ns ps ∧ p ∈ partsOf ps ns.length ∧ SqT K H a (p.map V.int) ∧ ∀ H', Same H H' → Q (.bl (ownB ns p)) H'
end
end K20
set_option maxHeartbeats 4000000
namespace K20
open PySem PySem.Spec PyProof.Rows L2 RV
theorem cls_lt {ps : List (List Int)} {n : Nat} {p : List Int} {m : Int} (hp : p ∈ partsOf ps n) (hm : m ∈ p) (pos : 0 < perN ps (hd0 p)) : clsM ps n m < perN ps (hd0 p) := by
  rw [clsM_of hp hm]
  unfold clsN
  split
  · exact Nat.mod_lt _ pos
  · exact pos
theorem rest_eq {a b n : Int} (ha : 0 ≤ a ∧ a < n) (hb : 0 ≤ b ∧ b < n) : (a - b) % n = 0 ↔ a = b := by
  rw [← Int.emod_eq_emod_iff_emod_sub_eq_zero, Int.emod_eq_of_lt ha.1 ha.2, Int.emod_eq_of_lt hb.1 hb.2]
/-- whether a mark makes this axis class -/
noncomputable def mk2 (ns : List Int) (ps : List (List Int)) (z m : Int) : Bool := atAx ns ps m (z % 2) && decide (z = 2 * ((clsM ps ns.length m : Nat) : Int) + z % 2)
theorem mk_even {ns : List Int} {ps : List (List Int)} {z : Int} (hz : z % 2 = 0) {p : List Int} : (p.filter (mk2 ns ps z)).map (mirI ns) = p.filter (mk2 ns ps z) := by
  rw [List.map_congr_left (g := id), List.map_id]
  intro x hx
  have h := (List.mem_filter.mp hx).2
  unfold mk2 atAx at h
  rw [hz, if_pos rfl, Bool.and_eq_true, decide_eq_true_iff] at h
  exact h.1
section
variable {P : Program} {w : World} {K : PySem.W.Frag} {mg : Str → Option Value} {base : Heap}
/-! ### _law_starts -/
abbrev nLS : List Str := ["_law_own", "_law_part", "_law_known", "_law_first", "_law_goes", "_law_kinds_here", "_law_mark", "_law_some"]
def spLS (K : PySem.W.Frag) : Sp := fun vs H Q _ => ∃ (R a kn : Addr) (z : Int) (ns p : List Int) (ps : List (List Int)), vs = [.ref R, .ref a, .ref kn, .int z] ∧ OwnH K H R ns ps ∧ p ∈ partsOf ps ns.length ∧ SqT K H a (p.map V.int) ∧ Known H kn ps ns.length p ∧ 0 < perN ps (hd0 p) ∧ (0 ≤ z ∧ z < 2 * ((perN ps (hd0 p) : Nat) : Int)) ∧
  ∀ (H' : Hp) (l : Addr) (ws : List Int), Same H H' → H' l = some (.lst (ws.map V.int)) → ws = (p.filter (mk2 ns ps z)).map (mirI ns) → Q (.ref l) H'
end
end K20
set_option maxHeartbeats 4000000
namespace K20
open PySem PySem.Spec PyProof.Rows L2 RV
theorem rule_pail {K : PySem.W.Frag} {C : Addr} {H H' : Hp} {p r : Addr} {t : Nat} {ns : List Int} {ps : List (List Int)} (R : RuleAt K C H r ns ps) (hp : PailAt H p t) (b : But p H H') : RuleAt K C H' r ns ps := by
  obtain ⟨dx, a, c, d, h1, h2, h3, h4⟩ := R.ex
  obtain ⟨x, y, e, rest⟩ := hp
  exact ⟨dx, a, c, d, b _ _ h1 (fun z => by rw [z, e] at h1; cases h1), sqT_pail ⟨x, y, e, rest⟩ b h2, tups_pail ⟨x, y, e, rest⟩ b h3, tups_pail ⟨x, y, e, rest⟩ b h4⟩
theorem tup_pail {H H' : Hp} {p a : Addr} {t : Nat} {xs : List V} (h : H a = some (.tup xs)) (hp : PailAt H p t) (b : But p H H') : H' a = some (.tup xs) := by
  obtain ⟨x, y, e, rest⟩ := hp
  exact b _ _ h fun z => by rw [z, e] at h; cases h
theorem OwnH.pail {K : PySem.W.Frag} {H H' : Hp} {p R : Addr} {t : Nat} {ns : List Int} {ps : List (List Int)} (h : OwnH K H R ns ps) (hp : PailAt H p t) (b : But p H H') : OwnH K H' R ns ps := by
  obtain ⟨u, c, o1, o2, o3, M, S⟩ := h
  exact ⟨u, c, tup_pail o1 hp b, sqT_pail hp b o2, o3.but hp b, M, S⟩
theorem part_is {ps : List (List Int)} {n : Nat} {p : List Int} (h : p ∈ partsOf ps n) : ∀ m ∈ p, lotOf ps n m = p := fun m hm => part_lot h hm
theorem op_neDK {X : Cx} {K : PySem.W.Frag} (h : X.K = K) (hu : X.A.units + 64 < cLine) : OpR X (compareOp .NotEq) (rNeD K) := h ▸ op_neD hu
/-- the axis classes by this law's own sets -/
theorem ax_any {ns : List Int} {ps : List (List Int)} {p : List Int} (hp : p ∈ partsOf ps ns.length) (pos : 0 < perN ps (hd0 p)) (own : Own ns p) (z : Int) : (z ∈ (upN (2 * perN ps (hd0 p))).filter fun z => p.any (mk2 ns ps z)) ↔ AxC ns ps p z := by
  rw [List.mem_filter, mem_upN, List.any_eq_true]
  constructor
  · rintro ⟨hz, m, hm, h⟩
    unfold mk2 at h
    rw [Bool.and_eq_true, decide_eq_true_iff] at h
    refine ⟨own, m, hm, z % 2, ?_, h.1, h.2⟩
    simp only [List.mem_cons, List.not_mem_nil, or_false]
    omega
  · rintro ⟨_, m, hm, g, hg, h1, h2⟩
    have cl := cls_lt hp hm pos
    simp only [List.mem_cons, List.not_mem_nil, or_false] at hg
    have eg : z % 2 = g := by omega
    refine ⟨by omega, m, hm, ?_⟩
    unfold mk2
    rw [Bool.and_eq_true, decide_eq_true_iff, eg]
    exact ⟨h1, h2⟩
theorem per_small {ps : List (List Int)} {n : Nat} (hP : ∀ q ∈ ps, Pr (n : Int) q) (h8 : n ≤ 8) {x : Int} {g : Nat} (per : Per ps x g) (r : Rch ps x x) : g ≤ 10 := by
  obtain ⟨k, wk⟩ := rch_wk r
  have bx := (Rch.bound hP r).1
  cases wk with
  | @more _ _ j _ w e =>
    obtain ⟨m, hm, wm⟩ := wk_short hP bx w
    have := Nat.le_of_dvd (by omega) (per.all (m + 1) (.more wm e))
    omega
section
variable {P : Program} {w : World} {K : PySem.W.Frag} {mg : Str → Option Value} {base : Heap}
/-! ### _law_axis_classes -/
abbrev nLAx : List Str := ["_law_own", "_law_part", "_law_known", "_law_first"]
def spLAx (K : PySem.W.Frag) : Sp := fun vs H Q _ => ∃ (R a kn : Addr) (ns p : List Int) (ps : List (List Int)), vs = [.ref R, .ref a, .ref kn] ∧ OwnH K H R ns ps ∧ p ∈ partsOf ps ns.length ∧ SqT K H a (p.map V.int) ∧ Known H kn ps ns.length p ∧ 0 < perN ps (hd0 p) ∧ perN ps (hd0 p) ≤ 100 ∧
  ∀ (H' : Hp) (l : Addr) (zs : List Int), Same H H' → H l = none → H' l = some (.lst (zs.map V.int)) → zs.Pairwise (· < ·) → (∀ z, z ∈ zs ↔ AxC ns ps p z) → Q (.ref l) H'
/-! ### _law_axis_class -/
abbrev nL1 : List Str := ["_law_known", "_law_marks", "_law_s", "_law_goes", "_law_kinds_here"]
def spL1 (K : PySem.W.Frag) : Sp := fun vs H Q _ => ∃ (kn b : Addr) (sx m : Int) (N : Nat) (p ms : List Int) (ps : List (List Int)), vs = [.ref kn, .ref b, .int sx] ∧ Known H kn ps N p ∧ p ∈ partsOf ps N ∧ 0 < perN ps (hd0 p) ∧ SqT K H b (ms.map V.int) ∧ 0 ≤ sx ∧ ms[(sx / 2).toNat]? = some m ∧ m ∈ p ∧
  Q (.int (2 * ((clsM ps N m : Nat) : Int) + sx % 2)) H
end
end K20
set_option maxHeartbeats 4000000
/-! all rows of a part, gone through in their order; the first that closes -/
namespace RV
open PyProof.Rows
theorem lst_la (r : List Int) : lst0 r = la r := by
  unfold lst0 la
  cases r with
  | nil => rfl
  | cons x r => simp [List.getLastD, List.getLast?]
theorem lex_app : ∀ {r s : List Int} (x y : List Int), r.length = s.length → HT.lexLt r s = true → HT.lexLt (r ++ x) (s ++ y) = true
  | [], [], x, y, _, h => by cases h
  | a :: r, b :: s, x, y, hl, h => by
    rw [List.cons_append, List.cons_append, HT.lexLt_cons]
    rw [HT.lexLt_cons] at h
    by_cases e : a = b
    · rw [if_pos e] at h ⊢
      exact lex_app x y (Nat.succ.inj hl) h
    · rw [if_neg e] at h ⊢
      exact h
theorem lex_pre : ∀ (r x y : List Int), HT.lexLt (r ++ x) (r ++ y) = HT.lexLt x y
  | [], x, y => rfl
  | a :: r, x, y => by rw [List.cons_append, List.cons_append, HT.lexLt_cons, if_pos rfl, lex_pre r x y]
theorem lex_hd {r s : List Int} (hr : r ≠ []) (hs : s ≠ []) (h : HT.lexLt r s = true) : hd0 r ≤ hd0 s := by
  cases r with
  | nil => exact absurd rfl hr
  | cons a r =>
    cases s with
    | nil => exact absurd rfl hs
    | cons b s =>
      rw [HT.lexLt_cons] at h
      show a ≤ b
      by_cases e : a = b
      · omega
      · rw [if_neg e] at h
        exact Int.le_of_lt (of_decide_eq_true h)
section
variable {ps : List (List Int)} {p : List Int}
theorem rows_lng : ∀ (m : Nat) (r : List Int), r ∈ rowsN ps p m → r.length = m + 1
  | 0, r, hr => by obtain ⟨x, _, rfl⟩ := List.mem_map.mp hr; rfl
  | m + 1, r, hr => by
    obtain ⟨l', hl', hr'⟩ := List.mem_flatten.mp hr
    obtain ⟨r', hr'', rfl⟩ := List.mem_map.mp hl'
    obtain ⟨b, _, rfl⟩ := List.mem_map.mp hr'
    rw [List.length_append, rows_lng m r' hr'']; rfl
theorem rows_rise (hp : p.Pairwise (· < ·)) : ∀ m, (rowsN ps p m).Pairwise fun r s => HT.lexLt r s = true
  | 0 => by
    refine List.pairwise_map.mpr (hp.imp fun {a b} h => ?_)
    rw [HT.lexLt_cons, if_neg (by omega)]
    exact decide_eq_true h
  | m + 1 => by
    have ih := rows_rise hp m
    show (longer ps p (rowsN ps p m)).Pairwise _
    unfold longer
    rw [List.pairwise_flatten]
    constructor
    · intro l hl
      obtain ⟨r, hr, rfl⟩ := List.mem_map.mp hl
      refine List.pairwise_map.mpr ((hp.filter _).imp fun {a b} h => ?_)
      rw [lex_pre, HT.lexLt_cons, if_neg (by omega)]
      exact decide_eq_true h
    · refine List.pairwise_map.mpr (ih.imp_of_mem fun {r s} hr hs h x hx y hy => ?_)
      obtain ⟨a, _, rfl⟩ := List.mem_map.mp hx
      obtain ⟨b, _, rfl⟩ := List.mem_map.mp hy
      exact lex_app _ _ ((rows_lng m r hr).trans (rows_lng m s hs).symm) h
variable {bh : Int → List Int}
theorem mem_rows (hb : ∀ x y : Int, y ∈ bh x ↔ [x, y] ∈ ps) : ∀ {m : Nat} {r : List Int}, r ∈ rowsN ps p m ↔ (∃ a o, WkL bh m a o r) ∧ ∀ x ∈ r, x ∈ p
  | 0, r => by
    show r ∈ p.map (fun m => [m]) ↔ _
    rw [List.mem_map]
    constructor
    · rintro ⟨a, h, rfl⟩
      exact ⟨⟨a, a, rfl, rfl⟩, fun x hx => by rw [List.mem_singleton.mp hx]; exact h⟩
    · rintro ⟨⟨a, o, h1, h2⟩, h3⟩
      exact ⟨a, h3 a (by rw [h1]; exact List.mem_singleton.mpr rfl), h1.symm⟩
  | m + 1, r => by
    show r ∈ longer ps p (rowsN ps p m) ↔ _
    unfold longer
    rw [List.mem_flatten]
    constructor
    · rintro ⟨l, hl, hr⟩
      obtain ⟨s, hs, rfl⟩ := List.mem_map.mp hl
      obtain ⟨b, hb1, rfl⟩ := List.mem_map.mp hr
      obtain ⟨b1, b2⟩ := List.mem_filter.mp hb1
      obtain ⟨⟨a, o, wk⟩, inp⟩ := (mem_rows hb).mp hs
      have b2 := of_decide_eq_true b2
      rw [lst_la, wk.la] at b2
      refine ⟨⟨a, b, wk.snoc ((hb o b).mpr b2)⟩, fun x hx => ?_⟩
      rcases List.mem_append.mp hx with z | z
      · exact inp x z
      · rw [List.mem_singleton.mp z]; exact b1
    · rintro ⟨⟨a, d, wk⟩, inp⟩
      obtain ⟨o, v, k1, k2, rfl⟩ := wk.unsnoc
      refine ⟨_, List.mem_map.mpr ⟨v, (mem_rows hb).mpr ⟨⟨a, o, k1⟩, fun x hx => inp x (List.mem_append_left _ hx)⟩, rfl⟩, List.mem_map.mpr ⟨d, List.mem_filter.mpr ⟨inp d (List.mem_append_right _ (List.mem_singleton.mpr rfl)), decide_eq_true ?_⟩, rfl⟩⟩
      rw [lst_la, k1.la]
      exact (hb o d).mp k2
end
end RV
set_option maxHeartbeats 4000000
namespace K20
open PySem PySem.Spec PyProof.Rows L2 RV
/-- whether the marks as a ring are mirrored at s, place by place -/
def mirB (ns ms : List Int) (s : Int) : Bool := ((upN ms.length).map fun p => decide (ms.getD ((s - p) % (ms.length : Int)).toNat 0 = ns.getD (ms.getD p.toNat 0).toNat 0)).all id
theorem getD_in {ms : List Int} {k : Nat} (h : k < ms.length) : ms.getD k 0 ∈ ms := by
  simp [List.getD, h]
theorem mod_is {a r n q : Int} (h0 : 0 ≤ r) (h1 : r < n) (e : a = r + n * q) : a % n = r := by rw [e, Int.add_mul_emod_self_left, Int.emod_eq_of_lt h0 h1]
/-! ### marks as a ring, place by place -/
def at_ (ms : List Int) (i : Int) : Int := ms.getD (i % (ms.length : Int)).toNat 0
theorem at_mod {ms : List Int} {i j : Int} (h : i % (ms.length : Int) = j % (ms.length : Int)) : at_ ms i = at_ ms j := by unfold at_; rw [h]
theorem at_small {ms : List Int} {k : Nat} (h : k < ms.length) : at_ ms (k : Int) = ms.getD k 0 := by
  unfold at_
  rw [Int.emod_eq_of_lt (by omega) (by omega), Int.toNat_natCast]
theorem at_ext {xs ys : List Int} (hl : xs.length = ys.length) (h : ∀ i : Int, at_ xs i = at_ ys i) : xs = ys := by
  refine List.ext_getElem hl fun i h1 h2 => ?_
  have z := h (i : Int)
  rw [at_small h1, at_small h2] at z
  simpa [List.getD, h1, h2] using z
theorem at_mem {ms : List Int} (h : 0 < ms.length) (i : Int) : at_ ms i ∈ ms := by
  unfold at_
  have z0 := Int.emod_nonneg i (show (ms.length : Int) ≠ 0 by omega)
  have z1 := Int.emod_lt_of_pos i (show (0 : Int) < (ms.length : Int) by omega)
  exact getD_in (by omega)
theorem getD_app (xs ys : List Int) (k : Nat) : (xs ++ ys).getD k 0 = if k < xs.length then xs.getD k 0 else ys.getD (k - xs.length) 0 := by
  by_cases h : k < xs.length
  · rw [if_pos h]; simp [List.getD, List.getElem?_append_left h]
  · rw [if_neg h]; simp [List.getD, List.getElem?_append_right (Nat.le_of_not_lt h)]
theorem getD_dr (xs : List Int) (a k : Nat) : (xs.drop a).getD k 0 = xs.getD (a + k) 0 := by simp [List.getD, List.getElem?_drop]
theorem getD_tk (xs : List Int) (a k : Nat) (h : k < a) : (xs.take a).getD k 0 = xs.getD k 0 := by simp [List.getD, List.getElem?_take, h]
theorem mir_iff {ns ms : List Int} (h0 : 0 < ms.length) (s : Int) : mirB ns ms s = true ↔ ∀ p : Int, at_ ms (s - p) = ns.getD (at_ ms p).toNat 0 := by
  have hn : (ms.length : Int) ≠ 0 := by omega
  have hp : (0 : Int) < (ms.length : Int) := by omega
  unfold mirB
  rw [List.all_map, List.all_eq_true]
  constructor
  · intro h p
    have a0 := Int.emod_nonneg p hn
    have a1 := Int.emod_lt_of_pos p hp
    have z := of_decide_eq_true (h (p % (ms.length : Int)) (mem_upN.mpr ⟨a0, a1⟩))
    have e : (s - p % (ms.length : Int)) % (ms.length : Int) = (s - p) % (ms.length : Int) := by rw [Int.sub_emod, Int.emod_emod, ← Int.sub_emod]
    rw [e] at z
    exact z
  · intro h p hpm
    obtain ⟨a0, a1⟩ := mem_upN.mp hpm
    have z := h p
    have e : at_ ms p = ms.getD p.toNat 0 := by unfold at_; rw [Int.emod_eq_of_lt a0 a1]
    rw [e] at z
    exact decide_eq_true z
theorem at_add {ms : List Int} (i k : Int) : at_ ms (i + (ms.length : Int) * k) = at_ ms i := at_mod (by rw [Int.add_mul_emod_self_left])
theorem mir_add {ns ms : List Int} (h0 : 0 < ms.length) {s s' k : Int} (e : s' = s + (ms.length : Int) * k) : mirB ns ms s' = mirB ns ms s := by
  rw [Bool.eq_iff_iff, mir_iff h0, mir_iff h0]
  refine forall_congr' fun p => ?_
  rw [e, show s + (ms.length : Int) * k - p = (s - p) + (ms.length : Int) * k by omega, at_add]
/-! ### rings and their axes -/
theorem own_of {ns : List Int} {ps : List (List Int)} (M : Mir ns) (S : Stp ns ps) {p : List Int} (hp : p ∈ partsOf ps ns.length) {x : Int} (hx : x ∈ p) (hmx : mirI ns x ∈ p) : Own ns p := fun y hy => by
  have bx := part_bd hp hx
  have by_ := part_bd hp hy
  have z := lot_mirror M S bx.1 (mirI_get bx.1 bx.2) (mirI_get by_.1 by_.2) (by rw [part_lot hp hx]; exact hy)
  rw [part_lot hp hmx] at z
  exact z
theorem wk_at {bh : Int → List Int} {o : Int} : ∀ {k : Nat} {a : Int} {w : List Int}, WkL bh k a o w → ∀ i, i < k → w.getD (i + 1) 0 ∈ bh (w.getD i 0)
  | 0, a, w, h, i, hi => absurd hi (Nat.not_lt_zero _)
  | k + 1, a, w, h, i, hi => by
    obtain ⟨c, w', rfl, h1, h2⟩ := h
    cases i with
    | zero =>
      obtain ⟨v, rfl⟩ := h2.head
      exact h1
    | succ i => exact wk_at h2 i (by omega)
theorem ring_step {ps : List (List Int)} {N : Nat} (hP : ∀ q ∈ ps, Pr (N : Int) q) {p : List Int} {k : Nat} {r : List Int} (h : r ∈ (rowsN ps p k).filter fun r => decide ([lst0 r, hd0 r] ∈ ps)) : r.length = k + 1 ∧ (∀ x ∈ r, x ∈ p) ∧ ∀ i : Int, [at_ r i, at_ r (i + 1)] ∈ ps := by
  have hb : ∀ x y : Int, y ∈ behindOf ps x ↔ [x, y] ∈ ps := fun x y => mem_behind hP
  obtain ⟨h1, h2⟩ := List.mem_filter.mp h
  have cl := of_decide_eq_true h2
  obtain ⟨⟨a, o, wk⟩, inp⟩ := (mem_rows hb).mp h1
  have ln := wk.len
  refine ⟨ln, inp, fun i => ?_⟩
  have hp : (0 : Int) < (r.length : Int) := by omega
  have a0 := Int.emod_nonneg i (show (r.length : Int) ≠ 0 by omega)
  have a1 := Int.emod_lt_of_pos i hp
  have e : (i + 1) % (r.length : Int) = (i % (r.length : Int) + 1) % (r.length : Int) := by rw [Int.emod_add_emod]
  unfold at_
  rw [e]
  generalize i % (r.length : Int) = x at a0 a1
  by_cases hx : x + 1 < (r.length : Int)
  · rw [Int.emod_eq_of_lt (by omega) hx, show (x + 1).toNat = x.toNat + 1 by omega]
    exact (hb _ _).mp (wk_at wk x.toNat (by omega))
  · have ex : x + 1 = (r.length : Int) := by omega
    rw [ex, Int.emod_self]
    have e1 : r.getD x.toNat 0 = lst0 r := by
      have : x.toNat = r.length - 1 := by omega
      rw [this]
      unfold lst0
      obtain ⟨r', y, rfl⟩ : ∃ r' y, r = r' ++ [y] := ⟨r.dropLast, r.getLast (fun z => by rw [z] at ln; cases ln), (List.dropLast_concat_getLast _).symm⟩
      simp [List.getD]
    have e2 : r.getD (0 : Int).toNat 0 = hd0 r := by
      unfold hd0
      cases r with
      | nil => rfl
      | cons y r => rfl
    rw [e1, e2]
    exact cl
end K20
set_option maxHeartbeats 4000000
namespace K20
open PySem PySem.Spec PyProof.Rows L2 RV
theorem behind_inn {ns : List Int} {ps : List (List Int)} (S : Stp ns ps) (m : Int) : ∀ c ∈ behindOf ps m, 0 ≤ c ∧ c < (ns.length : Int) := fun c hc => by
  have z := (mem_behind (n := (ns.length : Int)) S.pair).mp hc
  obtain ⟨x, y, e, _, h⟩ := S.pair _ z
  cases e
  exact h
section
variable {P : Program} {w : World} {K : PySem.W.Frag} {mg : Str → Option Value} {base : Heap}
/-! ### ends_behind -/
abbrev nEB : List Str := ["first", "second", "row", "mark", "end"]
theorem scEB : FnScope nEB ["first", "second"] (defScope sEndsBehind) := ⟨rfl, rfl, rfl, by decide +kernel, rfl, by decide +kernel, by decide +kernel⟩
def spEB (K : PySem.W.Frag) : Sp := fun vs H Q _ => ∃ (a b : Addr) (N : Nat) (f g : Int → Int → Prop), vs = [.ref a, .ref b] ∧ N ≤ 8 ∧ Tab K H a N f ∧ Tab K H b N g ∧
  ∀ (H' : Hp) (t : Addr), Same H H' → Tab K H' t N (fun i x => ∃ c, f i c ∧ g c x) → Q (.ref t) H'
theorem ok_eb {f : Addr} {fd : FuncData} (F : Fun K "ends_behind" "ends_behind" sEndsBehind f fd) (B : Bare mg) : FnOk P w K mg base CX0 1 f fd ["first", "second"] (spEB K) := by
  refine F.ok scEB (fun vs H Q E h => ?_) (fun cdv A outer s H vs Q E hr h => ?_)
  · obtain ⟨a, b, N, f, g, rfl, _⟩ := h
    rfl
  · obtain ⟨a, b, N, f, g, rfl, n8, hA, hB, q⟩ := h
    refine ⟨_, pss_one (ps_ret (pe_tupleOf (by rfl) B.tuple
      (pe_lc (own := [("row", 2)]) (g := gName 2) (tt := tYes) rfl scEB.nd (pi_tup (pv 0)) (blkOk_by (N := nEB) (sc := defScope sEndsBehind) (by decide +kernel)) (fun _ _ _ _ _ => pg_name (i := 2) scEB.nd rfl (Or.inl rfl)) (fun _ _ _ _ _ => pts_nil)
        (fun _ _ _ _ _ => pe_tupleOfK (K := K) rfl (by rfl) B.tuple (pe_callB (cr_sortedSetW (w := w) rfl rfl) (by rfl) B.sorted (by decide +kernel) (pa_cons
          (pe_sc2W (w := w) (own := [("mark", 3), ("end", 4)]) (vs1 := [4]) (g := gName 3) (g1 := gName 4) rfl rfl scEB.nd (pi_tupK (K := K) rfl (pv 2)) (blkOk_by (N := nEB) (by rfl)) (by decide)
            (fun _ _ _ _ _ => pg_name (i := 3) scEB.nd rfl (Or.inl rfl)) (fun _ _ _ _ _ => pi_tupK (K := K) rfl (pe_ix (ix_tupK (K := K) rfl) (pv 1) (pv 3) (fun _ _ => rfl))) (fun _ _ _ _ _ => pg_name (i := 4) scEB.nd rfl (Or.inl rfl)) (fun _ _ _ _ _ => pv 4)) pa_nil)))))), ?_⟩
    obtain ⟨as, h1, h2, h3⟩ := hA
    have two : (2 : Nat) ≤ sizeLine := by decide
    refine ⟨.ref a, rfl, a, rfl, ⟨_, h1⟩, fun D nD => ?_⟩
    refine lc_tup (K := K) (a := a) (xs := as.map V.ref) (fun i H' => Same H H' ∧ ∃ bs : List Addr, bs.length = i ∧ H' D = some (.lst (bs.map V.ref)) ∧ ∀ (j : Nat) (c : Addr), bs[j]? = some c → ∃ xs : List Int, SqT K H' c (xs.map V.int) ∧ xs.Pairwise (· < ·) ∧ (∀ x ∈ xs, 0 ≤ x ∧ x < (N : Int)) ∧ ∀ x, x ∈ xs ↔ ∃ c, f (j : Int) c ∧ g c x)
      ⟨same_upd nD, [], rfl, upd_same, fun _ _ z => nomatch z⟩ (fun i H' _ p => sqT_same p.1 h1) (fun i x H1 hx p => ?_) fun H1 p => ?_
    · obtain ⟨r, gr, rfl⟩ := map_at hx
      obtain ⟨s1, bs, lb, eD, hbs⟩ := p
      obtain ⟨xs, z1, z2, z3, z4⟩ := h3 i r gr
      have hi : i < N := by rw [← h2]; exact (List.getElem?_eq_some_iff.mp gr).1
      have B1 := hB.same s1
      have zr := sqT_same s1 z1
      have lx : xs.length ≤ 8 := Nat.le_trans (few_below (rise_nodup z2) z3) n8
      refine ⟨by simp [wipe, List.set_set], tt_yes ⟨.ref r, rfl, r, rfl, ⟨_, zr⟩, fun D2 nD2 => ?_⟩⟩
      refine it_tup (xs := xs.map V.int) (fun k H' => Same H1 H' ∧ ∃ ls, SetL w H' D2 ls ∧ ∀ y, y ∈ ls ↔ ∃ c ∈ xs.take k, g c y) ⟨same_upd nD2, [], SetL.nil, fun y => by simp⟩ (fun k H' _ p => sqT_same p.1 zr) (fun k v H2 hv p => ?_) fun H2 p => ?_
      · obtain ⟨m, gm, rfl⟩ := map_at hv
        obtain ⟨s2, ls, hL, mL⟩ := p
        have hm := List.mem_of_getElem? gm
        obtain ⟨vs, rr, ys, k1, k2, k3, k4, k5, k6⟩ := (B1.same s2).at (z3 m hm).1 (z3 m hm).2
        have ly : ys.length ≤ 8 := Nat.le_trans (few_below (rise_nodup k4) k5) n8
        refine ⟨rfl, .ref b, rfl, .int m, rfl, b, vs, m, .ref rr, rfl, rfl, k1, k2, rr, rfl, ⟨_, k3⟩, ?_⟩
        refine it_tup (xs := ys.map V.int) (fun j H' => Same H1 H' ∧ SqT K H' rr (ys.map V.int) ∧ ∃ ls, SetL w H' D2 ls ∧ ∀ y, y ∈ ls ↔ (∃ c ∈ xs.take k, g c y) ∨ y ∈ ys.take j) ⟨s2, k3, ls, hL, fun y => by rw [mL y]; simp⟩ (fun j H' _ p => p.2.1) (fun j v H3 hv p => ?_) fun H3 p => ?_
        · obtain ⟨e, ge, rfl⟩ := map_at hv
          obtain ⟨s3, k3', ls3, hL3, mL3⟩ := p
          have l3 : ls3.length ≤ N := few_below (by obtain ⟨_, _, z, _⟩ := hL3; exact z) fun y hy => by
            rcases (mL3 y).mp hy with ⟨c, c1, c2⟩ | c
            · have hc := z3 c (List.mem_of_mem_take c1)
              obtain ⟨_, _, ys', _, _, _, _, k5', k6'⟩ := hB.at hc.1 hc.2
              exact k5' y ((k6' y).mpr c2)
            · exact k5 y (List.mem_of_mem_take c)
          obtain ⟨S, n, e1, e2, ls4, hL4, mL4⟩ := hL3.add e (by omega)
          refine ⟨rfl, .int e, rfl, e, S, n, rfl, e1, e2, fun b' o z => ?_, ?_, ls4, hL4, fun y => ?_⟩
          · rw [upd_ne (ne_of_none z nD2)]; exact s3 b' o z
          · exact sqT_set e1 k3'
          · rw [mL4 y, mL3 y, List.take_add_one, ge, List.mem_append, or_assoc]
            simp
        · obtain ⟨s3, k3', ls3, hL3, mL3⟩ := p
          rw [List.length_map, List.take_of_length_le (Nat.le_refl _)] at mL3
          refine ⟨s3, ls3, hL3, fun y => ?_⟩
          rw [mL3 y, List.take_add_one, gm, k6 y]
          constructor
          · rintro (⟨c, c1, c2⟩ | c)
            · exact ⟨c, List.mem_append_left _ c1, c2⟩
            · exact ⟨m, List.mem_append_right _ (List.mem_singleton.mpr rfl), c⟩
          · rintro ⟨c, c1, c2⟩
            rcases List.mem_append.mp c1 with c1 | c1
            · exact .inl ⟨c, c1, c2⟩
            · exact .inr (List.mem_singleton.mp c1 ▸ c2)
      · obtain ⟨s2, ls, hL, mL⟩ := p
        rw [List.length_map, List.take_of_length_le (Nat.le_refl _)] at mL
        have inn : ∀ y ∈ ls, 0 ≤ y ∧ y < (N : Int) := fun y hy => by
          obtain ⟨c, c1, c2⟩ := (mL y).mp hy
          obtain ⟨_, _, ys', _, _, _, _, k5', k6'⟩ := hB.at (z3 c c1).1 (z3 c c1).2
          exact k5' y ((k6' y).mpr c2)
        obtain ⟨S, e1, nd, mS⟩ := hL
        have ll := few_below nd inn
        refine ⟨D2, S, ls.length, rfl, e1, by omega, fun zs p rise mem len np => ?_⟩
        have sp := same_upd (o := .lst (zs.map V.int)) np
        refine .inl ⟨p, _, rfl, lstNew upd_same, fun t nt => ?_⟩
        have st := same_upd (o := .tup (zs.map V.int)) nt
        have s3 := (s2.trans sp).trans st
        have eD3 := s3 _ _ eD
        refine ⟨_, eD3, by rw [List.length_map, lb]; exact few1 (by omega), fun b' o z => ?_, bs ++ [t], by rw [List.length_append, lb]; rfl, by rw [upd_same, List.map_append]; rfl, fun j c hc => ?_⟩
        · rw [upd_ne (ne_of_none z nD)]; exact s3 _ _ (s1 b' o z)
        rcases Nat.lt_or_ge j bs.length with z | z
        · rw [List.getElem?_append_left z] at hc
          obtain ⟨us, u1, u2⟩ := hbs j c hc
          exact ⟨us, sqT_lst eD3 (sqT_same s3 u1), u2⟩
        · rw [List.getElem?_append_right z] at hc
          have ej : j = i := by
            have := (List.getElem?_eq_some_iff.mp hc).1
            simp at this
            omega
          rw [lb, ej, Nat.sub_self] at hc
          cases hc
          refine ⟨zs, sqT_lst eD3 (tupNew upd_same), rise, fun y hy => inn y ((mS y).mp ((mem y).mp hy)), fun y => ?_⟩
          rw [mem y, mS y, mL y, ej]
          exact exists_congr fun c => and_congr (z4 c) Iff.rfl
    · obtain ⟨s1, bs, lb, eD, hbs⟩ := p
      rw [List.length_map, h2] at lb
      refine .inl ⟨D, _, rfl, lstNew eD, fun t nt => ?_⟩
      have st := same_upd (o := .tup (bs.map V.ref)) nt
      exact q _ t (s1.trans st) ⟨bs, tupNew upd_same, lb, fun j c hc => (hbs j c hc).imp fun us u => ⟨sqT_same st u.1, u.2⟩⟩
end
end K20
set_option maxHeartbeats 4000000
namespace K20
open PySem PySem.Spec PyProof.Rows L2 RV
/-- the one pair ahead of the other -/
def pLt (p q : List Int) : Prop := p.getD 0 0 < q.getD 0 0 ∨ (p.getD 0 0 = q.getD 0 0 ∧ p.getD 1 0 < q.getD 1 0)
theorem pLt_of {a b c d : Int} (h : HT.lexLt [a, b] [c, d] = true) : pLt [a, b] [c, d] := by
  rw [HT.lexLt_cons] at h
  by_cases e : a = c
  · rw [if_pos e, HT.lexLt_cons] at h
    refine .inr ⟨e, ?_⟩
    by_cases e2 : b = d
    · rw [if_pos e2] at h; cases h
    · rw [if_neg e2] at h; exact of_decide_eq_true h
  · rw [if_neg e] at h; exact .inl (of_decide_eq_true h)
theorem pLt_all : ∀ {ps : List (List Int)}, (∀ p ∈ ps, ∃ x y : Int, p = [x, y]) → (∀ (i : Nat) (p q : List Int), ps[i]? = some p → ps[i + 1]? = some q → HT.lexLt p q = true) → ps.Pairwise pLt
  | [], _, _ => List.Pairwise.nil
  | [p], _, _ => List.pairwise_singleton _ _
  | p :: q :: r, h, hr => by
    have ih := pLt_all (ps := q :: r) (fun x hx => h x (List.mem_cons_of_mem _ hx)) fun i x y h1 h2 => hr (i + 1) x y h1 h2
    obtain ⟨a, b, rfl⟩ := h p List.mem_cons_self
    obtain ⟨c, d, rfl⟩ := h q (List.mem_cons_of_mem _ List.mem_cons_self)
    have h0 := pLt_of (hr 0 _ _ rfl rfl)
    refine List.pairwise_cons.mpr ⟨fun x hx => ?_, ih⟩
    rcases List.mem_cons.mp hx with rfl | hx
    · exact h0
    · have h1 := (List.pairwise_cons.mp ih).1 x hx
      unfold pLt at h0 h1 ⊢
      omega
theorem behind_rise {ns : List Int} {ps : List (List Int)} (S : Stp ns ps) (m : Int) : (behindOf ps m).Pairwise (· < ·) := by
  have h := pLt_all (fun p hp => by obtain ⟨x, y, e, _⟩ := S.pair p hp; exact ⟨x, y, e⟩) S.rise
  unfold behindOf
  rw [List.pairwise_map]
  refine (List.pairwise_filter.mpr (h.imp fun {p q} z hp hq => ?_))
  have e1 := of_decide_eq_true hp
  have e2 := of_decide_eq_true hq
  unfold pLt at z
  omega
section
variable {P : Program} {w : World} {K : PySem.W.Frag} {mg : Str → Option Value} {base : Heap}
/-- the tables that a comprehension over the marks makes -/
def TabL (K : PySem.W.Frag) (H : Hp) (D : Addr) (N i : Nat) (f : Int → Int → Prop) : Prop := ∃ bs : List Addr, bs.length = i ∧ H D = some (.lst (bs.map V.ref)) ∧ ∀ (j : Nat) (c : Addr), bs[j]? = some c → ∃ xs : List Int, SqT K H c (xs.map V.int) ∧ xs.Pairwise (· < ·) ∧ (∀ x ∈ xs, 0 ≤ x ∧ x < (N : Int)) ∧ ∀ x, x ∈ xs ↔ f (j : Int) x
theorem TabL.add {H : Hp} {D t : Addr} {N i : Nat} {f : Int → Int → Prop} {xs : List Int} {bs : List Addr} (lb : bs.length = i) (eD : H D = some (.lst (bs.map V.ref))) (hb : ∀ (j : Nat) (c : Addr), bs[j]? = some c → ∃ xs : List Int, SqT K H c (xs.map V.int) ∧ xs.Pairwise (· < ·) ∧ (∀ x ∈ xs, 0 ≤ x ∧ x < (N : Int)) ∧ ∀ x, x ∈ xs ↔ f (j : Int) x)
    (h1 : SqT K H t (xs.map V.int)) (h2 : xs.Pairwise (· < ·)) (h3 : ∀ x ∈ xs, 0 ≤ x ∧ x < (N : Int)) (h4 : ∀ x, x ∈ xs ↔ f (i : Int) x) : TabL K (upd H D (.lst (bs.map V.ref ++ [.ref t]))) D N (i + 1) f := by
  refine ⟨bs ++ [t], by rw [List.length_append, lb]; rfl, by rw [upd_same, List.map_append]; rfl, fun j c hc => ?_⟩
  rcases Nat.lt_or_ge j bs.length with z | z
  · rw [List.getElem?_append_left z] at hc
    obtain ⟨us, u1, u2⟩ := hb j c hc
    exact ⟨us, sqT_lst eD u1, u2⟩
  · rw [List.getElem?_append_right z] at hc
    have ej : j = i := by
      have := (List.getElem?_eq_some_iff.mp hc).1
      simp at this
      omega
    rw [lb, ej, Nat.sub_self] at hc
    cases hc
    exact ⟨xs, sqT_lst eD h1, h2, h3, fun x => by rw [ej]; exact h4 x⟩
theorem TabL.same {H H' : Hp} {D : Addr} {N i : Nat} {f : Int → Int → Prop} (h : TabL K H D N i f) (s : Same H H') : TabL K H' D N i f := by
  obtain ⟨bs, h1, h2, h3⟩ := h
  exact ⟨bs, h1, s _ _ h2, fun j c hc => (h3 j c hc).imp fun us u => ⟨sqT_same s u.1, u.2⟩⟩
/-! ### ends_at_once -/
def spTab (K : PySem.W.Frag) (C : Addr) (k : Nat) : Sp := fun vs H Q _ => ∃ (r : Addr) (ns : List Int) (ps : List (List Int)), vs = [.ref r] ∧ RuleAt K C H r ns ps ∧ Stp ns ps ∧ ns.length ≤ 8 ∧
  ∀ (H' : Hp) (t : Addr), Same H H' → Tab K H' t ns.length (lk (behindOf ps) k) → Q (.ref t) H'
/-! ### ends_of_steps -/
theorem scOfSt : FnScope ["rule", "mark"] ["rule"] (defScope sOfSteps) := ⟨rfl, rfl, rfl, by decide +kernel, rfl, by decide +kernel, by decide +kernel⟩
theorem ok_ofst {f C fM fB : Addr} {fd dM dB : FuncData} (F : Fun K "ends_of_steps" "ends_of_steps" sOfSteps f fd) (T : Txt K mg C) (B : Bare mg) (FB : Fun K "behind" "Rule.behind" sBehindM fB dB) (bB : Binds K dB ["self", "mark"] []) (mB : Meth K C "behind" fB) (FM : Fun K "marks" "Rule.marks" sMarksM fM dM) (bM : Binds K dM ["self"] []) (mM : Meth K C "marks" fM) : FnOk P w K mg base CX0 2 f fd ["rule"] (spTab K C 1) := by
  have GM : FnOk P w K mg base CX0 1 fM dM ["self"] (spMarksM K C) := ok_marksM FM T B
  have GB : FnOk P w K mg base CX0 1 fB dB ["self", "mark"] (spBehindM K C) := ok_behindM FB T
  refine F.ok scOfSt (fun vs H Q E h => ?_) (fun cdv A outer s H vs Q E hr h => ?_)
  · obtain ⟨r, ns, ps, rfl, _⟩ := h
    rfl
  · obtain ⟨r, ns, ps, rfl, R, S, n8, q⟩ := h
    refine ⟨_, pss_one (ps_ret (pe_tupleOf (by rfl) B.tuple
      (pe_lc (own := [("mark", 1)]) (g := gName 1) (tt := tYes) rfl scOfSt.nd (pi_range1 (by rfl) B.range (pa_cons (pe_meth0 (pv 0) T.cl mM GM hr bM .nil pass0) pa_nil)) (blkOk_by (N := ["rule", "mark"]) (sc := defScope sOfSteps) (by decide +kernel)) (fun _ _ _ _ _ => pg_name (i := 1) scOfSt.nd rfl (Or.inl rfl)) (fun _ _ _ _ _ => pts_nil)
        (fun _ _ _ _ _ => pe_meth (pv 0) T.cl mB GB hr bB .nil pass0 (pa_cons (pv 1) pa_nil))))), ?_⟩
    obtain ⟨dx, a0, b0, t0, g1, g2, g3, g4⟩ := R.ex
    have fno := flds_no a0 b0 t0 (m := "marks") (by decide +kernel) (by decide +kernel) (by decide +kernel)
    have fno2 := flds_no a0 b0 t0 (m := "behind") (by decide +kernel) (by decide +kernel) (by decide +kernel)
    refine ⟨.ref r, rfl, r, dx, _, rfl, g1, fno, r, ns, ps, rfl, R, (ns.length : Int), rfl, by omega, by omega, fun D nD => ?_⟩
    rw [Int.toNat_natCast]
    refine lc_range (lo := 0) (n := ns.length) (fun i H' => Same H H' ∧ TabL K H' D ns.length i (lk (behindOf ps) 1)) ⟨same_upd nD, [], rfl, upd_same, fun _ _ z => nomatch z⟩ (fun i H1 hi p => ?_) fun H1 p => ?_
    · obtain ⟨s1, bs, lb, eD, hb⟩ := p
      have e0 : (0 + (i : Int)) = (i : Int) := by omega
      rw [e0]
      refine ⟨by simp [wipe, List.set_set], tt_yes ⟨.ref r, rfl, r, dx, _, rfl, s1 _ _ g1, fno2, .int (i : Int), rfl, r, ns, ps, i, rfl, R.same s1, hi, fun c hc => ?_⟩⟩
      refine ⟨_, eD, by rw [List.length_map, lb]; exact few1 (by omega), fun b' o z => ?_, TabL.add lb eD hb hc (behind_rise S _) (behind_inn S _) fun x => lk_one.symm⟩
      rw [upd_ne (ne_of_none z nD)]; exact s1 b' o z
    · obtain ⟨s1, bs, lb, eD, hb⟩ := p
      refine .inl ⟨D, _, rfl, lstNew eD, fun t nt => ?_⟩
      have st := same_upd (o := .tup (bs.map V.ref)) nt
      exact q _ t (s1.trans st) ⟨bs, tupNew upd_same, lb, fun j c hc => (hb j c hc).imp fun us u => ⟨sqT_same st u.1, u.2⟩⟩
end
end K20
set_option maxHeartbeats 4000000
/-! from how many steps on walks lead everywhere in a part -/
namespace RV
open PySem PySem.Spec PyProof.Rows L2
/-- so many times round -/
theorem wk_times {ps : List (List Int)} {x : Int} {t : Nat} (w : Wk ps t x x) : ∀ k : Nat, Wk ps (k * t) x x
  | 0 => by rw [Nat.zero_mul]; exact .nil x
  | k + 1 => by rw [Nat.succ_mul]; exact (wk_times w k).trans w
/-- closed walks by rests by c: the least rest from 1 on parts them all -/
theorem least_rest {ps : List (List Int)} {x : Int} {c : Nat} (c1 : 1 ≤ c) (wc : Wk ps c x x) : ∃ d t : Nat, 1 ≤ d ∧ Wk ps t x x ∧ t % c = d % c ∧ ∀ a, Wk ps a x x → d ∣ a := by
  have low : ∀ n : Nat, (∃ d, d ≤ n ∧ 1 ≤ d ∧ ∃ t, Wk ps t x x ∧ t % c = d % c) → ∃ d t : Nat, 1 ≤ d ∧ Wk ps t x x ∧ t % c = d % c ∧ ∀ d', 1 ≤ d' → d' < d → ¬ ∃ t, Wk ps t x x ∧ t % c = d' % c := fun n => by
    induction n with
    | zero => rintro ⟨d, h1, h2, _⟩; omega
    | succ n ih =>
      rintro ⟨d, h1, h2, t, wt, et⟩
      by_cases h : ∃ d, d ≤ n ∧ 1 ≤ d ∧ ∃ t, Wk ps t x x ∧ t % c = d % c
      · exact ih h
      · refine ⟨d, t, h2, wt, et, fun d' h3 h4 h5 => h ⟨d', by omega, h3, h5⟩⟩
  obtain ⟨d, t, d1, wt, et, least⟩ := low c ⟨c, Nat.le_refl _, c1, c, wc, rfl⟩
  refine ⟨d, t, d1, wt, et, fun a wa => ?_⟩
  refine Nat.dvd_of_mod_eq_zero (Classical.byContradiction fun no => ?_)
  have rlt := Nat.mod_lt a (show 0 < d by omega)
  refine least (a % d) (by omega) rlt ⟨a + (c - 1) * (a / d) * t, wa.trans (wk_times wt _), ?_⟩
  have e1 : ((t : Int) - d) % c = 0 := by
    have : ((t % c : Nat) : Int) = ((d % c : Nat) : Int) := by rw [et]
    rw [Int.natCast_emod, Int.natCast_emod] at this
    exact Int.emod_eq_emod_iff_emod_sub_eq_zero.mp this
  have h1 : (c : Int) ∣ (t : Int) - d := Int.dvd_of_emod_eq_zero e1
  have h2 : (c : Int) ∣ ((a + (c - 1) * (a / d) * t : Nat) : Int) - ((a % d : Nat) : Int) := by
    have ea : (a : Int) = (d : Int) * ((a / d : Nat) : Int) + ((a % d : Nat) : Int) := by
      have := Nat.div_add_mod a d
      exact_mod_cast this.symm
    have ec : ((c - 1 : Nat) : Int) = (c : Int) - 1 := by omega
    have e : ((a + (c - 1) * (a / d) * t : Nat) : Int) - ((a % d : Nat) : Int) = (c : Int) * (((a / d : Nat) : Int) * (t : Int)) - ((a / d : Nat) : Int) * ((t : Int) - d) := by
      rw [Int.natCast_add, Int.natCast_mul, Int.natCast_mul, ec, ea]
      generalize ((a / d : Nat) : Int) = q
      generalize ((a % d : Nat) : Int) = r
      rw [Int.sub_mul, Int.sub_mul, Int.one_mul, Int.mul_sub, Int.mul_assoc, Int.mul_comm (d : Int) q]
      omega
    rw [e]
    exact Int.dvd_sub (Int.dvd_mul_right _ _) (Int.dvd_trans h1 (Int.dvd_mul_left _ _))
  have h3 := Int.emod_eq_emod_iff_emod_sub_eq_zero.mpr (Int.emod_eq_zero_of_dvd h2)
  rw [← Int.natCast_emod, ← Int.natCast_emod] at h3
  exact_mod_cast h3
theorem wk_split {ps : List (List Int)} {i k : Int} {n : Nat} : ∀ {m : Nat}, Wk ps (n + m) i k → ∃ j, Wk ps n i j ∧ Wk ps m j k
  | 0, w => ⟨k, w, .nil k⟩
  | m + 1, w => by
    have w' : Wk ps ((n + m) + 1) i k := w
    cases w' with
    | more w1 e =>
      obtain ⟨j, h1, h2⟩ := wk_split w1
      exact ⟨j, h1, .more h2 e⟩
/-- steps of c steps at once -/
noncomputable def far (ps : List (List Int)) (n c : Nat) : List (List Int) := (upN n).flatMap fun a => ((upN n).filter fun b => @decide (Wk ps c a b) (Classical.propDecidable _)).map fun b => [a, b]
theorem mem_far {ps : List (List Int)} {n c : Nat} {a b : Int} : [a, b] ∈ far ps n c ↔ (0 ≤ a ∧ a < (n : Int)) ∧ (0 ≤ b ∧ b < (n : Int)) ∧ Wk ps c a b := by
  unfold far
  rw [List.mem_flatMap]
  constructor
  · rintro ⟨a', ha, h⟩
    obtain ⟨b', hb, e⟩ := List.mem_map.mp h
    obtain ⟨h1, h2⟩ := List.mem_filter.mp hb
    injection e with e1 e2
    injection e2 with e2 _
    subst e1 e2
    exact ⟨mem_upN.mp ha, mem_upN.mp h1, (@decide_eq_true_iff _ (Classical.propDecidable _)).mp h2⟩
  · rintro ⟨ha, hb, w⟩
    exact ⟨a, mem_upN.mpr ha, List.mem_map.mpr ⟨b, List.mem_filter.mpr ⟨mem_upN.mpr hb, (@decide_eq_true_iff _ (Classical.propDecidable _)).mpr w⟩, rfl⟩⟩
theorem far_pr {ps : List (List Int)} {n c : Nat} : ∀ q ∈ far ps n c, Pr (n : Int) q := fun q hq => by
  unfold far at hq
  obtain ⟨a, ha, h⟩ := List.mem_flatMap.mp hq
  obtain ⟨b, hb, rfl⟩ := List.mem_map.mp h
  exact ⟨a, b, rfl, mem_upN.mp ha, mem_upN.mp (List.mem_filter.mp hb).1⟩
theorem wk_far {ps : List (List Int)} {n c : Nat} (hb : ∀ q ∈ ps, Pr (n : Int) q) {x : Int} (hx : 0 ≤ x ∧ x < (n : Int)) : ∀ {k : Nat} {y : Int}, Wk ps (k * c) x y → Wk (far ps n c) k x y
  | 0, y, w => by
    rw [Nat.zero_mul] at w
    rw [w.zero]; exact .nil y
  | k + 1, y, w => by
    rw [Nat.succ_mul] at w
    obtain ⟨j, h1, h2⟩ := wk_split w
    have bj := h1.bound hb hx
    exact .more (wk_far hb hx h1) (mem_far.mpr ⟨bj, h2.bound hb bj, h2⟩)
theorem far_wk {ps : List (List Int)} {n c : Nat} {x : Int} : ∀ {k : Nat} {y : Int}, Wk (far ps n c) k x y → Wk ps (k * c) x y
  | 0, y, w => by
    rw [w.zero, Nat.zero_mul]; exact .nil y
  | k + 1, y, w => by
    cases w with
    | more w1 e =>
      rw [Nat.succ_mul]
      exact (far_wk w1).trans (mem_far.mp e).2.2
section
variable {ps : List (List Int)} {p : List Int} {x0 : Int} {g n : Nat}
/-- from a mark that is come back to by c steps all of its class are come to by n times c -/
theorem same_class (hb : ∀ q ∈ ps, Pr (n : Int) q) (kn : Knot ps p x0) (per : Per ps x0 g) (hbd : ∀ m ∈ p, 0 ≤ m ∧ m < (n : Int)) {x y : Int} (hx : x ∈ p) (hy : y ∈ p) (ec : clsN ps x0 g y = clsN ps x0 g x) {c : Nat} (c1 : 1 ≤ c) (wc : Wk ps c x x) : Wk ps (n * c) x y := by
  obtain ⟨t, wt⟩ := kn.out x hx
  obtain ⟨r, wr⟩ := kn.back x hx
  obtain ⟨u, wu⟩ := kn.out y hy
  have wL := wr.trans wu
  generalize r + u = L at wL
  have gL : g ∣ L := by
    have e1 := per.cls wt (kn.back x hx)
    have e2 := per.cls (wt.trans wL) (kn.back y hy)
    rw [ec, ← e1] at e2
    refine Int.ofNat_dvd.mp ?_
    have z : ((t + L : Nat) : Int) % g = ((t : Nat) : Int) % g := by rw [← Int.natCast_emod, ← Int.natCast_emod, e2]
    have z2 := Int.dvd_of_emod_eq_zero (Int.emod_eq_emod_iff_emod_sub_eq_zero.mp z)
    have e : ((t + L : Nat) : Int) - ((t : Nat) : Int) = (L : Int) := by omega
    rwa [e] at z2
  obtain ⟨d, t0, d1, w0, e0, dall⟩ := least_rest c1 wc
  have dg : d ∣ g := per.most d fun a _ wa => dvd_mid (dall _ ((wr.trans wa).trans wt)) (dall _ (wr.trans wt))
  obtain ⟨m, hm⟩ := Nat.dvd_trans dg gL
  have w1 := (wk_times w0 ((c - 1) * m)).trans wL
  have cd : c ∣ (c - 1) * m * t0 + L := by
    refine Int.ofNat_dvd.mp ?_
    have h1 : (c : Int) ∣ (t0 : Int) - d := by
      have : ((t0 % c : Nat) : Int) = ((d % c : Nat) : Int) := by rw [e0]
      rw [Int.natCast_emod, Int.natCast_emod] at this
      exact Int.dvd_of_emod_eq_zero (Int.emod_eq_emod_iff_emod_sub_eq_zero.mp this)
    have ecc : ((c - 1 : Nat) : Int) = (c : Int) - 1 := by omega
    have e : (((c - 1) * m * t0 + L : Nat) : Int) = (c : Int) * ((m : Int) * (t0 : Int)) - (m : Int) * ((t0 : Int) - d) := by
      rw [hm, Int.natCast_add, Int.natCast_mul, Int.natCast_mul, Int.natCast_mul, ecc, Int.sub_mul, Int.sub_mul, Int.one_mul, Int.mul_sub, Int.mul_assoc, Int.mul_comm (d : Int) m]
      omega
    rw [e]
    exact Int.dvd_sub (Int.dvd_mul_right _ _) (Int.dvd_trans h1 (Int.dvd_mul_left _ _))
  obtain ⟨k, hk⟩ := cd
  rw [hk, Nat.mul_comm] at w1
  have bx := hbd x hx
  obtain ⟨m', hm', w2⟩ := wk_short far_pr bx (wk_far hb bx w1)
  have w3 := far_wk w2
  have w4 := (wk_times wc (n - m')).trans w3
  rwa [← Nat.add_mul, Nat.sub_add_cancel hm'] at w4
/-- n steps lead everywhere -/
def Ev (ps : List (List Int)) (p : List Int) (x0 : Int) (g n : Nat) : Prop := ∀ x ∈ p, ∀ y ∈ p, clsN ps x0 g y = (clsN ps x0 g x + n) % g → Wk ps n x y
theorem step_in (kn : Knot ps p x0) {y : Int} (hy : y ∈ p) (r : Rch ps y y) : ∃ z ∈ p, [z, y] ∈ ps := by
  obtain ⟨m, w⟩ := rch_wk r
  cases w with
  | more w e =>
    refine ⟨_, ?_, e⟩
    obtain ⟨a, wa⟩ := kn.out y hy
    obtain ⟨b, wb⟩ := kn.back y hy
    exact kn.mid _ ⟨_, wa.trans w⟩ ⟨_, (Wk.one e).trans wb⟩
theorem ev_next (kn : Knot ps p x0) (per : Per ps x0 g) (rp : ∀ y ∈ p, Rch ps y y) {m : Nat} {x : Int} (h : ∀ y ∈ p, clsN ps x0 g y = (clsN ps x0 g x + m) % g → Wk ps m x y) : ∀ y ∈ p, clsN ps x0 g y = (clsN ps x0 g x + (m + 1)) % g → Wk ps (m + 1) x y := fun y hy ey => by
  obtain ⟨z, hz, e⟩ := step_in kn hy (rp y hy)
  refine .more (h z hz ?_) e
  obtain ⟨t, wt⟩ := kn.out z hz
  have pos := per.pos (rp x0 kn.x_in)
  rw [← per.cls (wt.trans (.one e)) (kn.back y hy)] at ey
  rw [← per.cls wt (kn.back z hz)]
  have e1 : ((t + 1 : Nat) : Int) % g = ((clsN ps x0 g x + (m + 1) : Nat) : Int) % g := by rw [← Int.natCast_emod, ← Int.natCast_emod, ey]
  have e2 := Int.emod_eq_emod_iff_emod_sub_eq_zero.mp e1
  have e3 : ((t : Nat) : Int) % g = ((clsN ps x0 g x + m : Nat) : Int) % g := by
    refine Int.emod_eq_emod_iff_emod_sub_eq_zero.mpr ?_
    rw [show ((t : Nat) : Int) - ((clsN ps x0 g x + m : Nat) : Int) = ((t + 1 : Nat) : Int) - ((clsN ps x0 g x + (m + 1) : Nat) : Int) by omega]
    exact e2
  rw [← Int.natCast_emod, ← Int.natCast_emod] at e3
  exact_mod_cast e3
/-- by so many steps of a part of up to n marks: everywhere -/
theorem ev_far (hb : ∀ q ∈ ps, Pr (n : Int) q) (kn : Knot ps p x0) (per : Per ps x0 g) (hbd : ∀ m ∈ p, 0 ≤ m ∧ m < (n : Int)) (rp : ∀ y ∈ p, Rch ps y y) : Ev ps p x0 g (n * (n + 1)) := fun x hx => by
  -- a way back to x by n + 1 steps at most
  obtain ⟨c, c1, cn, wc⟩ : ∃ c, 1 ≤ c ∧ c ≤ n + 1 ∧ Wk ps c x x := by
    obtain ⟨z, _, e⟩ := step_in kn hx (rp x hx)
    obtain ⟨t, wt⟩ := rch_wk (rp x hx)
    cases wt with
    | more w e2 =>
      obtain ⟨m', hm', w'⟩ := wk_short hb (hbd x hx) w
      exact ⟨m' + 1, by omega, by omega, .more w' e2⟩
  have gc : g ∣ c := by
    obtain ⟨a, wa⟩ := kn.out x hx
    obtain ⟨b, wb⟩ := kn.back x hx
    exact dvd_mid (per.all _ ((wa.trans wc).trans wb)) (per.all _ (wa.trans wb))
  have base : ∀ y ∈ p, clsN ps x0 g y = (clsN ps x0 g x + n * c) % g → Wk ps (n * c) x y := fun y hy ey => by
    refine same_class hb kn per hbd hx hy ?_ c1 wc
    obtain ⟨k, hk⟩ := gc
    obtain ⟨t, wt⟩ := kn.out x hx
    have ex := per.cls wt (kn.back x hx)
    rw [ey, hk, ← Nat.mul_assoc, Nat.mul_comm n g, Nat.mul_assoc, Nat.add_mul_mod_self_left, ← ex, Nat.mod_mod]
  have up : ∀ j, ∀ y ∈ p, clsN ps x0 g y = (clsN ps x0 g x + (n * c + j)) % g → Wk ps (n * c + j) x y := fun j => by
    induction j with
    | zero => exact base
    | succ j ih => exact ev_next kn per rp ih
  have hle : n * c ≤ n * (n + 1) := Nat.mul_le_mul_left n cn
  have z := up (n * (n + 1) - n * c)
  rw [Nat.add_sub_cancel' hle] at z
  exact z
end
end RV
set_option maxHeartbeats 4000000
namespace K20
open PySem PySem.Spec PyProof.Rows L2 RV
theorem lk_wk {ps : List (List Int)} {N : Int} (hP : ∀ q ∈ ps, Pr N q) : ∀ {n : Nat} {a b : Int}, lk (behindOf ps) n a b → Wk ps n a b
  | 0, a, b, h => by rw [show a = b from h]; exact .nil b
  | n + 1, a, b, ⟨c, h1, h2⟩ => by
    rw [Nat.add_comm]
    exact (Wk.one ((mem_behind hP).mp h1)).trans (lk_wk hP h2)
theorem wk_lk {ps : List (List Int)} {N : Int} (hP : ∀ q ∈ ps, Pr N q) : ∀ {n : Nat} {a b : Int}, Wk ps n a b → lk (behindOf ps) n a b
  | 0, a, b, h => h.zero
  | n + 1, a, b, h => by
    cases h with
    | more w e => exact lk_add.mpr ⟨_, wk_lk hP w, lk_one.mpr ((mem_behind hP).mpr e)⟩
/-- the pairs (mark, class) of a part, as a list of tuples -/
def KnownAt (H : Hp) (L : Addr) (ps : List (List Int)) (N : Nat) (p : List Int) : Prop := ∃ ts : List Addr, H L = some (.lst (ts.map V.ref)) ∧ ts.length = p.length ∧ ∀ (j : Nat) (t : Addr), ts[j]? = some t → ∃ m, p[j]? = some m ∧ H t = some (.tup [.int m, .int ((clsM ps N m : Nat) : Int)])
theorem KnownAt.same {H H' : Hp} {L : Addr} {ps : List (List Int)} {N : Nat} {p : List Int} (h : KnownAt H L ps N p) (s : Same H H') : KnownAt H' L ps N p := by
  obtain ⟨ts, h1, h2, h3⟩ := h
  exact ⟨ts, s _ _ h1, h2, fun j t ht => (h3 j t ht).imp fun m z => ⟨z.1, s _ _ z.2⟩⟩
section
variable {P : Program} {w : World} {K : PySem.W.Frag} {mg : Str → Option Value} {base : Heap}
/-! ### lead_everywhere -/
abbrev nLead : List Str := ["ends", "known", "its_period", "n", "one", "its_class", "wanted", "other", "k"]
theorem scLead : FnScope nLead ["ends", "known", "its_period", "n"] (defScope sLead) := ⟨rfl, rfl, rfl, by decide +kernel, rfl, by decide +kernel, by decide +kernel⟩
def spLead (K : PySem.W.Frag) : Sp := fun vs H Q _ => ∃ (e L : Addr) (g n N : Nat) (p : List Int) (ps : List (List Int)), vs = [.ref e, .ref L, .int (g : Int), .int (n : Int)] ∧ N ≤ 8 ∧ p.length ≤ 8 ∧ 0 < g ∧ (∀ x ∈ p, 0 ≤ x ∧ x < (N : Int)) ∧ Tab K H e N (lk (behindOf ps) n) ∧ KnownAt H L ps N p ∧
  ∀ (H' : Hp) (b : Bool), Same H H' → (b = true ↔ ∀ x ∈ p, ∀ y ∈ p, clsM ps N y = (clsM ps N x + n) % g → lk (behindOf ps) n x y) → Q (.bl b) H'
theorem ok_lead {f : Addr} {fd : FuncData} (F : Fun K "lead_everywhere" "lead_everywhere" sLead f fd) (B : Bare mg) : FnOk P w K mg base CX0 1 f fd ["ends", "known", "its_period", "n"] (spLead K) := by
  refine F.ok scLead (fun vs H Q E h => ?_) (fun cdv A outer s H vs Q E hr h => ?_)
  · obtain ⟨e, L, g, n, N, p, ps, rfl, _⟩ := h
    rfl
  · obtain ⟨e, L, g, n, N, p, ps, rfl, n8, lp, g0, inn, tab, kn, q⟩ := h
    have hu5 := un65 hr
    refine ⟨_, pss_cons (ps_for PassesOwn.never rfl (pi_list (pv 1)) (pg_tup rfl (pgs_cons (pg_name (i := 4) scLead.nd rfl (Or.inr rfl)) (pgs_cons (pg_name (i := 5) scLead.nd rfl (Or.inl rfl)) pgs_nil)))
        (pss_cons (ps_set (i := 6) scLead.nd rfl (Or.inr rfl) (pe_op op_mod (pe_op op_add (pv 5) (pv 3)) (pv 2)))
        (pss_one (ps_if (pt_not (pt_val (pe_callB (cr_all rfl) (by rfl) B.all (by decide +kernel) (pa_cons
          (pe_lc (own := [("other", 7), ("k", 8)]) (g := gTup K 2 (gCons (gName 7) (gCons (gName 8) gNil))) rfl scLead.nd (pi_list (pv 1)) (blkOk_by (N := nLead) (sc := defScope sLead) (by decide +kernel))
            (fun _ _ _ _ _ => pg_tupK rfl rfl (pgs_cons (pg_name (i := 7) scLead.nd rfl (Or.inl rfl)) (pgs_cons (pg_name (i := 8) scLead.nd rfl (Or.inl rfl)) pgs_nil)))
            (fun _ _ _ _ _ => pts_one (pt_cmpR op_eq (pv 8) (pv 6) (nomark _)))
            (fun _ _ _ _ _ => pe_cmpR (op_inTIK (K := K) rfl hu5) (pv 7) (pe_ix (ix_tupK (K := K) rfl) (pv 0) (pv 4) (fun _ _ => rfl)) (by rfl))) pa_nil)))) (pss_one (ps_ret pe_bl)) pss_nil))))
      (pss_one (ps_ret pe_bl)), ?_⟩
    obtain ⟨ts, k1, k2, k3⟩ := id kn
    refine ⟨.ref L, rfl, L, rfl, ⟨_, lstNew k1⟩, ?_⟩
    refine for_list (K := K) (a := L) (xs := ts.map V.ref) (fun i σ H' => ∃ (y4 y5 y6 y7 y8 : Option V), σ = [some (.ref e), some (.ref L), some (.int (g : Int)), some (.int (n : Int)), y4, y5, y6, y7, y8] ∧ Same H H' ∧ ∀ x ∈ p.take i, ∀ y ∈ p, clsM ps N y = (clsM ps N x + n) % g → lk (behindOf ps) n x y)
      ⟨none, none, none, none, none, rfl, Same.refl H, fun x hx => by simp at hx⟩ ?_ ?_ ?_
    · intro i σ H1 _ h
      obtain ⟨_, _, _, _, _, rfl, s1, _⟩ := h
      exact lstNew (s1 _ _ k1)
    · rintro i v σ H1 hv ⟨y4, y5, y6, y7, y8, rfl, s1, done⟩
      obtain ⟨t, gt, rfl⟩ := map_at hv
      obtain ⟨x, gx, et⟩ := k3 i t gt
      have hx := List.mem_of_getElem? gx
      have bx := inn x hx
      refine ⟨t, _, rfl, tupNew (s1 _ _ et), rfl, _, _, rfl, _, _, rfl, rfl, ?_⟩
      refine ⟨.int ((clsM ps N x : Nat) : Int), rfl, .int (n : Int), rfl, _, _, rfl, rfl, .int (g : Int), rfl, _, _, rfl, rfl, (by omega), ?_⟩
      have ew : (((clsM ps N x : Nat) : Int) + (n : Int)) % (g : Int) = (((clsM ps N x + n) % g : Nat) : Int) := by rw [Int.natCast_emod, Int.natCast_add]
      show gName 6 (V.int ((((clsM ps N x : Nat) : Int) + (n : Int)) % (g : Int))) _ _ _
      rw [ew]
      generalize hw : (clsM ps N x + n) % g = wn
      refine ⟨.ref L, rfl, L, rfl, ⟨_, lstNew (s1 _ _ k1)⟩, fun D nD => ?_⟩
      refine lc_list (K := K) (a := L) (xs := ts.map V.ref) (fun j H' => Same H1 H' ∧ ∃ bs : List Bool, H' D = some (.lst (bs.map V.bl)) ∧ bs.length ≤ j ∧ (bs.all id = true ↔ ∀ y ∈ p.take j, clsM ps N y = wn → lk (behindOf ps) n x y)) ⟨same_upd nD, [], upd_same, Nat.le_refl _, by simp⟩ (fun j H' _ h => lstNew (h.1 _ _ (s1 _ _ k1))) (fun j v H2 hv2 h => ?_) fun H2 h => ?_
      · obtain ⟨u, gu, rfl⟩ := map_at hv2
        obtain ⟨y, gy, eu⟩ := k3 j u gu
        obtain ⟨s2, bs, e2, l2, m2⟩ := h
        have hj : j < p.length := (List.getElem?_eq_some_iff.mp gy).1
        obtain ⟨vs, ca, xs, z1, z2, z3, z4, z5, z6⟩ := (tab.same (s1.trans s2)).at bx.1 bx.2
        refine ⟨u, _, rfl, tupNew ((s1.trans s2) _ _ eu), rfl, _, _, rfl, _, _, rfl, rfl, rfl, ?_⟩
        refine ⟨.int ((clsM ps N y : Nat) : Int), rfl, .int (wn : Int), rfl, rfl, _, rfl, ?_⟩
        rw [decV]
        by_cases hc : clsM ps N y = wn
        · rw [decide_eq_true (show ((clsM ps N y : Nat) : Int) = (wn : Int) by rw [hc])]
          refine iteT ⟨.int y, rfl, .ref e, rfl, .int x, rfl, e, vs, x, .ref ca, rfl, rfl, z1, z2, ca, y, xs, rfl, rfl, z3, ?_⟩
          refine ⟨_, e2, by rw [List.length_map]; exact few1 (by omega), fun b' o zz => ?_, bs ++ [decide (y ∈ xs)], by rw [upd_same, List.map_append]; rfl, by rw [List.length_append]; simp; omega, ?_⟩
          · rw [upd_ne (ne_of_none zz nD)]; exact s2 b' o zz
          · rw [List.all_append, Bool.and_eq_true, m2, List.take_add_one, gy]
            have e6 : ([decide (y ∈ xs)].all id = true) ↔ lk (behindOf ps) n x y := by
              rw [← z6 y]; simp
            rw [e6]
            constructor
            · rintro ⟨h1, h2⟩ o ho eo
              rcases List.mem_append.mp ho with ho | ho
              · exact h1 o ho eo
              · rw [List.mem_singleton.mp ho]; exact h2
            · intro h
              exact ⟨fun o ho => h o (List.mem_append_left _ ho), h y (List.mem_append_right _ (List.mem_singleton.mpr rfl)) hc⟩
        · rw [decide_eq_false (show ¬ ((clsM ps N y : Nat) : Int) = (wn : Int) by omega)]
          refine iteF ⟨s2, bs, e2, by omega, ?_⟩
          rw [m2, List.take_add_one, gy]
          constructor
          · intro h o ho eo
            rcases List.mem_append.mp ho with ho | ho
            · exact h o ho eo
            · rw [List.mem_singleton.mp ho] at eo; exact absurd eo hc
          · exact fun h o ho => h o (List.mem_append_left _ ho)
      · obtain ⟨s2, bs, e2, l2, m2⟩ := h
        rw [List.length_map, k2, List.take_of_length_le (Nat.le_refl _)] at m2
        refine ⟨D, _, rfl, lstNew e2, ?_⟩
        cases hb : bs.all id with
        | true =>
          refine ⟨true, rfl, iteF ?_⟩
          refine ⟨_, _, _, _, _, rfl, s1.trans s2, fun o ho => ?_⟩
          rw [List.take_add_one, gx] at ho
          rcases List.mem_append.mp ho with ho | ho
          · exact done o ho
          · rw [List.mem_singleton.mp ho, hw]; exact m2.mp hb
        | false =>
          refine ⟨false, rfl, iteT ?_⟩
          refine q H2 false (s1.trans s2) ⟨fun z => (by cases z), fun z => ?_⟩
          have := m2.mpr (by have := z x hx; rw [hw] at this; exact this)
          rw [hb] at this; cases this
    · rintro σ H1 ⟨y4, y5, y6, y7, y8, rfl, s1, done⟩
      refine q H1 true s1 ?_
      rw [List.length_map, k2, List.take_of_length_le (Nat.le_refl _)] at done
      exact ⟨fun _ => done, fun _ => rfl⟩
/-! ### span -/
abbrev nSpan : List Str := ["rule", "part", "its_period", "known", "step", "ends", "n"]
theorem scSpan : FnScope nSpan ["rule", "part"] (defScope sSpan) := ⟨rfl, rfl, rfl, by decide +kernel, rfl, by decide +kernel, by decide +kernel⟩
/-- the span of a part: the first number of steps from 1 on that leads everywhere -/
def SpanIs (ps : List (List Int)) (p : List Int) (T : Nat) : Prop := 1 ≤ T ∧ Ev ps p (hd0 p) (perN ps (hd0 p)) T ∧ ∀ m, 1 ≤ m → m < T → ¬ Ev ps p (hd0 p) (perN ps (hd0 p)) m
theorem SpanIs.uniq {ps : List (List Int)} {p : List Int} {T T' : Nat} (h : SpanIs ps p T) (h' : SpanIs ps p T') : T = T' := by
  rcases Nat.lt_trichotomy T T' with z | z | z
  · exact absurd h.2.1 (h'.2.2 T h.1 z)
  · exact z
  · exact absurd h'.2.1 (h.2.2 T' h'.1 z)
def spSpan (K : PySem.W.Frag) (C : Addr) : Sp := fun vs H Q _ => ∃ (r : Addr) (k : Nat) (ns : List Int) (ps : List (List Int)) (p : List Int), vs = [.ref r, .int (k : Int)] ∧ RuleAt K C H r ns ps ∧ Mir ns ∧ Stp ns ps ∧ (partsOf ps ns.length)[k]? = some p ∧
  ∀ (H' : Hp) (T : Nat), Same H H' → SpanIs ps p T → T ≤ ns.length * (ns.length + 1) → Q (.int (T : Int)) H'
theorem ok_span {f C fP fC fM fS fE fL : Addr} {fd dP dC dM dS dE dL : FuncData} (F : Fun K "span" "span" sSpan f fd) (B : Bare mg)
    (DM : DefAt K mg "period" sPeriod ["rule", "part"] fM dM) (GM : FnOk P w K mg base CX0 4 fM dM ["rule", "part"] (spPeriod K C))
    (DP : DefAt K mg "parts" sParts ["rule"] fP dP) (GP : FnOk P w K mg base CX0 3 fP dP ["rule"] (spParts K C)) (DC : DefAt K mg "classes" sClasses ["rule", "part"] fC dC) (GC : FnOk P w K mg base CX0 5 fC dC ["rule", "part"] (spClasses K C))
    (DS : DefAt K mg "ends_of_steps" sOfSteps ["rule"] fS dS) (GS : FnOk P w K mg base CX0 2 fS dS ["rule"] (spTab K C 1)) (DE : DefAt K mg "ends_behind" sEndsBehind ["first", "second"] fE dE) (DL : DefAt K mg "lead_everywhere" sLead ["ends", "known", "its_period", "n"] fL dL) :
    FnOk P w K mg base CX0 6 f fd ["rule", "part"] (spSpan K C) := by
  have GE : FnOk P w K mg base CX0 1 fE dE ["first", "second"] (spEB K) := ok_eb DE.fn B
  have GL : FnOk P w K mg base CX0 1 fL dL ["ends", "known", "its_period", "n"] (spLead K) := ok_lead DL.fn B
  refine F.ok scSpan (fun vs H Q E h => ?_) (fun cdv A outer s H vs Q E hr h => ?_)
  · obtain ⟨r, k, ns, ps, p, rfl, _⟩ := h
    rfl
  · obtain ⟨r, k, ns, ps, p, rfl, R, M, S, gk, q⟩ := h
    have r1 := hr.mono (show 1 ≤ 5 by decide)
    have r2 := hr.mono (show 2 ≤ 5 by decide)
    have r3 := hr.mono (show 3 ≤ 5 by decide)
    have r4 := hr.mono (show 4 ≤ 5 by decide)
    refine ⟨_, pss_cons (ps_set (i := 2) scSpan.nd rfl (Or.inl rfl) (pe_call GM r4 (by rfl) DM.mg DM.fn.kp DM.bi .nil pass0 (pa_cons (pv 0) (pa_cons (pv 1) pa_nil))))
      (pss_cons (ps_set (i := 3) scSpan.nd rfl (Or.inl rfl) (pe_listZip rfl (by rfl) B.list (by rfl) B.zip (pa_cons (pe_ix ix_tup (pe_call GP r3 (by rfl) DP.mg DP.fn.kp DP.bi .nil pass0 (pa_cons (pv 0) pa_nil)) (pv 1) (fun _ _ => rfl)) (pa_cons (pe_call GC hr (by rfl) DC.mg DC.fn.kp DC.bi .nil pass0 (pa_cons (pv 0) (pa_cons (pv 1) pa_nil))) pa_nil))))
      (pss_cons (ps_set (i := 4) scSpan.nd rfl (Or.inl rfl) (pe_call GS r2 (by rfl) DS.mg DS.fn.kp DS.bi .nil pass0 (pa_cons (pv 0) pa_nil)))
      (pss_cons (ps_set (i := 5) scSpan.nd rfl (Or.inl rfl) (pv 4))
      (pss_cons (ps_set (i := 6) scSpan.nd rfl (Or.inl rfl) pe_int)
      (pss_cons (ps_while PassesOwn.never (pt_not (pt_val (pe_call GL r1 (by rfl) DL.mg DL.fn.kp DL.bi .nil pass0 (pa_cons (pv 5) (pa_cons (pv 3) (pa_cons (pv 2) (pa_cons (pv 6) pa_nil)))))))
        (pss_cons (ps_set (i := 5) scSpan.nd rfl (Or.inl rfl) (pe_call GE r1 (by rfl) DE.mg DE.fn.kp DE.bi .nil pass0 (pa_cons (pv 5) (pa_cons (pv 4) pa_nil))))
        (pss_one (ps_aug (i := 6) scSpan.nd rfl (.inl rfl) pe_int iop_add))))
      (pss_one (ps_ret (pv 6)))))))), ?_⟩
    have h8 := M.few
    have hP : ∀ q ∈ ps, Pr (ns.length : Int) q := fun q hq => S.pair q hq
    have hpm := List.mem_of_getElem? gk
    have lp : p.length ≤ 8 := part_len8 h8 hpm
    have inn : ∀ x ∈ p, 0 ≤ x ∧ x < (ns.length : Int) := fun x hx => part_bd hpm hx
    have kn := knot_of hP hpm
    have rp : ∀ y ∈ p, Rch ps y y := fun y hy => lot_some (n := ns.length) (by rw [part_lot hpm hy]; exact hy)
    refine ⟨.ref r, rfl, .int (k : Int), rfl, r, k, ns, ps, p, rfl, R, M, S, gk, fun H1 s1 per => ?_⟩
    have g0 : 0 < perN ps (hd0 p) := per.pos (rp _ kn.x_in)
    have evIs : ∀ n, Ev ps p (hd0 p) (perN ps (hd0 p)) n ↔ ∀ x ∈ p, ∀ y ∈ p, clsM ps ns.length y = (clsM ps ns.length x + n) % perN ps (hd0 p) → lk (behindOf ps) n x y := fun n => by
      constructor
      · intro h x hx y hy e
        rw [clsM_of hpm hx, clsM_of hpm hy] at e
        exact wk_lk hP (h x hx y hy e)
      · intro h x hx y hy e
        rw [← clsM_of hpm hx, ← clsM_of hpm hy] at e
        exact lk_wk hP (h x hx y hy e)
    have far := ev_far hP kn per inn rp
    have N1 : 1 ≤ ns.length := by have := inn _ kn.x_in; omega
    obtain ⟨B, eB⟩ : ∃ B, B = ns.length * (ns.length + 1) := ⟨_, rfl⟩
    rw [← eB] at far q
    have B1 : 1 ≤ B := by rw [eB]; exact Nat.mul_pos N1 (by omega)
    refine ⟨.ref r, rfl, r, ns, ps, rfl, R.same s1, M, S, fun H2 c s2 nc hc => ?_⟩
    obtain ⟨ks, k1, k2, k3⟩ := hc
    have gk' : (ks.map (·.2))[k]? = some p := by rw [k1]; exact gk
    obtain ⟨kk, gkk, ekk⟩ := map_at gk'
    have hp : SqT K H2 kk.1 (p.map V.int) := by
      have z := (k3 kk (List.mem_of_getElem? gkk)).sq (K := K)
      rw [← ekk] at z; exact z
    refine ⟨.int (k : Int), rfl, c, _, _, .ref kk.1, rfl, rfl, tupNew k2, atI_nat (by rw [List.getElem?_map, gkk]; rfl), ?_⟩
    refine ⟨.ref r, rfl, .int (k : Int), rfl, r, k, ns, ps, p, rfl, R.same (s1.trans s2), M, S, gk, fun H3 cc s3 ncc hcc pp => ?_⟩
    refine ⟨kk.1, cc, _, _, rfl, sqT_same s3 hp, tupNew hcc, fun H4 L ts s4 nL eL lts hts => ?_⟩
    have s04 := ((s1.trans s2).trans s3).trans s4
    have lts' : ts.length = p.length := by rw [lts]; unfold clsL; simp
    have kn4 : KnownAt H4 L ps ns.length p := ⟨ts, eL, lts', fun j t hj => by
      obtain ⟨x, y, e1, e2, e3⟩ := hts j t hj
      rw [List.getElem?_map] at e1
      obtain ⟨m, gm, rfl⟩ := Option.map_eq_some_iff.mp e1
      unfold clsL at e2
      rw [List.getElem?_map, List.getElem?_map, gm] at e2
      cases e2
      exact ⟨m, gm, e3⟩⟩
    refine ⟨.ref r, rfl, r, ns, ps, rfl, R.same s04, S, h8, fun H5 t s5 tab => ?_⟩
    have s05 := s04.trans s5
    refine ⟨.ref t, rfl, ?_⟩
    refine ⟨fun m σ H' => ∃ (n : Nat) (e : Addr), σ = [some (.ref r), some (.int (k : Int)), some (.int ((perN ps (hd0 p) : Nat) : Int)), some (.ref L), some (.ref t), some (.ref e), some (.int (n : Int))] ∧ Same H5 H' ∧ Tab K H' e ns.length (lk (behindOf ps) n) ∧ 1 ≤ n ∧ n + m = B ∧ ∀ j, 1 ≤ j → j < n → ¬ Ev ps p (hd0 p) (perN ps (hd0 p)) j,
      ⟨B - 1, 1, t, rfl, Same.refl H5, tab, Nat.le_refl _, by omega, fun j h1 h2 => by omega⟩, ?_⟩
    rintro m σ H6 ⟨n, e, rfl, s6, tab6, n1, em, no⟩
    refine ⟨.ref e, rfl, .ref L, rfl, .int ((perN ps (hd0 p) : Nat) : Int), rfl, .int (n : Int), rfl, e, L, perN ps (hd0 p), n, ns.length, p, ps, rfl, h8, lp, g0, inn, tab6, kn4.same (s5.trans s6), fun H7 b s7 hb => ?_⟩
    rw [← evIs n] at hb
    cases b with
    | true =>
      refine ⟨true, rfl, iteF ⟨.int (n : Int), rfl, q H7 n ((s05.trans s6).trans s7) ⟨n1, hb.mp rfl, no⟩ (by omega)⟩⟩
    | false =>
      have ne : ¬ Ev ps p (hd0 p) (perN ps (hd0 p)) n := fun z => by have := hb.mpr z; cases this
      have m0 : m ≠ 0 := fun z => ne (by rw [show n = B by omega]; exact far)
      refine ⟨false, rfl, iteT ?_⟩
      refine ⟨fun σ H' => ∃ (n' : Nat) (e : Addr), σ = [some (.ref r), some (.int (k : Int)), some (.int ((perN ps (hd0 p) : Nat) : Int)), some (.ref L), some (.ref t), some (.ref e), some (.int (n' : Int))] ∧ Same H5 H' ∧ Tab K H' e ns.length (lk (behindOf ps) n') ∧ 1 ≤ n' ∧ n' + (m - 1) = B ∧ ∀ j, 1 ≤ j → j < n' → ¬ Ev ps p (hd0 p) (perN ps (hd0 p)) j, fun σ' H' z => ⟨m - 1, by omega, z⟩, ?_⟩
      have s67 := s6.trans s7
      refine ⟨.ref e, rfl, .ref t, rfl, e, t, ns.length, _, _, rfl, h8, tab6.same s7, tab.same s67, fun H8 t8 s8 T8 => ?_⟩
      refine ⟨_, rfl, _, 1, rfl, rfl, n + 1, t8, rfl, s67.trans s8, T8.congr fun i x _ _ => lk_add.symm, by omega, by omega, fun j h1 h2 => ?_⟩
      rcases Nat.lt_or_ge j n with z | z
      · exact no j h1 z
      · rw [show j = n by omega]; exact ne
end
end K20
set_option maxHeartbeats 4000000
/-! d.update(e) of two dicts with int or text keys -/
namespace RV
open PySem PySem.Spec PyProof.Rows L2
section
variable {X : Cx}
def rUpdD : V → List V → Hp → VK → Prop := fun x xs H Q => ∃ (a b : Addr) (kvs ls : List (L2.Key × V)), x = .ref a ∧ xs = [.ref b] ∧ a ≠ b ∧ H a = some (.dK kvs) ∧ H b = some (.dK ls) ∧ kvs.length + ls.length ≤ sizeLine ∧ Q .non (upd H a (.dK (mergeK kvs ls)))
theorem mt_updD : MtR X "dict.update" rUpdD := by
  intro pins s σ H x xs v us Q I rx rxs h
  obtain ⟨a, b, kvs, ls, rfl, rfl, ne, ea, eb, hz, q⟩ := h
  cases rx
  obtain ⟨u1, rfl, r1⟩ := vals1 rxs
  cases r1
  obtain ⟨z1, hd1, vs1, rel1, dd1⟩ := dk_of I.hok ea
  obtain ⟨z2, hd2, vs2, rel2, dd2⟩ := dk_of I.hok eb
  refine call_meetsIn PySem.F.slot_dict_update dd1.typeIs PySem.F.entry_dict_update (PySem.F.args_dict_update_2 _ _) (meets_dict_update (mixKind X.prog X.w) a b ne hd2)
    ⟨vs1, vs2, dd1, dd2, by rw [← rel1.length, ← rel2.length]; exact hz, fun h' d1 d2 hs => ?_⟩
  have he : ∃ q, h'.get? a = some q := let ⟨q, _, _, hq, _⟩ := d1; ⟨q, hq⟩
  have hl : (mergeK kvs ls).length ≤ sizeLine := Nat.le_trans (length_mergeK ls kvs) hz
  exact ⟨.non, _, d_write (t' := s.toks) I (by rw [ea]; exact True.intro) hs he (dk_new hl hd1 (KV.merge rel2 rel1) d1), rfl, q⟩
/-- d.update(d) -/
theorem self_upd {P : Program} {w : World} {Ky : Type} [DecidableEq Ky] (knd : KeyKind P w Ky) (d : Addr) : MeetsIn P w (Builtin.«dict.update» ⟨[.ref d, .ref d], []⟩) (fun _ R s => (∃ kvs, s.heap.DictOf knd d kvs) ∧ R (.ok (.ret .none)) s) :=
  .of_wp fun A R s ⟨⟨kvs, hz⟩, q⟩ => by
    unfold Builtin.«dict.update» Builtin.Dict.selfAndRest
    refine wpAny_bind (wpAny_bind (wpAny_notOrdered_dict hz.typeIs (wpAny_pure ?_)))
    show wpAny _ _ (Builtin.Dict.updateFrom "dict.update" d (Value.ref d) [] Value.none) _ _ s
    unfold Builtin.Dict.updateFrom Builtin.Dict.merge Builtin.Dict.readDirectly
    have hT := hz.typeIs
    refine wpAny_bind (wpAny_typeOf hT ?_)
    rw [if_neg (by decide)]
    refine wpAny_bind (wpAny_bind (wpAny_bind (wpAny_isInstance hT isSubtype_dict_dict ?_))); simp only [Bool.not_true, Bool.false_eq_true, if_false]
    refine wpAny_bind (wpAny_specialOf hT F.slot_dict_iter.lookup (wpAny_pure ?_)); simp only [beq_self_eq_true, if_true]; refine wpAny_bind (wpAny_pure ?_)
    unfold Builtin.Dict.mergeDict
    rw [if_pos (beq_self_eq_true d)]
    refine wpAny_bind (wpAny_rule (wpAny_pure ?_))
    show wpAny _ _ (Builtin.Dict.addKeywords d ([] : List (Str × Value)) >>= _) _ _ s
    exact wpAny_bind (wpAny_pure (wpAny_pure ⟨.none, rfl, q⟩))
/-- d.update(e), the same dict or another one -/
def rUpdW : V → List V → Hp → VK → Prop := fun x xs H Q => ∃ (a b : Addr) (kvs ls : List (L2.Key × V)), x = .ref a ∧ xs = [.ref b] ∧ H a = some (.dK kvs) ∧ H b = some (.dK ls) ∧ kvs.length + ls.length ≤ sizeLine ∧ (a = b → Q .non H) ∧ (a ≠ b → Q .non (upd H a (.dK (mergeK kvs ls))))
theorem mt_updW : MtR X "dict.update" rUpdW := by
  intro pins s σ H x xs v us Q I rx rxs h
  obtain ⟨a, b, kvs, ls, rfl, rfl, ea, eb, hz, q1, q2⟩ := h
  by_cases e : a = b
  · subst e
    cases rx
    obtain ⟨u1, rfl, r1⟩ := vals1 rxs
    cases r1
    obtain ⟨_, _, vs1, _, dd1⟩ := dk_of I.hok ea
    exact call_meetsIn PySem.F.slot_dict_update dd1.typeIs PySem.F.entry_dict_update (PySem.F.args_dict_update_2 _ _) (self_upd (mixKind X.prog X.w) a) ⟨⟨vs1, dd1⟩, .non, H, I, rfl, q1 rfl⟩
  · exact mt_updD pins s σ H _ _ v us Q I rx rxs ⟨a, b, kvs, ls, rfl, rfl, e, ea, eb, hz, q2 e⟩
end
end RV
set_option maxHeartbeats 4000000
/-! dicts by whom they hold: {x: True, ..} of ints -/
namespace RV
open PySem PySem.Spec PyProof.Rows L2
def bT (x : Int) : L2.Key × V := (Sum.inl x, V.bl true)
def kB (ls : List Int) : List (L2.Key × V) := ls.map bT
theorem kB_keys (ls : List Int) : (kB ls).map (·.1) = ls.map Sum.inl := by
  unfold kB
  rw [List.map_map]; rfl
theorem kB_len (ls : List Int) : (kB ls).length = ls.length := List.length_map ..
theorem kB_app (ls ms : List Int) : kB (ls ++ ms) = kB ls ++ kB ms := List.map_append
theorem valB {m : Int} : ∀ {ls : List Int}, (valV (kB ls) (Sum.inl m)).isSome = decide (m ∈ ls)
  | [] => by rw [decide_eq_false (by simp)]; rfl
  | x :: ls => by
    show (valV (bT x :: kB ls) (Sum.inl m)).isSome = _
    by_cases e : x = m
    · rw [valV_pos (show (bT x).1 = Sum.inl m by rw [e]; rfl), decide_eq_true (by rw [e]; exact List.mem_cons_self ..)]; rfl
    · rw [valV_neg (show ¬ (bT x).1 = Sum.inl m from fun z => e (Sum.inl.inj z)), valB]
      exact decide_eq_decide.mpr ⟨List.mem_cons_of_mem _, fun z => (List.mem_cons.mp z).resolve_left fun y => e y.symm⟩
theorem valB_none {m : Int} {ls : List Int} (h : m ∉ ls) : valV (kB ls) (Sum.inl m) = none := by
  have z := valB (m := m) (ls := ls)
  rw [decide_eq_false h] at z
  exact Option.isNone_iff_eq_none.mp (by rw [← Option.not_isSome, z]; rfl)
theorem putB_new {m : Int} {ls : List Int} (h : m ∉ ls) : putK (kB ls) (Sum.inl m) (.bl true) = kB (ls ++ [m]) := by
  rw [putK_new _ (valB_none h), kB_app]; rfl
theorem putB_old {m : Int} {ls : List Int} (h : m ∈ ls) : putK (kB ls) (Sum.inl m) (.bl true) = kB ls := by
  unfold putK
  rw [valV_any, valB, decide_eq_true h, if_pos rfl]
  refine (List.map_congr_left fun kv hk => ?_).trans (List.map_id _)
  obtain ⟨x, hx, rfl⟩ := List.mem_map.mp hk
  by_cases e : (bT x).1 = Sum.inl m
  · rw [if_pos e]; rfl
  · rw [if_neg e]; rfl
/-- the keys that one more makes -/
def addB (ls : List Int) (m : Int) : List Int := if m ∈ ls then ls else ls ++ [m]
theorem putB {m : Int} {ls : List Int} : putK (kB ls) (Sum.inl m) (.bl true) = kB (addB ls m) := by
  unfold addB
  by_cases h : m ∈ ls
  · rw [if_pos h, putB_old h]
  · rw [if_neg h, putB_new h]
theorem mem_addB {ls : List Int} {m x : Int} : x ∈ addB ls m ↔ x ∈ ls ∨ x = m := by
  unfold addB
  by_cases h : m ∈ ls
  · rw [if_pos h]
    exact ⟨.inl, fun z => z.elim id fun e => e ▸ h⟩
  · rw [if_neg h, List.mem_append, List.mem_singleton]
theorem nd_addB {ls : List Int} {m : Int} (h : ls.Nodup) : (addB ls m).Nodup := by
  unfold addB
  by_cases e : m ∈ ls
  · rw [if_pos e]; exact h
  · rw [if_neg e, List.nodup_append]
    exact ⟨h, (List.pairwise_singleton _ _), fun a ha b hb => by rw [List.mem_singleton.mp hb]; exact fun z => e (z ▸ ha)⟩
theorem len_addB (ls : List Int) (m : Int) : (addB ls m).length ≤ ls.length + 1 := by
  unfold addB
  split
  · omega
  · rw [List.length_append]; exact Nat.le_refl _
/-- the keys that many more make -/
def addBs (ls ms : List Int) : List Int := ms.foldl addB ls
theorem mergeB : ∀ {ms ls : List Int}, mergeK (kB ls) (kB ms) = kB (addBs ls ms)
  | [], _ => rfl
  | m :: ms, ls => by
    show mergeK (putK (kB ls) (Sum.inl m) (.bl true)) (kB ms) = _
    rw [putB, mergeB]; rfl
theorem mem_addBs {x : Int} : ∀ {ms ls : List Int}, x ∈ addBs ls ms ↔ x ∈ ls ∨ x ∈ ms
  | [], ls => by simp [addBs]
  | m :: ms, ls => by
    show x ∈ addBs (addB ls m) ms ↔ _
    rw [mem_addBs, mem_addB, List.mem_cons, or_assoc]
theorem nd_addBs : ∀ {ms ls : List Int}, ls.Nodup → (addBs ls ms).Nodup
  | [], _, h => h
  | m :: ms, ls, h => by
    show (addBs (addB ls m) ms).Nodup
    exact nd_addBs (nd_addB h)
theorem len_addBs : ∀ (ms ls : List Int), (addBs ls ms).length ≤ ls.length + ms.length
  | [], ls => Nat.le_refl _
  | m :: ms, ls => by
    have h1 := len_addBs ms (addB ls m)
    have h2 := len_addB ls m
    show (addBs (addB ls m) ms).length ≤ _
    rw [List.length_cons]; omega
/-- the dict at d holds just these -/
def DicB (H : Hp) (d : Addr) (ls : List Int) : Prop := H d = some (.dK (kB ls)) ∧ ls.Nodup
theorem DicB.same {H H' : Hp} {d : Addr} {ls : List Int} (h : DicB H d ls) (s : Same H H') : DicB H' d ls := ⟨s _ _ h.1, h.2⟩
theorem DicB.get {H : Hp} {d : Addr} {ls : List Int} (h : DicB H d ls) (m : Int) : DGet H d (.int m) (valV (kB ls) (Sum.inl m)) := DGet.k (k := Sum.inl m) h.1
theorem DicB.put {H : Hp} {d : Addr} {ls : List Int} (h : DicB H d ls) (m : Int) (l : ls.length ≤ 1000) : DPut H d (.int m) (.bl true) (upd H d (.dK (kB (addB ls m)))) := by
  rw [← putB]
  exact DPut.k (k := Sum.inl m) h.1 (by rw [kB_len]; exact few1 (by omega))
theorem DicB.nil {H : Hp} {d : Addr} (h : H d = some (.dK [])) : DicB H d [] := ⟨h, List.nodup_nil⟩
theorem DicB.more {H : Hp} {d : Addr} {ls : List Int} (h : DicB H d ls) (m : Int) : DicB (upd H d (.dK (kB (addB ls m)))) d (addB ls m) := ⟨upd_same, nd_addB h.2⟩
theorem DicB.over {H : Hp} {d D : Addr} {ls : List Int} {vs : List V} {o : HO} (h : DicB H d ls) (e : H D = some (.lst vs)) : DicB (upd H D o) d ls := ⟨by rw [upd_ne (fun z => by have w := h.1; rw [z, e] at w; cases w)]; exact h.1, h.2⟩
theorem DicB.ne {H : Hp} {d D : Addr} {ls : List Int} {o : HO} (h : DicB H d ls) (n : d ≠ D) : DicB (upd H D o) d ls := ⟨by rw [upd_ne n]; exact h.1, h.2⟩
/-- pairs (x, True), one behind the other -/
def BagL (H : Hp) (D : Addr) (ms : List Int) : Prop := ∃ ts : List (Addr × Int), H D = some (.lst ((ts.map (·.1)).map V.ref)) ∧ (∀ t ∈ ts, H t.1 = some (.tup [.int t.2, .bl true])) ∧ ts.map (·.2) = ms
theorem BagL.nil {H : Hp} {D : Addr} (h : H D = some (.lst [])) : BagL H D [] := ⟨[], h, (fun _ z => nomatch z), rfl⟩
theorem BagL.same {H H' : Hp} {D : Addr} {ms : List Int} (h : BagL H D ms) (s : Same H H') : BagL H' D ms := by
  obtain ⟨ts, h1, h2, h3⟩ := h
  exact ⟨ts, s _ _ h1, fun t ht => s _ _ (h2 t ht), h3⟩
theorem BagL.lst {H : Hp} {D : Addr} {ms : List Int} (h : BagL H D ms) : ∃ vs : List V, H D = some (.lst vs) ∧ vs.length = ms.length := by
  obtain ⟨ts, h1, h2, h3⟩ := h
  exact ⟨_, h1, by rw [← h3]; simp⟩
theorem BagL.add {H : Hp} {D T : Addr} {ms : List Int} {vs : List V} {y : Int} (h : BagL H D ms) (e : H D = some (.lst vs)) (nT : H T = none) : BagL (upd (upd H T (.tup [.int y, .bl true])) D (.lst (vs ++ [.ref T]))) D (ms ++ [y]) := by
  obtain ⟨ts, h1, h2, h3⟩ := h
  have sT := same_upd (o := .tup [.int y, .bl true]) nT
  have ev : vs = (ts.map (·.1)).map V.ref := by rw [e] at h1; cases h1; rfl
  subst ev
  refine ⟨ts ++ [(T, y)], by rw [upd_same, List.map_append, List.map_append]; rfl, fun t ht => ?_, by rw [List.map_append, h3]; rfl⟩
  rcases List.mem_append.mp ht with z | z
  · have e4 := h2 t z
    rw [upd_ne (fun u => by rw [u, e] at e4; cases e4)]; exact sT _ _ e4
  · rw [List.mem_singleton.mp z, upd_ne (ne_of_none e nT).symm]; exact upd_same
theorem paired_bag {K : PySem.W.Frag} {H : Hp} : ∀ ts : List (Addr × Int), (∀ t ∈ ts, H t.1 = some (.tup [.int t.2, .bl true])) → Paired (fun (p : Addr) (kv : L2.Key × V) => SqT K H p [kV kv.1, kv.2]) (ts.map (·.1)) (kB (ts.map (·.2)))
  | [], _ => .nil
  | t :: ts, h => .cons (tupNew (h t (List.mem_cons_self ..))) (paired_bag ts fun u hu => h u (List.mem_cons_of_mem _ hu))
/-- dict(..) of such a list -/
theorem BagL.dict {K : PySem.W.Frag} {H : Hp} {D : Addr} {ms : List Int} (h : BagL H D ms) : ∃ ps : List Addr, SqL K H D (ps.map V.ref) ∧ Paired (fun (p : Addr) (kv : L2.Key × V) => SqT K H p [kV kv.1, kv.2]) ps (kB ms) := by
  obtain ⟨ts, h1, h2, h3⟩ := h
  exact ⟨_, lstNew h1, by rw [← h3]; exact paired_bag ts h2⟩
/-- a loop over the keys of such a dict, locked -/
theorem it_keysB {d : Addr} {o : Obj} {ls : List Int} {H0 : Hp} {Fin : Hp → Prop} {Bd : V → Hp → (Hp → Prop) → Prop} (Pv : Nat → Hp → Prop) (h0 : Pv 0 H0) (hl : ∀ i H, Pv i H → H d = some (.frz o (.dK (kB ls))))
    (hs : ∀ i x H, ls[i]? = some x → Pv i H → Bd (.int x) H (Pv (i + 1))) (hd : ∀ H, Pv ls.length H → Fin H) :
    ∃ W : Nat → Nat → Hp → Prop, (∃ m, W 0 m H0) ∧ ∀ i m H, W i m H → ((Itk d o (kB ls)).stop i H ∧ Fin H) ∨ ((Itk d o (kB ls)).go i H ∧ ∃ Nx : Hp → Prop, (∀ H', Nx H' → ∃ m', m' < m ∧ W (i + 1) m' H') ∧ ∀ x H', (Itk d o (kB ls)).yld i H x H' → Bd x H' Nx) := by
  refine ⟨fun i m H => i ≤ ls.length ∧ m + i = ls.length ∧ Pv i H, ⟨ls.length, Nat.zero_le _, rfl, h0⟩, fun i m H ⟨hi, hm, hp⟩ => ?_⟩
  have hq := hl i H hp
  rcases Nat.lt_or_ge i ls.length with z | z
  · refine .inr ⟨⟨hq, by rw [kB_len]; exact z⟩, Pv (i + 1), fun H' p' => ⟨m - 1, by omega, z, by omega, p'⟩, fun x H' y => ?_⟩
    obtain ⟨rfl, k, v, e, rfl⟩ := y
    unfold kB at e
    rw [List.getElem?_map] at e
    obtain ⟨x, gx, ex⟩ := Option.map_eq_some_iff.mp e
    have e1 : Sum.inl x = k := congrArg Prod.fst ex
    rw [← e1]
    exact hs i x _ gx hp
  · obtain rfl : i = ls.length := by omega
    exact .inl ⟨⟨hq, by rw [kB_len]; exact Nat.le_refl _⟩, hd H hp⟩
/-- all stands but the object at d, which is as before behind the lock -/
def ButA (d : Addr) (H H' : Hp) : Prop := ∀ c o, H c = some o → c ≠ d → H' c = some o
theorem ButA.refl (d : Addr) (H : Hp) : ButA d H H := fun _ _ e _ => e
theorem ButA.trans {d : Addr} {H H1 H2 : Hp} (a : ButA d H H1) (b : ButA d H1 H2) : ButA d H H2 := fun c o e z => b c o (a c o e z) z
theorem ButA.of {d : Addr} {H H' : Hp} (s : Same H H') : ButA d H H' := fun c o e _ => s c o e
theorem ButA.lock {d : Addr} {H : Hp} (o : HO) : ButA d H (upd H d o) := fun c _ e z => by rw [upd_ne z]; exact e
theorem ButA.back {d : Addr} {H H' : Hp} {u : HO} (b : ButA d H H') (e : H d = some u) : Same H (upd H' d u) := fun c o h => by
  by_cases z : c = d
  · subst z; rw [upd_same, ← e, h]
  · rw [upd_ne z]; exact b c o h z
theorem ButA.free {d : Addr} {H H' : Hp} {a : Addr} (b : ButA d H H') (n : H' a = none) (z : a ≠ d) : H a = none := by
  cases e : H a with
  | none => rfl
  | some o => have w := b a o e z; rw [n] at w; cases w
/-- read, locked or not -/
def RdB (H : Hp) (d : Addr) (ls : List Int) : Prop := Rd H d (.dK (kB ls))
theorem DicB.rd {H : Hp} {d : Addr} {ls : List Int} (h : DicB H d ls) : RdB H d ls := .inl h.1
theorem RdB.get {H : Hp} {d : Addr} {ls : List Int} (h : RdB H d ls) (m : Int) : DGet H d (.int m) (valV (kB ls) (Sum.inl m)) := .inl ⟨_, Sum.inl m, h, rfl, rfl⟩
theorem RdB.frz {H : Hp} {d : Addr} {o : Obj} {ls : List Int} (h : H d = some (.frz o (.dK (kB ls)))) : RdB H d ls := .inr ⟨o, h⟩
/-- a dict beside the locked one, or itself -/
theorem rd_beside {H H' : Hp} {d d' : Addr} {o : Obj} {ls ls' : List Int} (e : H d = some (.dK (kB ls))) (f : H' d = some (.frz o (.dK (kB ls)))) (b : ButA d H H') (h : DicB H d' ls') : RdB H' d' ls' := by
  by_cases z : d' = d
  · subst z
    have w := h.1
    rw [e] at w
    have w : kB ls = kB ls' := by injection w with w; injection w
    rw [w] at f
    exact .frz f
  · exact .inl (b _ _ h.1 z)
theorem call_dictPK {X : Cx} {K : PySem.W.Frag} (h : X.K = K) (hcalm : X.calm = true) : CallR X (.type "dict") (fun xs H Q => ∃ (a : Addr) (ps : List Addr) (kvs : List (L2.Key × V)), xs = [.ref a] ∧ SqL K H a (ps.map V.ref) ∧ Paired (fun p kv => SqT K H p [kV kv.1, kv.2]) ps kvs ∧ ∀ p, H p = none → Q (.ref p) (upd H p (.dK (mergeK [] kvs)))) := h ▸ call_dictP hcalm
theorem mergeB0 {ms : List Int} : mergeK [] (kB ms) = kB (addBs [] ms) := mergeB (ls := [])
end RV
set_option maxHeartbeats 4000000
namespace K20
open PySem PySem.Spec PyProof.Rows L2 RV
/-- a list of dicts, each its own, by whom they hold -/
structure DicL (H : Hp) (L : Addr) (dls : List (Addr × List Int)) : Prop where
  l : H L = some (.lst (dls.map fun k => V.ref k.1))
  nd : (dls.map (·.1)).Nodup
  d : ∀ k ∈ dls, DicB H k.1 k.2
theorem DicL.same {H H' : Hp} {L : Addr} {dls : List (Addr × List Int)} (h : DicL H L dls) (s : Same H H') : DicL H' L dls := ⟨s _ _ h.l, h.nd, fun k hk => (h.d k hk).same s⟩
theorem DicL.add {H : Hp} {L d : Addr} {dls : List (Addr × List Int)} {ls : List Int} {vs : List V} (h : DicL H L dls) (e : H L = some (.lst vs)) (hd : DicB H d ls) (nd : d ∉ dls.map (·.1)) : DicL (upd H L (.lst (vs ++ [.ref d]))) L (dls ++ [(d, ls)]) := by
  have ev : vs = dls.map fun k => V.ref k.1 := by have w := h.l; rw [e] at w; cases w; rfl
  subst ev
  refine ⟨by rw [upd_same, List.map_append]; rfl, ?_, fun k hk => ?_⟩
  · rw [List.map_append, List.nodup_append]
    exact ⟨h.nd, List.pairwise_singleton _ _, fun a ha b hb => by rw [List.mem_singleton.mp hb]; exact fun z => nd ((show a = d from z) ▸ ha)⟩
  · rcases List.mem_append.mp hk with z | z
    · exact (h.d k z).over e
    · rw [List.mem_singleton.mp z]; exact hd.over e
theorem set_fst {dls : List (Addr × List Int)} {i : Nat} {k : Addr × List Int} {ls : List Int} (g : dls[i]? = some k) : (dls.set i (k.1, ls)).map (·.1) = dls.map (·.1) := by
  have hi := (List.getElem?_eq_some_iff.mp g).1
  rw [List.map_set]
  refine List.ext_getElem? fun j => ?_
  rw [List.getElem?_set]
  by_cases e : i = j
  · subst e
    rw [if_pos rfl, if_pos (by rw [List.length_map]; exact hi), List.getElem?_map, g]; rfl
  · rw [if_neg e]
/-- one of them changed -/
theorem DicL.put {H : Hp} {L : Addr} {dls : List (Addr × List Int)} {i : Nat} {k : Addr × List Int} {ls : List Int} (h : DicL H L dls) (g : dls[i]? = some k) (nd : ls.Nodup) : DicL (upd H k.1 (.dK (kB ls))) L (dls.set i (k.1, ls)) := by
  have hi := (List.getElem?_eq_some_iff.mp g).1
  have hk := List.mem_of_getElem? g
  have nL : L ≠ k.1 := fun z => by have w := (h.d k hk).1; rw [← z, h.l] at w; cases w
  have em : (dls.set i (k.1, ls)).map (·.1) = dls.map (·.1) := set_fst g
  refine ⟨?_, by rw [em]; exact h.nd, fun q hq => ?_⟩
  · rw [upd_ne nL, h.l]
    have e2 : ((dls.set i (k.1, ls)).map fun q => V.ref q.1) = ((dls.set i (k.1, ls)).map (·.1)).map V.ref := by rw [List.map_map]; rfl
    rw [e2, em, List.map_map]; rfl
  · obtain ⟨j, hj⟩ := List.mem_iff_getElem?.mp hq
    rw [List.getElem?_set] at hj
    by_cases e : i = j
    · rw [if_pos e, if_pos hi] at hj
      obtain rfl : (k.1, ls) = q := Option.some.inj hj
      exact ⟨upd_same, nd⟩
    · rw [if_neg e] at hj
      have hq' := List.mem_of_getElem? hj
      refine (h.d q hq').ne fun z => e ?_
      have h1 : (dls.map (·.1))[i]? = some k.1 := by rw [List.getElem?_map, g]; rfl
      have h2 : (dls.map (·.1))[j]? = some k.1 := by rw [List.getElem?_map, hj, ← z]; rfl
      exact (List.getElem?_inj (by rw [List.length_map]; exact hi) h.nd).mp (h1.trans h2.symm)
/-- the marks to which each mark leads -/
def LedL (H : Hp) (L : Addr) (ps : List (List Int)) (N : Nat) (dls : List (Addr × List Int)) : Prop := DicL H L dls ∧ dls.length = N ∧ ∀ (j : Nat) (k : Addr × List Int), dls[j]? = some k → ∀ m : Int, m ∈ k.2 ↔ Rch ps (j : Int) m
theorem rise_few {N : Nat} {ls : List Int} (nd : ls.Nodup) (b : ∀ m ∈ ls, 0 ≤ m ∧ m < (N : Int)) : ls.length ≤ N := by
  have := nodup_le (us := upN N) nd fun m hm => mem_upN.mpr (b m hm)
  rwa [upN_len] at this
section
variable {P : Program} {w : World} {K : PySem.W.Frag} {mg : Str → Option Value} {base : Heap}
/-! ### _law_leads -/
abbrev nLd : List Str := ["_law_form_here", "_law_many", "_law_mark", "_law_other", "_law_found", "_law_middle", "_law_one"]
theorem scLd : FnScope nLd ["_law_form_here"] (defScope sLLeads) := ⟨rfl, rfl, rfl, by decide +kernel, rfl, by decide +kernel, by decide +kernel⟩
def spLLd (K : PySem.W.Frag) : Sp := fun vs H Q _ => ∃ (R : Addr) (ns : List Int) (ps : List (List Int)), vs = [.ref R] ∧ OwnH K H R ns ps ∧
  ∀ (H' : Hp) (L : Addr) (dls : List (Addr × List Int)), Same H H' → LedL H' L ps ns.length dls → Q (.ref L) H'
theorem ok_lld {f fB : Addr} {fd dB : FuncData} (F : Fun K "_law_leads" "_law_leads" sLLeads f fd) (B : Bare mg) (DB : DefAt K mg "_law_behind" sLBehind ["_law_form_here", "_law_mark"] fB dB) : FnOk P w K mg base CX0 2 f fd ["_law_form_here"] (spLLd K) := by
  have GB : FnOk P w K mg base CX0 1 fB dB ["_law_form_here", "_law_mark"] (spLBehind K) := ok_lbehind DB.fn B
  refine F.ok scLd (fun vs H Q E h => ?_) (fun cdv A outer s H vs Q E hr h => ?_)
  · obtain ⟨R, ns, ps, rfl, _⟩ := h
    rfl
  · obtain ⟨R, ns, ps, rfl, O, q⟩ := h
    have hu := hu_of hr
    have two : (2 : Nat) ≤ sizeLine := by decide
    refine ⟨_, pss_cons (ps_set (i := 1) scLd.nd rfl (Or.inl rfl) (pe_callB call_len_seq (by rfl) B.len PySem.boot_len (pa_cons (pe_ix ix_tup (pv 0) pe_int (fun _ _ => rfl)) pa_nil)))
      (pss_cons (ps_setLc (i := 4) (own := [("_law_mark", 2)]) (g := gName 2) (tt := tYes) rfl scLd.nd rfl rfl (by rfl) (pi_range1 (by rfl) B.range (pa_cons (pv 1) pa_nil)) (blkOk_by (N := nLd) (by rfl)) (fun _ _ _ _ _ => pg_name (i := 2) scLd.nd rfl (Or.inl rfl)) (fun _ _ _ _ _ => pts_nil)
          (fun _ _ _ _ _ => pe_callTy (call_dictPK (K := K) rfl rfl) (by rfl) B.dict boot_dict (pa_cons
            (pe_lc (own := [("_law_other", 3)]) (g := gName 3) (tt := tYes) rfl scLd.nd (pi_listK (K := K) rfl (pe_call GB hr (by rfl) DB.mg DB.fn.kp DB.bi .nil pass0 (pa_cons (pv 0) (pa_cons (pv 2) pa_nil)))) (blkOk_by (N := nLd) (by rfl)) (fun _ _ _ _ _ => pg_name (i := 3) scLd.nd rfl (Or.inl rfl)) (fun _ _ _ _ _ => pts_nil)
              (fun _ _ _ _ _ => pe_tup (pa_cons (pv 3) (pa_cons pe_bl pa_nil)))) pa_nil)))
      (pss_cons (ps_for PassesOwn.never rfl (pi_range1 (by rfl) B.range (pa_cons (pv 1) pa_nil)) (pg_name (i := 5) scLd.nd rfl (Or.inl rfl))
        (pss_one (ps_for PassesOwn.never rfl (pi_range1 (by rfl) B.range (pa_cons (pv 1) pa_nil)) (pg_name (i := 6) scLd.nd rfl (Or.inl rfl))
          (pss_one (ps_if (pt_cmp (pc_din hu (pv 5) (pe_ix ix_list (pv 4) (pv 6) (fun _ _ => rfl))))
            (pss_one (ps_expr (pe_bm PySem.F.plainAttrs_dict PySem.F.slot_dict_update PySem.F.type_dict_update mt_updW (pe_ix ix_list (pv 4) (pv 6) (fun _ _ => rfl)) (pa_cons (pe_ix ix_list (pv 4) (pv 5) (fun _ _ => rfl)) pa_nil)))) pss_nil)))))
      (pss_one (ps_ret (pv 4))))), ?_⟩
    obtain ⟨u, c, o1, o2, o3, M, S⟩ := id O
    have h8 := M.few
    have h64 := S.few
    have hP : ∀ q ∈ ps, Pr (ns.length : Int) q := fun q hq => S.pair q hq
    have mb : ∀ x y : Int, y ∈ behindOf ps x ↔ [x, y] ∈ ps := fun x y => mem_behind hP
    refine ⟨.ref R, rfl, R, _, 0, .ref u, rfl, rfl, tupNew o1, atI_nat (j := 0) rfl, u, _, rfl, .inr o2, ?_⟩
    rw [List.length_map]
    refine ⟨.int (ns.length : Int), rfl, (ns.length : Int), rfl, by omega, by omega, fun D nD => ?_⟩
    rw [Int.toNat_natCast]
    refine lc_range (lo := 0) (n := _) (fun i H' => Same H H' ∧ ∃ dls : List (Addr × List Int), DicL H' D dls ∧ dls.length = i ∧ (∀ a ∈ dls.map (·.1), H a = none) ∧ ∀ (j : Nat) (k : Addr × List Int), dls[j]? = some k → ∀ m : Int, m ∈ k.2 ↔ [(j : Int), m] ∈ ps)
      ⟨same_upd nD, [], ⟨upd_same, List.nodup_nil, fun _ z => by cases z⟩, rfl, (fun _ z => by cases z), fun j k h => by simp at h⟩ (fun i H1 hi h => ?_) fun H1 h => ?_
    · obtain ⟨s1, dls, hD, ld, fr, hd⟩ := h
      have e0 : (0 + ((i : Nat) : Int)) = (i : Int) := by omega
      rw [e0]
      refine ⟨by simp [wipe, List.set_set], tt_yes ⟨.ref R, rfl, .int (i : Int), rfl, R, (i : Int), ns, ps, rfl, O.same s1, fun H2 G s2 eG => ⟨G, rfl, ⟨_, lstNew eG⟩, fun E nE => ?_⟩⟩⟩
      have lb : (behindOf ps (i : Int)).length ≤ 64 := Nat.le_trans (behind_len ps _) h64
      refine lc_list (K := K) (a := G) (xs := (behindOf ps (i : Int)).map V.int) (fun l H' => Same H2 H' ∧ BagL H' E ((behindOf ps (i : Int)).take l)) ⟨same_upd nE, BagL.nil upd_same⟩ (fun l H' _ h => lstNew (h.1 _ _ eG)) (fun l v H3 hv h => ?_) fun H3 h => ?_
      · obtain ⟨s3, hB⟩ := h
        obtain ⟨z, gz, rfl⟩ := map_at hv
        obtain ⟨vs, eE, lv⟩ := hB.lst
        refine ⟨by simp [wipe, List.set_set], tt_yes ⟨.int z, rfl, two, fun U nU => ?_⟩⟩
        have sU := same_upd (o := .tup [.int z, .bl true]) nU
        refine ⟨_, sU _ _ eE, by rw [lv, List.length_take]; exact few1 (by omega), fun c o e => by rw [upd_ne (ne_of_none e nE)]; exact sU _ _ (s3 c o e), ?_⟩
        rw [List.take_add_one, gz]
        exact hB.add eE nU
      · obtain ⟨s3, hB⟩ := h
        rw [List.length_map, List.take_of_length_le (Nat.le_refl _)] at hB
        obtain ⟨as, hL, hP2⟩ := hB.dict (K := K)
        refine ⟨E, as, _, rfl, hL, hP2, fun d nd => ?_⟩
        have sd := same_upd (o := .dK (mergeK [] (kB (behindOf ps (i : Int))))) nd
        have hD3 := hD.same (s2.trans s3)
        have hD4 := hD3.same sd
        have ed : DicB (upd H3 d (.dK (mergeK [] (kB (behindOf ps (i : Int)))))) d (addBs [] (behindOf ps (i : Int))) := ⟨by rw [upd_same, mergeB0], nd_addBs List.nodup_nil⟩
        have ndl : d ∉ dls.map (·.1) := fun z => by
          obtain ⟨k, hk, e⟩ := List.mem_map.mp z
          have w := (hD3.d k hk).1
          rw [e, nd] at w; cases w
        refine ⟨_, hD4.l, by rw [List.length_map]; exact few1 (by omega), fun c o e => by rw [upd_ne (ne_of_none e nD)]; exact sd _ _ (s3 _ _ (s2 _ _ (s1 c o e))), dls ++ [(d, addBs [] (behindOf ps (i : Int)))], hD4.add hD4.l ed ndl, by rw [List.length_append, ld]; rfl, fun a ha => ?_, fun j k hk m => ?_⟩
        · rw [List.map_append] at ha
          rcases List.mem_append.mp ha with z | z
          · exact fr a z
          · rw [List.mem_singleton.mp z]; exact (s1.trans (s2.trans s3)).free nd
        rcases Nat.lt_or_ge j dls.length with z | z
        · rw [List.getElem?_append_left z] at hk
          exact hd j k hk m
        · have hj := (List.getElem?_eq_some_iff.mp hk).1
          rw [List.length_append] at hj
          obtain rfl : j = dls.length := by have : [(d, addBs [] (behindOf ps (i : Int)))].length = 1 := rfl; omega
          rw [List.getElem?_append_right (Nat.le_refl _), Nat.sub_self] at hk
          obtain rfl : (d, addBs [] (behindOf ps (i : Int))) = k := Option.some.inj hk
          show m ∈ addBs [] (behindOf ps (i : Int)) ↔ _
          rw [mem_addBs, mb, ld]
          exact ⟨fun h => h.elim (fun z => by cases z) id, .inr⟩
    obtain ⟨s1, dls, hD, ld, fr, hd⟩ := h
    refine ⟨.int (ns.length : Int), rfl, (ns.length : Int), rfl, by omega, by omega, ?_⟩
    -- after k marks between: who comes to whom by these
    let St : Nat → Hp → Prop := fun k H' => Same H H' ∧ ∃ dls : List (Addr × List Int), DicL H' D dls ∧ dls.length = ns.length ∧ (∀ a ∈ dls.map (·.1), H a = none) ∧ ∀ (j : Nat) (q : Addr × List Int), dls[j]? = some q → ∀ m : Int, m ∈ q.2 ↔ Wsh ps k (j : Int) m
    refine for_range (lo := 0) (n := _) (fun k σ H' => ∃ (y2 y3 y5 y6 : Option V), σ = [some (.ref R), some (.int (ns.length : Int)), y2, y3, some (.ref D), y5, y6] ∧ St k H') ⟨none, none, none, none, rfl, s1, dls, hD, ld, fr, hd⟩ ?_ ?_
    · rintro k σ H2 hk ⟨y2, y3, y5, y6, rfl, s2, dls2, hD2, ld2, fr2, hd2⟩
      have hk : k < ns.length := by simpa using hk
      have e0 : (0 + ((k : Nat) : Int)) = (k : Int) := by omega
      rw [e0]
      refine ⟨.int (ns.length : Int), rfl, (ns.length : Int), rfl, by omega, by omega, ?_⟩
      refine for_range (lo := 0) (n := _) (fun i σ H' => ∃ (y2 y3 y6 : Option V), σ = [some (.ref R), some (.int (ns.length : Int)), y2, y3, some (.ref D), some (.int (k : Int)), y6] ∧ Same H H' ∧ ∃ dls : List (Addr × List Int), DicL H' D dls ∧ dls.length = ns.length ∧ (∀ a ∈ dls.map (·.1), H a = none) ∧ ∀ (j : Nat) (q : Addr × List Int), dls[j]? = some q → ∀ m : Int, m ∈ q.2 ↔ (if j < i then Wsh ps (k + 1) (j : Int) m else Wsh ps k (j : Int) m))
        ⟨_, _, _, rfl, s2, dls2, hD2, ld2, fr2, fun j q hq m => by rw [if_neg (Nat.not_lt_zero _)]; exact hd2 j q hq m⟩ ?_ ?_
      · rintro i σ H3 hi ⟨y2, y3, y6, rfl, s3, dls3, hD3, ld3, fr3, hd3⟩
        have hi : i < ns.length := by simpa using hi
        have e1 : (0 + ((i : Nat) : Int)) = (i : Int) := by omega
        rw [e1]
        obtain ⟨qi, gi⟩ : ∃ q, dls3[i]? = some q := ⟨_, List.getElem?_eq_getElem (by omega)⟩
        obtain ⟨qk, gk⟩ : ∃ q, dls3[k]? = some q := ⟨_, List.getElem?_eq_getElem (by omega)⟩
        have ai : atI (dls3.map fun k => V.ref k.1) (i : Int) = some (.ref qi.1) := atI_nat (by rw [List.getElem?_map, gi]; rfl)
        have ak : atI (dls3.map fun k => V.ref k.1) (k : Int) = some (.ref qk.1) := atI_nat (by rw [List.getElem?_map, gk]; rfl)
        have di := hD3.d qi (List.mem_of_getElem? gi)
        have dk := hD3.d qk (List.mem_of_getElem? gk)
        have mi : ∀ m : Int, m ∈ qi.2 ↔ Wsh ps k (i : Int) m := fun m => by
          rw [hd3 i qi gi m, if_neg (Nat.lt_irrefl _)]
        have mk' : ∀ m : Int, m ∈ qk.2 ↔ Wsh ps k (k : Int) m := fun m => by
          rw [hd3 k qk gk m]
          split
          · exact ⟨fun h => h.elim id fun z => z.2, .inl⟩
          · exact Iff.rfl
        have bw : ∀ {k : Nat} {j m : Int}, Wsh ps k j m → 0 ≤ m ∧ m < (ns.length : Int) := fun h => ((Wsh.rch h).bound hP).2
        have li : qi.2.length ≤ ns.length := rise_few di.2 fun m hm => bw ((mi m).mp hm)
        have lk : qk.2.length ≤ ns.length := rise_few dk.2 fun m hm => bw ((mk' m).mp hm)
        refine ⟨.int (k : Int), rfl, .ref D, rfl, .int (i : Int), rfl, D, _, (i : Int), .ref qi.1, rfl, rfl, lstNew hD3.l, ai, qi.1, _, rfl, di.get (k : Int), _, rfl, ?_⟩
        rw [valB]
        have other : ∀ (dls' : List (Addr × List Int)), (∀ j, j ≠ i → dls'[j]? = dls3[j]?) → (∀ q, dls'[i]? = some q → ∀ m : Int, m ∈ q.2 ↔ Wsh ps (k + 1) (i : Int) m) → ∀ (j : Nat) (q : Addr × List Int), dls'[j]? = some q → ∀ m : Int, m ∈ q.2 ↔ (if j < i + 1 then Wsh ps (k + 1) (j : Int) m else Wsh ps k (j : Int) m) := fun dls' h1 h2 j q hq m => by
          by_cases e : j = i
          · subst e
            rw [if_pos (by omega)]; exact h2 q hq m
          · rw [h1 j e] at hq
            rw [hd3 j q hq m]
            by_cases z : j < i
            · rw [if_pos z, if_pos (by omega)]
            · rw [if_neg z, if_neg (by omega)]
        by_cases hki : (k : Int) ∈ qi.2
        · rw [decide_eq_true hki]
          have wki := (mi _).mp hki
          refine iteT ⟨.ref D, rfl, .int (i : Int), rfl, D, _, (i : Int), .ref qi.1, rfl, rfl, lstNew hD3.l, ai, .inr (.inr (.inl ⟨rfl, .inl ⟨_, di.1⟩⟩)), .ref D, rfl, .int (k : Int), rfl, D, _, (k : Int), .ref qk.1, rfl, rfl, lstNew hD3.l, ak, qi.1, qk.1, _, _, rfl, rfl, di.1, dk.1, by rw [kB_len, kB_len, sizeLine_eq]; omega, fun e => ?_, fun _ => ?_⟩
          · -- the same dict
            have eik : i = k := by
              have h1 : (dls3.map (·.1))[i]? = some qi.1 := by rw [List.getElem?_map, gi]; rfl
              have h2 : (dls3.map (·.1))[k]? = some qi.1 := by rw [List.getElem?_map, gk, e]; rfl
              exact (List.getElem?_inj (by rw [List.length_map]; omega) hD3.nd).mp (h1.trans h2.symm)
            refine ⟨_, _, _, rfl, s3, dls3, hD3, ld3, fr3, other dls3 (fun _ _ => rfl) fun q hq m => ?_⟩
            rw [gi] at hq
            obtain rfl : qi = q := Option.some.inj hq
            rw [mi m, eik]
            exact ⟨.inl, fun h => h.elim id fun z => z.2⟩
          · rw [mergeB]
            refine ⟨_, _, _, rfl, fun b o e => ?_, _, hD3.put gi (nd_addBs di.2), by rw [List.length_set]; exact ld3, by rw [set_fst gi]; exact fr3, other _ (fun j e => by rw [List.getElem?_set, if_neg (Ne.symm e)]) fun q hq m => ?_⟩
            · rw [upd_ne (ne_of_none e (fr3 _ (List.mem_map_of_mem (List.mem_of_getElem? gi))))]; exact s3 b o e
            · rw [List.getElem?_set, if_pos rfl, if_pos (by omega)] at hq
              obtain rfl : (qi.1, addBs qi.2 qk.2) = q := Option.some.inj hq
              show m ∈ addBs qi.2 qk.2 ↔ _
              rw [mem_addBs, mi m, mk' m]
              exact ⟨fun h => h.imp id fun z => ⟨wki, z⟩, fun h => h.imp id fun z => z.2⟩
        · rw [decide_eq_false hki]
          refine iteF ⟨_, _, _, rfl, s3, dls3, hD3, ld3, fr3, other dls3 (fun _ _ => rfl) fun q hq m => ?_⟩
          rw [gi] at hq
          obtain rfl : qi = q := Option.some.inj hq
          rw [mi m]
          exact ⟨.inl, fun h => h.elim id fun z => absurd ((mi _).mpr z.1) hki⟩
      · rintro σ H3 ⟨y2, y3, y6, rfl, s3, dls3, hD3, ld3, fr3, hd3⟩
        rw [Int.toNat_natCast] at hd3
        refine ⟨_, _, _, _, rfl, s3, dls3, hD3, ld3, fr3, fun j q hq m => ?_⟩
        rw [hd3 j q hq m, if_pos (by have := (List.getElem?_eq_some_iff.mp hq).1; omega)]
    · rintro σ H2 ⟨y2, y3, y5, y6, rfl, s2, dls2, hD2, ld2, fr2, hd2⟩
      rw [Int.toNat_natCast] at hd2
      refine ⟨.ref D, rfl, q H2 D dls2 s2 ⟨hD2, ld2, fun j k hk m => ?_⟩⟩
      rw [hd2 j k hk m]
      exact ⟨Wsh.rch, rch_wsh hP⟩
end
end K20
set_option maxHeartbeats 4000000
/-! sorted(l), l a list of tuples of ints of any lengths, none of them empty, however many -/
namespace RV
open PySem PySem.Spec PyProof.Rows L2 TS
theorem lexA_asym : ∀ {x y : List Int}, lexA x y = true → lexA y x = false
  | [], [], h => by cases h
  | [], _ :: _, _ => rfl
  | _ :: _, [], h => by cases h
  | p :: ns, q :: ms, h => by
    unfold lexA at h ⊢
    by_cases e : p = q
    · subst e
      rw [if_pos rfl] at h ⊢
      exact lexA_asym h
    · rw [if_neg e] at h
      rw [if_neg (Ne.symm e)]
      have := of_decide_eq_true h
      exact decide_eq_false (by omega)
theorem lexA_tr : ∀ {x y z : List Int}, lexA y x = false → lexA z y = false → lexA z x = false
  | [], _, [], _, _ => rfl
  | [], _, _ :: _, _, _ => rfl
  | _ :: _, [], _, h, _ => by cases h
  | _ :: _, _ :: _, [], _, h => by cases h
  | p :: x, q :: y, r :: z, h1, h2 => by
    unfold lexA at h1 h2 ⊢
    by_cases e1 : q = p
    · subst e1
      rw [if_pos rfl] at h1
      by_cases e2 : r = q
      · subst e2
        rw [if_pos rfl] at h2 ⊢
        exact lexA_tr h1 h2
      · rw [if_neg e2] at h2 ⊢
        exact h2
    · rw [if_neg e1] at h1
      have d1 := of_decide_eq_false h1
      by_cases e2 : r = q
      · subst e2
        rw [if_neg e1]
        exact h1
      · rw [if_neg e2] at h2
        have d2 := of_decide_eq_false h2
        rw [if_neg (by omega)]
        exact decide_eq_false (by omega)
section
variable {prog : Program} {w : World} {A : Around} {E : Value → Shared → Prop} {s : Shared}
theorem swo_ints (h : Heap) : SrtO.Swo fun u v => lexA (intsOf h u) (intsOf h v) := ⟨fun _ _ => lexA_asym, fun _ _ _ => lexA_tr⟩
theorem sortable_ints {a : Addr} {vs : List Value} (h2 : 0 < vs.length) (x : ∀ v ∈ vs, ∃ ns, TupInts s.heap v ns ∧ ns ≠ []) (na : ∀ o, s.heap.get? a = some o → o.cls ≠ .type "tuple") : SrtO.SortableO prog w A s a vs fun u v => lexA (intsOf s.heap u) (intsOf s.heap v) := by
  intro h' keep
  have stays : ∀ b o, s.heap.get? b = some o → o.cls = .type "tuple" → h'.get? b = some o := fun b o e hc => keep b o (fun z => na o (z ▸ e) hc) e
  have x' : ∀ v ∈ vs, ∃ ns, TupInts h' v ns ∧ ns ≠ [] := fun v hv => by
    obtain ⟨ns, t, ne⟩ := x v hv
    exact ⟨ns, t.keeps stays, ne⟩
  obtain ⟨fs, kt, hlen, hall⟩ := heads_of vs x'
  refine ⟨_, fun Q E hQ => PySem.W.kat_kind (T := .type "int") kt (by rw [hlen]; omega) (fun f hf => ?_) rfl hQ, fun p q hp hq => ?_⟩
  · obtain ⟨n, t, rfl⟩ := hall f hf
    exact .of_pure rfl
  · obtain ⟨ns, tp0, _⟩ := x _ hp
    obtain ⟨ms, tq0, _⟩ := x _ hq
    have tp := tp0.keeps stays
    have tq := tq0.keeps stays
    have e0 : SrtO.lt2 (fun u v => lexA (intsOf s.heap u) (intsOf s.heap v)) p q = lexA ns ms := by
      show lexA (intsOf s.heap p.fst) (intsOf s.heap q.fst) = _
      rw [tp0.ints, tq0.ints]
    rw [e0]
    obtain ⟨a, xs, e1, ⟨o1, ho1, _, n1, hd1⟩, i1⟩ := tp
    obtain ⟨b, ys, e2, ⟨o2, ho2, _, n2, hd2⟩, i2⟩ := tq
    rw [e1, e2]
    refine PySem.W.kat_lt ho1 hd1 ho2 hd2 (kat_any 0 i1 i2 ?_ ⟨rfl, rfl⟩)
    rw [← i1.length, ← i2.length, Array.length_toList, Array.length_toList]
theorem refs_perm {L : List (Addr × List Int)} : ∀ {out : List Value}, out.Perm (L.map fun q => Value.ref q.1) → ∃ L' : List (Addr × List Int), out = L'.map (fun q => Value.ref q.1) ∧ L'.Perm L := by
  intro out h
  obtain ⟨L', e, pm⟩ : ∃ L' : List (Addr × List Int), L'.map (fun q => Value.ref q.1) = out ∧ L'.Perm L := by
    induction L generalizing out with
    | nil => exact ⟨[], (List.perm_nil.mp h).symm, .nil⟩
    | cons k L ih =>
      have hm : Value.ref k.1 ∈ out := h.mem_iff.mpr (List.mem_cons_self ..)
      obtain ⟨l1, l2, rfl⟩ := List.append_of_mem hm
      have h2 : (l1 ++ l2).Perm (L.map fun q => Value.ref q.1) := List.Perm.cons_inv (List.perm_middle.symm.trans h)
      obtain ⟨L', e, pm⟩ := ih h2
      have la : L'.length = l1.length + l2.length := by rw [← List.length_map (f := fun q : Addr × List Int => Value.ref q.1), e, List.length_append]
      refine ⟨L'.take l1.length ++ k :: L'.drop l1.length, ?_, ?_⟩
      · rw [List.map_append, List.map_cons, List.map_take, List.map_drop, e, List.take_left, List.drop_left]
      · refine List.perm_middle.trans (.cons k ?_)
        rw [List.take_append_drop]; exact pm
  exact ⟨L', e.symm, pm⟩
end
section
variable {X : Cx}
def rSortX (K : PySem.W.Frag) : List V → Hp → VK → Prop := fun vs H Q => ∃ (a : Addr) (L : List (Addr × List Int)), vs = [V.ref a] ∧ SqL K H a (L.map fun q => V.ref q.1) ∧ (∀ p ∈ L, SqT K H p.1 (p.2.map V.int)) ∧ (∀ p ∈ L, p.2 ≠ []) ∧ L.length ≤ sizeLine ∧
  ∀ (L' : List (Addr × List Int)) (p : Addr), L'.Perm L → (L'.map (·.2)).Pairwise (fun x y => lexA y x = false) → H p = none → Q (.ref p) (upd H p (.lst (L'.map fun q => V.ref q.1)))
theorem cr_sortedX : CallR X (.builtin "sorted") (rSortX X.K) := by
  intro pins s σ H vs us Q I r h
  obtain ⟨a, L, rfl, hs, hk, hne, hz, q⟩ := h
  obtain ⟨its, rv, hl, hz2⟩ := I.list hs
  rw [Vals.ref1 r]
  have ei : its = L.map fun q => Value.ref q.1 := by
    clear hs hk hne hz q hl hz2
    induction L generalizing its with
    | nil => cases rv; rfl
    | cons k L ih =>
      cases rv with
      | cons r1 r2 =>
        cases r1
        rw [List.map_cons, ih _ r2]
  subst ei
  have tups : ∀ k ∈ L, TupInts s.heap (.ref k.1) k.2 := fun k hk' => tupInts_of (P := X.prog) (w := X.w) (I.isT (hk k hk'))
  have from_ : ∀ v ∈ L.map (fun q => Value.ref q.1), ∃ ns, TupInts s.heap v ns ∧ ns ≠ [] := fun v hv => by
    obtain ⟨k, hk', rfl⟩ := List.mem_map.mp hv
    exact ⟨k.2, tups k hk', hne k hk'⟩
  refine SrtO.sorted_ord (swo_ints s.heap) hl.isList (by rw [List.length_map]; exact hz) (fun l2 h1 b e keep => ?_) fun out srt stb => ?_
  · have x1 : ∀ v ∈ L.map (fun q => Value.ref q.1), ∃ ns, TupInts h1 v ns ∧ ns ≠ [] ∧ TupInts s.heap v ns := fun v hv => by
      obtain ⟨ns, t, ne⟩ := from_ v hv
      exact ⟨ns, t.keeps fun c o ec _ => (keep c o ec).2, ne, t⟩
    have z := sortable_ints (prog := X.prog) (w := X.w) (A := X.A.in1.in1) (s := { s with heap := h1 }) (a := b) (vs := L.map fun q => Value.ref q.1) (by omega) (fun v hv => let ⟨ns, t, ne, _⟩ := x1 v hv; ⟨ns, t, ne⟩) (fun o eo => by
      rw [e] at eo
      cases eo
      exact fun z => absurd (Value.type.inj z) (by decide))
    intro h' keep'
    obtain ⟨κ, z1, z2⟩ := z h' keep'
    refine ⟨κ, z1, fun p q hp hq => ?_⟩
    have z3 := z2 p q hp hq
    obtain ⟨ns, t, _, t0⟩ := x1 _ hp
    obtain ⟨ms, u, _, u0⟩ := x1 _ hq
    have e3 : SrtO.lt2 (fun u v => lexA (intsOf h1 u) (intsOf h1 v)) p q = SrtO.lt2 (fun u v => lexA (intsOf s.heap u) (intsOf s.heap v)) p q := by
      show lexA (intsOf h1 p.fst) (intsOf h1 q.fst) = lexA (intsOf s.heap p.fst) (intsOf s.heap q.fst)
      rw [t.ints, u.ints, t0.ints, u0.ints]
    rw [← e3]
    exact z3
  · obtain ⟨L', rfl, pm⟩ := refs_perm stb.perm
    have to' : ∀ k ∈ L', TupInts s.heap (.ref k.1) k.2 := fun k hk' => tups k (pm.mem_iff.mp hk')
    obtain ⟨e, he⟩ := sortedAll_at s.heap (L.map fun q => Value.ref q.1) (L'.map fun q => Value.ref q.1).toArray
    refine ⟨.ref (s.heap.objs.size + 1), upd H (s.heap.objs.size + 1) (.lst (L'.map fun q => V.ref q.1)), I.laid (t' := s.toks) (fun b o q => sortedAll_old q) (Nat.le_succ _) ⟨?_, _, e, vals_of_refs L', he⟩, rfl, q L' _ pm ?_ (I.hok.fresh (Nat.le_succ _))⟩
    · rw [List.length_map, pm.length_eq]; exact hz
    · rw [List.pairwise_map]
      refine List.Pairwise.imp_of_mem (fun {k j} hk' hj z => ?_) (List.pairwise_map.mp srt)
      have z : lexA (intsOf s.heap (.ref j.1)) (intsOf s.heap (.ref k.1)) = false := z
      rwa [(to' k hk').ints, (to' j hj).ints] at z
end
end RV
set_option maxHeartbeats 4000000
namespace K20
open PySem PySem.Spec PyProof.Rows L2 RV
theorem tup_over {H : Hp} {D : Addr} {vs : List V} {o' : HO} (e : H D = some (.lst vs)) {a : Addr} {xs : List V} (h : H a = some (.tup xs)) : (upd H D o') a = some (.tup xs) := by
  rw [upd_ne (fun z => by rw [z, e] at h; cases h)]; exact h
theorem first_in {ps : List (List Int)} {N : Nat} {p : List Int} (h : p ∈ partsOf ps N) : hd0 p ∈ p ∧ lotOf ps N (hd0 p) = p := by
  obtain ⟨m, hm, hh, rfl⟩ := mem_parts.mp h
  cases e : lotOf ps N m with
  | nil => rw [e] at hh; cases hh
  | cons x l =>
    rw [e] at hh
    obtain rfl : x = m := Option.some.inj hh
    exact ⟨List.mem_cons_self .., e⟩
/-- the lots that are found are the parts -/
theorem lots_parts {ps : List (List Int)} {N : Nat} {qs Ls : List (List Int)} (mq : ∀ q, q ∈ qs ↔ ∃ m : Int, (0 ≤ m ∧ m < (N : Int)) ∧ Rch ps m m ∧ q = lotOf ps N m) (nd : qs.Nodup) (pm : Ls.Perm qs) (pw : Ls.Pairwise fun x y => lexA y x = false) : Ls = partsOf ps N := by
  have inP : ∀ q, q ∈ Ls ↔ q ∈ partsOf ps N := fun q => by
    rw [pm.mem_iff, mq]
    constructor
    · rintro ⟨m, hm, r, rfl⟩
      exact lot_part (lot_self hm r)
    · intro h
      obtain ⟨hx, hl⟩ := first_in h
      have b := part_bd h hx
      exact ⟨hd0 q, b, lot_some (n := N) (j := hd0 q) (by rw [hl]; exact hx), hl.symm⟩
  have ndL : Ls.Nodup := pm.nodup_iff.mpr nd
  refine sorted_eq (f := hd0) ?_ (parts_rise ps N) inP
  refine (ndL.and pw).imp_of_mem fun {x y} hx hy ⟨ne, h⟩ => ?_
  have px := (inP x).mp hx
  have py := (inP y).mp hy
  have nh : hd0 x ≠ hd0 y := fun e => ne (part_hd px py e)
  cases x with
  | nil => exact absurd rfl (part_ne px)
  | cons a x =>
    cases y with
    | nil => exact absurd rfl (part_ne py)
    | cons b y =>
      have nh : a ≠ b := nh
      unfold lexA at h
      rw [if_neg (Ne.symm nh)] at h
      have := of_decide_eq_false h
      show a < b
      omega
section
variable {P : Program} {w : World} {K : PySem.W.Frag} {mg : Str → Option Value} {base : Heap}
/-! ### _law_parts -/
abbrev nLp : List Str := ["_law_form_here", "_law_led_all", "_law_found", "_law_mark", "_law_one", "_law_part"]
theorem scLp : FnScope nLp ["_law_form_here"] (defScope sLParts) := ⟨rfl, rfl, rfl, by decide +kernel, rfl, by decide +kernel, by decide +kernel⟩
def spLp (K : PySem.W.Frag) : Sp := fun vs H Q _ => ∃ (R : Addr) (ns : List Int) (ps : List (List Int)), vs = [.ref R] ∧ OwnH K H R ns ps ∧
  ∀ (H' : Hp) (L : Addr), Same H H' → LotsH H' L (partsOf ps ns.length) → Q (.ref L) H'
theorem ok_lp {f fL : Addr} {fd dL : FuncData} (F : Fun K "_law_parts" "_law_parts" sLParts f fd) (B : Bare mg) (DL : DefAt K mg "_law_leads" sLLeads ["_law_form_here"] fL dL) (GL : FnOk P w K mg base CX0 2 fL dL ["_law_form_here"] (spLLd K)) : FnOk P w K mg base CX0 3 f fd ["_law_form_here"] (spLp K) := by
  refine F.ok scLp (fun vs H Q E h => ?_) (fun cdv A outer s H vs Q E hr h => ?_)
  · obtain ⟨R, ns, ps, rfl, _⟩ := h
    rfl
  · obtain ⟨R, ns, ps, rfl, O, q⟩ := h
    have hu := hu_of hr
    have hu5 := un65 hr
    have one : (1 : Nat) ≤ sizeLine := by decide
    have two : (2 : Nat) ≤ sizeLine := by decide
    refine ⟨_, pss_cons (ps_asg (pe_tup (pa_cons (pe_call GL hr (by rfl) DL.mg DL.fn.kp DL.bi .nil pass0 (pa_cons (pv 0) pa_nil)) (pa_cons (pe_lst pa_nil) pa_nil))) (pg_tup rfl (pgs_cons (pg_name (i := 1) scLp.nd rfl (Or.inr rfl)) (pgs_cons (pg_name (i := 2) scLp.nd rfl (Or.inl rfl)) pgs_nil))))
      (pss_cons (ps_for PassesOwn.never rfl (pi_range1 (by rfl) B.range (pa_cons (pe_callB call_len_seq (by rfl) B.len PySem.boot_len (pa_cons (pe_ix ix_tup (pv 0) pe_int (fun _ _ => rfl)) pa_nil)) pa_nil)) (pg_name (i := 3) scLp.nd rfl (Or.inr rfl))
        (pss_one (ps_if (pt_cmp (pc_din hu (pv 3) (pe_ix ix_list (pv 1) (pv 3) (fun _ _ => rfl))))
          (pss_cons (ps_set (i := 5) scLp.nd rfl (Or.inl rfl) (pe_tupleOf (by rfl) B.tuple
            (pe_lc (own := [("_law_one", 4)]) (g := gName 4) rfl scLp.nd (pi_range1 (by rfl) B.range (pa_cons (pe_callB call_len_seq (by rfl) B.len PySem.boot_len (pa_cons (pe_ix ix_tup (pv 0) pe_int (fun _ _ => rfl)) pa_nil)) pa_nil)) (blkOk_by (N := nLp) (sc := defScope sLParts) (by decide +kernel)) (fun _ _ _ _ _ => pg_name (i := 4) scLp.nd rfl (Or.inl rfl))
              (fun _ _ _ _ _ => pts_one (PW.pt (pw_and (pt_cmp (pc_din hu (pv 4) (pe_ix (ix_listK (K := K) rfl) (pv 1) (pv 3) (fun _ _ => rfl)))) (pw_and1 (pt_cmp (pc_din hu (pv 3) (pe_ix (ix_listK (K := K) rfl) (pv 1) (pv 4) (fun _ _ => rfl)))))))) (fun _ _ _ _ _ => pv 4))))
          (pss_one (ps_expr (pe_bm PySem.F.plainAttrs_list PySem.F.slot_list_extend PySem.F.type_list_extend mt_extend (pv 2) (pa_cons (pe_ifExp (pt_cmpR (op_notInD hu5) (pv 5) (pv 2) (by rfl)) (pe_lst (pa_cons (pv 5) pa_nil)) (pe_lst pa_nil)) pa_nil))))) pss_nil)))
      (pss_one (ps_ret (pe_callB cr_sortedX (by rfl) B.sorted (by decide +kernel) (pa_cons (pv 2) pa_nil))))), ?_⟩
    obtain ⟨u, c, o1, o2, o3, M, S⟩ := id O
    have h8 := M.few
    have hP : ∀ q ∈ ps, Pr (ns.length : Int) q := fun q hq => S.pair q hq
    refine ⟨.ref R, rfl, R, ns, ps, rfl, O, fun H1 L dls s1 hL => ⟨Nat.zero_le _, fun F0 nF => ⟨two, fun U nU => ?_⟩⟩⟩
    obtain ⟨hD, ld, hd⟩ := hL
    have sF := same_upd (o := .lst []) nF
    have sU := same_upd (o := .tup [.ref L, .ref F0]) nU
    refine ⟨U, _, rfl, tupNew upd_same, rfl, _, _, rfl, _, _, rfl, rfl, ?_⟩
    dsimp only
    have s3 := s1.trans (sF.trans sU)
    have hD3 := hD.same (sF.trans sU)
    have eF3 : (upd (upd H1 F0 (.lst [])) U (.tup [.ref L, .ref F0])) F0 = some (.lst []) := sU _ _ upd_same
    have nFH : H F0 = none := s1.free nF
    have nFL : L ≠ F0 := ne_of_none hD.l nF
    have nFk : ∀ k ∈ dls, k.1 ≠ F0 := fun k hk => ne_of_none (hD.d k hk).1 nF
    generalize upd (upd H1 F0 (.lst [])) U (.tup [.ref L, .ref F0]) = H3 at s3 hD3 eF3 ⊢
    refine ⟨.ref R, rfl, R, _, 0, .ref u, rfl, rfl, tupNew (s3 _ _ o1), atI_nat (j := 0) rfl, u, _, rfl, .inr (sqT_same s3 o2), ?_⟩
    rw [List.length_map]
    refine ⟨(ns.length : Int), rfl, by omega, by omega, ?_⟩
    refine for_range (lo := 0) (n := _) (fun i σ H' => ∃ (y3 y4 y5 : Option V) (ks : List (Addr × List Int)), σ = [some (.ref R), some (.ref L), some (.ref F0), y3, y4, y5] ∧ ButA F0 H3 H' ∧ H' F0 = some (.lst (ks.map fun k => V.ref k.1)) ∧ (∀ k ∈ ks, H' k.1 = some (.tup (k.2.map V.int))) ∧ (ks.map (·.2)).Nodup ∧ ks.length ≤ i ∧ ∀ q, q ∈ ks.map (·.2) ↔ ∃ m : Int, (0 ≤ m ∧ m < (i : Int)) ∧ Rch ps m m ∧ q = lotOf ps ns.length m)
      ⟨none, none, none, [], rfl, ButA.refl _ _, eF3, (fun _ z => by cases z), List.nodup_nil, Nat.le_refl _, fun q => ⟨fun h => (by cases h), fun ⟨m, b, _⟩ => by omega⟩⟩ ?_ ?_
    · rintro i σ H4 hi ⟨y3, y4, y5, ks, rfl, b4, eF4, hks, ndk, lk, mk⟩
      have hi : i < ns.length := by simpa using hi
      have e0 : (0 + ((i : Nat) : Int)) = (i : Int) := by omega
      rw [e0]
      have s4 : Same H H4 := fun a o e => b4 a o (s3 _ _ e) (ne_of_none e nFH)
      have hD4 : DicL H4 L dls := ⟨b4 _ _ hD3.l nFL, hD3.nd, fun k hk => ⟨b4 _ _ (hD3.d k hk).1 (nFk k hk), (hD3.d k hk).2⟩⟩
      have at_ : ∀ {j : Nat} {k : Addr × List Int}, dls[j]? = some k → atI (dls.map fun k => V.ref k.1) (j : Int) = some (.ref k.1) := fun {j k} g => atI_nat (by rw [List.getElem?_map, g]; rfl)
      obtain ⟨ki, gi⟩ : ∃ k, dls[i]? = some k := ⟨_, List.getElem?_eq_getElem (by omega)⟩
      have di := hD4.d ki (List.mem_of_getElem? gi)
      have mi := hd i ki gi
      refine ⟨.int (i : Int), rfl, .ref L, rfl, .int (i : Int), rfl, L, _, (i : Int), .ref ki.1, rfl, rfl, lstNew hD4.l, at_ gi, ki.1, _, rfl, di.get (i : Int), _, rfl, ?_⟩
      rw [valB]
      by_cases hii : (i : Int) ∈ ki.2
      · rw [decide_eq_true hii]
        have rii := (mi _).mp hii
        refine iteT ⟨.ref R, rfl, R, _, 0, .ref u, rfl, rfl, tupNew (s4 _ _ o1), atI_nat (j := 0) rfl, u, _, rfl, .inr (sqT_same s4 o2), ?_⟩
        rw [List.length_map]
        refine ⟨(ns.length : Int), rfl, by omega, by omega, fun D nD => ?_⟩
        rw [Int.toNat_natCast]
        refine lc_range (lo := 0) (n := _) (fun j H' => Same H4 H' ∧ H' D = some (.lst (((upN j).filter fun x => rB ps (i : Int) x && rB ps x (i : Int)).map V.int))) ⟨same_upd nD, upd_same⟩ (fun j H5 hj h => ?_) fun H5 h => ?_
        · obtain ⟨s5, eD⟩ := h
          have e1 : (0 + ((j : Nat) : Int)) = (j : Int) := by omega
          rw [e1]
          obtain ⟨kj, gj⟩ : ∃ k, dls[j]? = some k := ⟨_, List.getElem?_eq_getElem (by omega)⟩
          have hD5 := hD4.same s5
          have dj := hD5.d kj (List.mem_of_getElem? gj)
          have mj := hd j kj gj
          have b1 : decide ((j : Int) ∈ ki.2) = rB ps (i : Int) (j : Int) := by rw [Bool.eq_iff_iff, decide_eq_true_iff, rB_iff, mi]
          have b2 : decide ((i : Int) ∈ kj.2) = rB ps (j : Int) (i : Int) := by rw [Bool.eq_iff_iff, decide_eq_true_iff, rB_iff, mj]
          have up : upN (j + 1) = upN j ++ [(j : Int)] := by unfold upN; rw [List.range_succ, List.map_append]; rfl
          have tf : ((upN (j + 1)).filter fun x => rB ps (i : Int) x && rB ps x (i : Int)) = ((upN j).filter fun x => rB ps (i : Int) x && rB ps x (i : Int)) ++ (if (rB ps (i : Int) (j : Int) && rB ps (j : Int) (i : Int)) = true then [(j : Int)] else []) := by
            rw [up, List.filter_append, List.filter_cons, List.filter_nil]
          refine ⟨by simp [wipe, List.set_set], .int (j : Int), rfl, .ref L, rfl, .int (i : Int), rfl, L, _, (i : Int), .ref ki.1, rfl, rfl, lstNew hD5.l, at_ gi, ki.1, _, rfl, (di.same s5).get (j : Int), _, rfl, ?_⟩
          rw [valB, b1]
          have skip : (rB ps (i : Int) (j : Int) && rB ps (j : Int) (i : Int)) = false → Same H4 H5 ∧ H5 D = some (.lst (((upN (j + 1)).filter fun x => rB ps (i : Int) x && rB ps x (i : Int)).map V.int)) := fun e => ⟨s5, by rw [tf, e, if_neg (by decide), List.append_nil]; exact eD⟩
          cases c1 : rB ps (i : Int) (j : Int) with
          | false => exact iteF (iteF (skip (by rw [c1]; rfl)))
          | true =>
            refine iteT ⟨.int (i : Int), rfl, .ref L, rfl, .int (j : Int), rfl, L, _, (j : Int), .ref kj.1, rfl, rfl, lstNew hD5.l, at_ gj, kj.1, _, rfl, dj.get (i : Int), _, rfl, ?_⟩
            rw [valB, b2]
            cases c2 : rB ps (j : Int) (i : Int) with
            | false => exact iteF (skip (by rw [c1, c2]; rfl))
            | true =>
              refine iteT ⟨.int (j : Int), rfl, _, eD, by rw [List.length_map]; exact few1 (Nat.le_trans (List.length_filter_le _ _) (by rw [upN_len]; omega)), fun a o z => by rw [upd_ne (ne_of_none z nD)]; exact s5 a o z, ?_⟩
              rw [upd_same, tf, c1, c2, if_pos (show (true && true) = true from rfl), List.map_append]; rfl
        · obtain ⟨s5, eD⟩ := h
          have el : ((upN ns.length).filter fun x => rB ps (i : Int) x && rB ps x (i : Int)) = lotOf ps ns.length (i : Int) := rfl
          rw [el] at eD
          refine .inl ⟨D, _, rfl, lstNew eD, fun W nW => ?_⟩
          have sW := same_upd (o := .tup ((lotOf ps ns.length (i : Int)).map V.int)) nW
          have eW : (upd H5 W (.tup ((lotOf ps ns.length (i : Int)).map V.int))) W = some (.tup ((lotOf ps ns.length (i : Int)).map V.int)) := upd_same
          have s46 := s5.trans sW
          generalize upd H5 W (.tup ((lotOf ps ns.length (i : Int)).map V.int)) = H6 at eW s46 ⊢
          refine nx_step ?_
          dsimp only
          have eF6 := s46 _ _ eF4
          have hks6 : ∀ k ∈ ks, H6 k.1 = some (.tup (k.2.map V.int)) := fun k hk => s46 _ _ (hks k hk)
          have lots : LotsH H6 F0 (ks.map (·.2)) := ⟨ks, rfl, eF6, hks6⟩
          refine ⟨.ref F0, rfl, .inl ⟨rfl, _, lstNew eF6⟩, .ref W, rfl, .ref F0, rfl, dI (lotOf ps ns.length (i : Int)), (ks.map fun k : Addr × List Int => k.2).map RV.dI, dpT (tupNew eW), lots.dp (K := K), shapedI _, shapedLs _, _, rfl, ?_⟩
          rw [any_dI]
          have mem1 : ∀ q, (q ∈ ks.map (·.2) ∨ q = lotOf ps ns.length (i : Int)) ↔ ∃ m : Int, (0 ≤ m ∧ m < ((i + 1 : Nat) : Int)) ∧ Rch ps m m ∧ q = lotOf ps ns.length m := fun q => by
            rw [mk q]
            constructor
            · rintro (⟨m, b, r1, e⟩ | e)
              · exact ⟨m, by omega, r1, e⟩
              · exact ⟨(i : Int), by omega, rii, e⟩
            · rintro ⟨m, b, r1, e⟩
              by_cases em : m = (i : Int)
              · exact .inr (by rw [e, em])
              · exact .inl ⟨m, by omega, r1, e⟩
          have keep : ∀ (H' : Hp) (z : Addr) (o : HO), Same H6 H' → ButA F0 H3 (upd H' F0 o) := fun H' z o s' a x e ne => by
            rw [upd_ne ne]; exact s' _ _ (s46 _ _ (b4 a x e ne))
          by_cases hin : lotOf ps ns.length (i : Int) ∈ ks.map (·.2)
          · rw [decide_eq_true hin]
            refine iteF ⟨Nat.zero_le _, fun Z nZ => ⟨F0, Z, _, _, rfl, rfl, (same_upd nZ) _ _ eF6, upd_same, by rw [List.length_map, sizeLine_eq]; simp; omega, ?_⟩⟩
            refine ⟨_, _, _, ks, rfl, keep _ Z _ (same_upd nZ), by rw [upd_same, List.append_nil], fun k hk => tup_over ((same_upd nZ) _ _ eF6) ((same_upd nZ) _ _ (hks6 k hk)), ndk, by omega, fun q => ?_⟩
            rw [← mem1 q]
            exact ⟨.inl, fun h => h.elim id fun e => e ▸ hin⟩
          · rw [decide_eq_false hin]
            refine iteT ⟨.ref W, rfl, one, fun Z nZ => ⟨F0, Z, _, _, rfl, rfl, (same_upd nZ) _ _ eF6, upd_same, by rw [List.length_map, sizeLine_eq]; simp; omega, ?_⟩⟩
            refine ⟨_, _, _, ks ++ [(W, lotOf ps ns.length (i : Int))], rfl, keep _ Z _ (same_upd nZ), by rw [upd_same, List.map_append]; rfl, fun k hk => tup_over ((same_upd nZ) _ _ eF6) ?_, ?_, by rw [List.length_append]; show ks.length + 1 ≤ _; omega, fun q => ?_⟩
            · rcases List.mem_append.mp hk with z | z
              · exact (same_upd nZ) _ _ (hks6 k z)
              · rw [List.mem_singleton.mp z]; exact (same_upd nZ) _ _ eW
            · rw [List.map_append, List.nodup_append]
              exact ⟨ndk, List.pairwise_singleton _ _, fun a ha b hb => by rw [List.mem_singleton.mp hb]; exact fun z => hin ((show a = lotOf ps ns.length (i : Int) from z) ▸ ha)⟩
            · rw [← mem1 q, List.map_append, List.mem_append]
              exact ⟨fun h => h.imp id fun z => List.mem_singleton.mp z, fun h => h.imp id fun z => List.mem_singleton.mpr z⟩
      · rw [decide_eq_false hii]
        refine iteF ⟨_, _, _, ks, rfl, b4, eF4, hks, ndk, by omega, fun q => ?_⟩
        rw [mk q]
        constructor
        · rintro ⟨m, b, r1, e⟩
          exact ⟨m, by omega, r1, e⟩
        · rintro ⟨m, b, r1, e⟩
          by_cases em : m = (i : Int)
          · rw [em] at r1
            exact absurd ((mi _).mpr r1) hii
          · exact ⟨m, by omega, r1, e⟩
    · rintro σ H4 ⟨y3, y4, y5, ks, rfl, b4, eF4, hks, ndk, lk, mk⟩
      rw [Int.toNat_natCast] at mk lk
      refine ⟨.ref F0, rfl, F0, ks, rfl, lstNew eF4, fun p hp => tupNew (hks p hp), fun p hp e => ?_, by rw [sizeLine_eq]; omega, fun L' p pm pw np => ?_⟩
      · obtain ⟨m, b, r1, eq⟩ := (mk p.2).mp (List.mem_map_of_mem hp)
        have : m ∈ lotOf ps ns.length m := lot_self b r1
        rw [← eq, e] at this; cases this
      · have sp := same_upd (o := .lst (L'.map fun q => V.ref q.1)) np
        refine q _ p (fun a o e => sp _ _ (b4 a o (s3 _ _ e) (ne_of_none e nFH))) ⟨L', lots_parts mk ndk (pm.map (·.2)) pw, upd_same, fun k hk => sp _ _ (hks k (pm.mem_iff.mp hk))⟩
end
end K20
set_option maxHeartbeats 4000000
namespace K20
open PySem PySem.Spec PyProof.Rows L2 RV
theorem sqT_butL {K : PySem.W.Frag} {H H' : Hp} {D : Addr} {vs : List V} (e : H D = some (.lst vs)) (b : ButA D H H') {a : Addr} {xs : List V} (h : SqT K H a xs) : SqT K H' a xs := by
  rcases h with (h | ⟨o, h⟩) | h
  · exact .inl (.inl (b _ _ h fun z => by rw [z, e] at h; cases h))
  · exact .inl (.inr ⟨o, b _ _ h fun z => by rw [z, e] at h; cases h⟩)
  · exact .inr h
theorem Tab.butL {K : PySem.W.Frag} {H H' : Hp} {D t : Addr} {N : Nat} {f : Int → Int → Prop} {vs : List V} (h : Tab K H t N f) (e : H D = some (.lst vs)) (b : ButA D H H') : Tab K H' t N f := by
  obtain ⟨as, h1, h2, h3⟩ := h
  exact ⟨as, sqT_butL e b h1, h2, fun i a ea => (h3 i a ea).imp fun xs q => ⟨sqT_butL e b q.1, q.2⟩⟩
/-- tables of the ends of walks, to so many steps -/
def TabsL (K : PySem.W.Frag) (H : Hp) (L : Addr) (N m : Nat) (ps : List (List Int)) : Prop := ∃ ts : List Addr, H L = some (.lst (ts.map V.ref)) ∧ ts.length = m ∧ ∀ (n : Nat) (t : Addr), ts[n]? = some t → Tab K H t N (lk (behindOf ps) n)
theorem TabsL.same {K : PySem.W.Frag} {H H' : Hp} {L : Addr} {N m : Nat} {ps : List (List Int)} (h : TabsL K H L N m ps) (s : Same H H') : TabsL K H' L N m ps := by
  obtain ⟨ts, h1, h2, h3⟩ := h
  exact ⟨ts, s _ _ h1, h2, fun n t ht => (h3 n t ht).same s⟩
theorem lk_last {bh : Int → List Int} {n : Nat} {a b : Int} : lk bh (n + 1) a b ↔ ∃ c, lk bh n a c ∧ b ∈ bh c := by
  rw [lk_add]
  exact ⟨fun ⟨c, h1, h2⟩ => ⟨c, h1, lk_one.mp h2⟩, fun ⟨c, h1, h2⟩ => ⟨c, h1, lk_one.mpr h2⟩⟩
section
variable {P : Program} {w : World} {K : PySem.W.Frag} {mg : Str → Option Value} {base : Heap}
/-! ### _law_tables -/
abbrev nTb : List Str := ["_law_form_here", "_law_most", "_law_mark", "_law_found", "_law_n", "_law_longer", "_law_some", "_law_led", "_law_other"]
theorem scTb : FnScope nTb ["_law_form_here", "_law_most"] (defScope sTables) := ⟨rfl, rfl, rfl, by decide +kernel, rfl, by decide +kernel, by decide +kernel⟩
def spTb (K : PySem.W.Frag) : Sp := fun vs H Q _ => ∃ (R : Addr) (mo : Nat) (ns : List Int) (ps : List (List Int)), vs = [.ref R, .int (mo : Int)] ∧ OwnH K H R ns ps ∧ mo ≤ 900 ∧
  ∀ (H' : Hp) (L : Addr), Same H H' → TabsL K H' L ns.length (mo + 1) ps → Q (.ref L) H'
theorem ok_tb {f fB : Addr} {fd dB : FuncData} (F : Fun K "_law_tables" "_law_tables" sTables f fd) (B : Bare mg) (DB : DefAt K mg "_law_behind" sLBehind ["_law_form_here", "_law_mark"] fB dB) : FnOk P w K mg base CX0 2 f fd ["_law_form_here", "_law_most"] (spTb K) := by
  have GB : FnOk P w K mg base CX0 1 fB dB ["_law_form_here", "_law_mark"] (spLBehind K) := ok_lbehind DB.fn B
  refine F.ok scTb (fun vs H Q E h => ?_) (fun cdv A outer s H vs Q E hr h => ?_)
  · obtain ⟨R, mo, ns, ps, rfl, _⟩ := h
    rfl
  · obtain ⟨R, mo, ns, ps, rfl, O, hmo, q⟩ := h
    have one : (1 : Nat) ≤ sizeLine := by decide
    have two : (2 : Nat) ≤ sizeLine := by decide
    refine ⟨_, pss_cons (ps_set (i := 3) scTb.nd rfl (Or.inl rfl) (pe_lst (pa_cons (pe_tupleOf (by rfl) B.tuple
        (pe_lc (own := [("_law_mark", 2)]) (g := gName 2) (tt := tYes) rfl scTb.nd (pi_range1 (by rfl) B.range (pa_cons (pe_callB call_len_seq (by rfl) B.len PySem.boot_len (pa_cons (pe_ix ix_tup (pv 0) pe_int (fun _ _ => rfl)) pa_nil)) pa_nil)) (blkOk_by (N := nTb) (sc := defScope sTables) (by decide +kernel)) (fun _ _ _ _ _ => pg_name (i := 2) scTb.nd rfl (Or.inl rfl)) (fun _ _ _ _ _ => pts_nil)
          (fun _ _ _ _ _ => pe_tup (pa_cons (pv 2) pa_nil)))) pa_nil)))
      (pss_cons (ps_for PassesOwn.never rfl (pi_range1 (by rfl) B.range (pa_cons (pv 1) pa_nil)) (pg_name (i := 4) scTb.nd rfl (Or.inl rfl))
        (pss_cons (ps_set (i := 5) scTb.nd rfl (Or.inl rfl) (pe_lst pa_nil))
        (pss_cons (ps_for PassesOwn.never rfl (pi_tup (pe_ix ix_list (pv 3) (pe_un un_neg pe_int) (fun _ _ => rfl))) (pg_name (i := 6) scTb.nd rfl (Or.inl rfl))
          (pss_cons (ps_set (i := 7) scTb.nd rfl (Or.inl rfl) pe_dnewK)
          (pss_cons (ps_for PassesOwn.never rfl (pi_tup (pv 6)) (pg_name (i := 2) scTb.nd rfl (Or.inl rfl))
            (pss_one (ps_expr (pe_bm PySem.F.plainAttrs_dict PySem.F.slot_dict_update PySem.F.type_dict_update mt_updD (pv 7) (pa_cons (pe_callTy (call_dictP rfl) (by rfl) B.dict boot_dict (pa_cons
              (pe_lc (own := [("_law_other", 8)]) (g := gName 8) (tt := tYes) rfl scTb.nd (pi_list (pe_call GB hr (by rfl) DB.mg DB.fn.kp DB.bi .nil pass0 (pa_cons (pv 0) (pa_cons (pv 2) pa_nil)))) (blkOk_by (N := nTb) (sc := defScope sTables) (by decide +kernel)) (fun _ _ _ _ _ => pg_name (i := 8) scTb.nd rfl (Or.inl rfl)) (fun _ _ _ _ _ => pts_nil)
                (fun _ _ _ _ _ => pe_tup (pa_cons (pv 8) (pa_cons pe_bl pa_nil)))) pa_nil)) pa_nil)))))
          (pss_one (ps_expr (pe_bm PySem.F.plainAttrs_list PySem.F.slot_list_append PySem.F.type_list_append mt_append (pv 5) (pa_cons (pe_tupleOf (by rfl) B.tuple (pe_callB (call_sortedDI rfl) (by rfl) B.sorted (by decide +kernel) (pa_cons (pv 7) pa_nil))) pa_nil)))))))
        (pss_one (ps_expr (pe_bm PySem.F.plainAttrs_list PySem.F.slot_list_append PySem.F.type_list_append mt_append (pv 3) (pa_cons (pe_tupleOf (by rfl) B.tuple (pv 5)) pa_nil)))))))
      (pss_one (ps_ret (pv 3)))), ?_⟩
    obtain ⟨u, c, o1, o2, o3, M, S⟩ := id O
    have h8 := M.few
    have h64 := S.few
    refine ⟨.ref R, rfl, R, _, 0, .ref u, rfl, rfl, tupNew o1, atI_nat (j := 0) rfl, u, _, rfl, .inr o2, ?_⟩
    rw [List.length_map]
    refine ⟨(ns.length : Int), rfl, by omega, by omega, fun D nD => ?_⟩
    rw [Int.toNat_natCast]
    refine lc_range (lo := 0) (n := ns.length) (fun i H' => Same H H' ∧ TabL K H' D ns.length i (lk (behindOf ps) 0)) ⟨same_upd nD, [], rfl, upd_same, fun _ _ z => nomatch z⟩ (fun i H1 hi p => ?_) fun H1 p => ?_
    · obtain ⟨s1, bs, lb, eD, hb⟩ := p
      have e0 : (0 + (i : Int)) = (i : Int) := by omega
      rw [e0]
      refine ⟨by simp [wipe, List.set_set], tt_yes ⟨.int (i : Int), rfl, one, fun t nt => ?_⟩⟩
      have st := same_upd (o := .tup [.int (i : Int)]) nt
      refine ⟨_, st _ _ eD, by rw [List.length_map, lb]; exact few1 (by omega), fun b' o z => ?_, TabL.add (xs := [(i : Int)]) lb (st _ _ eD) (fun j c hc => (hb j c hc).imp fun us u => ⟨sqT_same st u.1, u.2⟩) (tupNew upd_same) (List.pairwise_singleton _ _) (fun x hx => by rw [List.mem_singleton.mp hx]; omega) fun x => ?_⟩
      · rw [upd_ne (ne_of_none z nD)]; exact st _ _ (s1 b' o z)
      · rw [List.mem_singleton]; exact ⟨fun z => z.symm, fun z => z.symm⟩
    obtain ⟨s1, bs, lb, eD, hb⟩ := p
    refine .inl ⟨D, _, rfl, lstNew eD, fun t nt => ⟨one, fun Fo nF => ?_⟩⟩
    have st := same_upd (o := .tup (bs.map V.ref)) nt
    have sF := same_upd (o := .lst [.ref t]) nF
    have s2 := s1.trans (st.trans sF)
    have nFH : H Fo = none := (s1.trans st).free nF
    have tab0 : Tab K (upd (upd H1 t (.tup (bs.map V.ref))) Fo (.lst [.ref t])) t ns.length (lk (behindOf ps) 0) := ⟨bs, tupNew (sF _ _ upd_same), lb, fun j c hc => (hb j c hc).imp fun us u => ⟨sqT_same (st.trans sF) u.1, u.2⟩⟩
    have eF2 : (upd (upd H1 t (.tup (bs.map V.ref))) Fo (.lst [.ref t])) Fo = some (.lst [.ref t]) := upd_same
    generalize upd (upd H1 t (.tup (bs.map V.ref))) Fo (.lst [.ref t]) = H2 at s2 tab0 eF2 ⊢
    clear eD hb s1
    refine ⟨.int (mo : Int), rfl, (mo : Int), rfl, by omega, by omega, ?_⟩
    refine for_range (lo := 0) (n := _) (fun n σ H' => ∃ (y2 y4 y5 y6 y7 y8 : Option V), σ = [some (.ref R), some (.int (mo : Int)), y2, some (.ref Fo), y4, y5, y6, y7, y8] ∧ Same H H' ∧ TabsL K H' Fo ns.length (n + 1) ps)
      ⟨_, _, _, _, _, _, rfl, s2, [t], eF2, rfl, fun n t' ht => by
        cases n with
        | zero => obtain rfl : t = t' := Option.some.inj ht; exact tab0
        | succ n => simp at ht⟩ ?_ ?_
    · rintro n σ H3 hn ⟨y2, y4, y5, y6, y7, y8, rfl, s3, ts, eF3, lts, hts⟩
      have hn : n < mo := by simpa using hn
      obtain ⟨ts', tl, rfl⟩ : ∃ ts' tl, ts = ts' ++ [tl] := by
        rcases List.eq_nil_or_concat ts with rfl | ⟨a, b, rfl⟩
        · cases lts
        · exact ⟨a, b, List.concat_eq_append ..⟩
      have lt' : ts'.length = n := by rw [List.length_append] at lts; simpa using lts
      have tabn := hts n tl (by rw [List.getElem?_append_right (by omega), lt', Nat.sub_self]; rfl)
      refine ⟨Nat.zero_le _, fun Lg nL => ?_⟩
      have sL := same_upd (o := .lst []) nL
      have eL4 : (upd H3 Lg (.lst [])) Lg = some (.lst []) := upd_same
      have eF4 := sL _ _ eF3
      have s4 := s3.trans sL
      have nLH := s3.free nL
      have nLF : Fo ≠ Lg := ne_of_none eF3 nL
      have tab4 := tabn.same sL
      have hts4 : ∀ (n : Nat) (t : Addr), (ts' ++ [tl])[n]? = some t → Tab K (upd H3 Lg (.lst [])) t ns.length (lk (behindOf ps) n) := fun n t ht => (hts n t ht).same sL
      generalize upd H3 Lg (.lst []) = H4 at eL4 eF4 s4 tab4 hts4 ⊢
      obtain ⟨as, ta1, ta2, ta3⟩ := id tab4
      have atl : atI ((ts' ++ [tl]).map V.ref) (-1) = some (.ref tl) := by rw [List.map_append]; exact atI_last _ _
      refine ⟨.ref Fo, rfl, 1, rfl, Fo, _, -1, .ref tl, rfl, rfl, lstNew eF4, atl, tl, rfl, ⟨_, ta1⟩, ?_⟩
      refine for_tup (K := K) (a := tl) (xs := as.map V.ref) (fun j σ H' => ∃ (y2 y6 y7 y8 : Option V), σ = [some (.ref R), some (.int (mo : Int)), y2, some (.ref Fo), some (.int (0 + (n : Int))), some (.ref Lg), y6, y7, y8] ∧ ButA Lg H4 H' ∧ TabL K H' Lg ns.length j (lk (behindOf ps) (n + 1)))
        ⟨_, _, _, _, rfl, ButA.refl _ _, [], rfl, eL4, fun _ _ z => by cases z⟩ (fun j σ H' _ h => ?_) (fun j v σ H5 hv h => ?_) (fun σ H5 h => ?_)
      · obtain ⟨_, _, _, _, _, b', _⟩ := h
        exact sqT_butL eL4 b' ta1
      · obtain ⟨y2, y6, y7, y8, rfl, b5, bs5, lb5, eL5, hb5⟩ := h
        obtain ⟨a, ga, rfl⟩ := map_at hv
        obtain ⟨xs, x1, x2, x3, x4⟩ := ta3 j a ga
        have hj : j < as.length := (List.getElem?_eq_some_iff.mp ga).1
        have x15 := sqT_butL eL4 b5 x1
        have lxs : xs.length ≤ ns.length := rise_few (rise_nodup x2) x3
        have s5 : Same H H5 := fun z o e => b5 z o (s4 _ _ e) (ne_of_none e nLH)
        refine fun d nd => ?_
        have sd := same_upd (o := .dK []) nd
        have ndH := s5.free nd
        have ndL : Lg ≠ d := ne_of_none eL5 nd
        refine ⟨.ref a, rfl, a, rfl, ⟨_, sqT_same sd x15⟩, ?_⟩
        refine for_tup (K := K) (a := a) (xs := xs.map V.int) (fun l σ H' => ∃ (y2 y8 : Option V) (ls : List Int), σ = [some (.ref R), some (.int (mo : Int)), y2, some (.ref Fo), some (.int (0 + (n : Int))), some (.ref Lg), some (.ref a), some (.ref d), y8] ∧ ButA d H5 H' ∧ DicB H' d ls ∧ ∀ m : Int, m ∈ ls ↔ ∃ x ∈ xs.take l, m ∈ behindOf ps x)
          ⟨_, _, [], rfl, ButA.of sd, DicB.nil upd_same, fun m => ⟨fun z => (by cases z), fun ⟨x, hx, _⟩ => by cases hx⟩⟩ (fun l σ H' _ h => ?_) (fun l v σ H6 hv h => ?_) (fun σ H6 h => ?_)
        · obtain ⟨_, _, _, _, b', _⟩ := h
          exact sqT_same (fun z o e => b' z o e (ne_of_none e nd)) x15
        · obtain ⟨y2, y8, ls, rfl, b6, hd6, m6⟩ := h
          obtain ⟨x, gx, rfl⟩ := map_at hv
          have s56 : Same H5 H6 := fun z o e => b6 z o e (ne_of_none e nd)
          have s6 := s5.trans s56
          have bh : ∀ m : Int, m ∈ ls → 0 ≤ m ∧ m < (ns.length : Int) := fun m hm => by
            obtain ⟨x, _, hm⟩ := (m6 m).mp hm
            exact behind_inn S x m hm
          have lls : ls.length ≤ ns.length := rise_few hd6.2 bh
          refine ⟨.ref d, rfl, .inr (.inr (.inl ⟨rfl, .inl ⟨_, hd6.1⟩⟩)), .ref R, rfl, .int x, rfl, R, x, ns, ps, rfl, O.same s6, fun H7 G s7 eG => ⟨G, rfl, ⟨_, lstNew eG⟩, fun E nE => ?_⟩⟩
          have lbh : (behindOf ps x).length ≤ 64 := Nat.le_trans (behind_len ps _) h64
          refine lc_list (K := K) (a := G) (xs := (behindOf ps x).map V.int) (fun l H' => Same H7 H' ∧ BagL H' E ((behindOf ps x).take l)) ⟨same_upd nE, BagL.nil upd_same⟩ (fun l H' _ h => lstNew (h.1 _ _ eG)) (fun l v H8 hv h => ?_) fun H8 h => ?_
          · obtain ⟨s8, hB⟩ := h
            obtain ⟨z, gz, rfl⟩ := map_at hv
            obtain ⟨vs, eE, lv⟩ := hB.lst
            refine ⟨by simp [wipe, List.set_set], tt_yes ⟨.int z, rfl, two, fun U nU => ?_⟩⟩
            have sU := same_upd (o := .tup [.int z, .bl true]) nU
            refine ⟨_, sU _ _ eE, by rw [lv, List.length_take]; exact few1 (by omega), fun c o e => by rw [upd_ne (ne_of_none e nE)]; exact sU _ _ (s8 c o e), ?_⟩
            rw [List.take_add_one, gz]
            exact hB.add eE nU
          · obtain ⟨s8, hB⟩ := h
            rw [List.length_map, List.take_of_length_le (Nat.le_refl _)] at hB
            obtain ⟨qs, hL, hP2⟩ := hB.dict (K := K)
            refine ⟨E, qs, _, rfl, hL, hP2, fun d2 nd2 => ?_⟩
            have sd2 := same_upd (o := .dK (mergeK [] (kB (behindOf ps x)))) nd2
            have s69 := s7.trans (s8.trans sd2)
            have ed2 : (upd H8 d2 (.dK (mergeK [] (kB (behindOf ps x))))) d2 = some (.dK (kB (addBs [] (behindOf ps x)))) := by rw [upd_same, mergeB0]
            have nd2d : d ≠ d2 := ne_of_none ((s7.trans s8) _ _ hd6.1) nd2
            have hd9 := hd6.same s69
            generalize upd H8 d2 (.dK (mergeK [] (kB (behindOf ps x)))) = H9 at s69 ed2 hd9 ⊢
            have l1 := len_addBs (behindOf ps x) []
            have l1 : (addBs [] (behindOf ps x)).length ≤ 64 := by simp at l1; omega
            refine ⟨d, d2, _, _, rfl, rfl, nd2d, hd9.1, ed2, by rw [kB_len, kB_len, sizeLine_eq]; omega, ?_⟩
            rw [mergeB]
            refine ⟨_, _, addBs ls (addBs [] (behindOf ps x)), rfl, fun z o e ne => by rw [upd_ne ne]; exact s69 _ _ (b6 z o e ne), ⟨upd_same, nd_addBs hd6.2⟩, fun m => ?_⟩
            rw [mem_addBs, mem_addBs, m6 m, List.take_add_one, gx]
            constructor
            · rintro (⟨y, hy, e⟩ | h | e)
              · exact ⟨y, List.mem_append_left _ hy, e⟩
              · cases h
              · exact ⟨x, List.mem_append_right _ (List.mem_singleton.mpr rfl), e⟩
            · rintro ⟨y, hy, e⟩
              rcases List.mem_append.mp hy with hy | hy
              · exact .inl ⟨y, hy, e⟩
              · have hy : y = x := List.mem_singleton.mp hy
                rw [hy] at e
                exact .inr (.inr e)
        · obtain ⟨y2, y8, ls, rfl, b6, hd6, m6⟩ := h
          rw [List.length_map, List.take_of_length_le (Nat.le_refl _)] at m6
          have s56 : Same H5 H6 := fun z o e => b6 z o e (ne_of_none e nd)
          have eL6 := s56 _ _ eL5
          have bh : ∀ m : Int, m ∈ ls → 0 ≤ m ∧ m < (ns.length : Int) := fun m hm => by
            obtain ⟨x, _, hm⟩ := (m6 m).mp hm
            exact behind_inn S x m hm
          have lls : ls.length ≤ ns.length := rise_few hd6.2 bh
          refine ⟨.ref Lg, rfl, .inl ⟨rfl, _, lstNew eL6⟩, .ref d, rfl, d, kB ls, ls, rfl, .inl hd6.1, kB_keys ls, by omega, fun zs pz pm pw nz => .inl ⟨pz, _, rfl, lstNew upd_same, fun W nW => ?_⟩⟩
          have sz := same_upd (o := .lst (zs.map V.int)) nz
          have sW := same_upd (o := .tup (zs.map V.int)) nW
          have s58 := s56.trans (sz.trans sW)
          have eW : (upd (upd H6 pz (.lst (zs.map V.int))) W (.tup (zs.map V.int))) W = some (.tup (zs.map V.int)) := upd_same
          generalize upd (upd H6 pz (.lst (zs.map V.int))) W (.tup (zs.map V.int)) = H8 at s58 eW ⊢
          have ndz : zs.Nodup := pm.nodup_iff.mpr hd6.2
          refine ⟨Lg, _, _, rfl, rfl, s58 _ _ eL5, by rw [List.length_map]; exact few1 (by omega), ?_⟩
          refine ⟨_, _, _, _, rfl, fun z o e ne => by rw [upd_ne ne]; exact s58 _ _ (b5 z o e ne), TabL.add lb5 (s58 _ _ eL5) (fun j c hc => (hb5 j c hc).imp fun us u => ⟨sqT_same s58 u.1, u.2⟩) (tupNew eW) ((ndz.and pw).imp fun {a b} ⟨h1, h2⟩ => by omega) (fun x hx => bh x (pm.mem_iff.mp hx)) fun m => ?_⟩
          rw [pm.mem_iff, m6 m, lk_last]
          exact ⟨fun ⟨x, hx, e⟩ => ⟨x, (x4 x).mp hx, e⟩, fun ⟨x, hx, e⟩ => ⟨x, (x4 x).mpr hx, e⟩⟩
      · obtain ⟨y2, y6, y7, y8, rfl, b5, bs5, lb5, eL5, hb5⟩ := h
        rw [List.length_map, ta2] at lb5
        have s5 : Same H H5 := fun z o e => b5 z o (s4 _ _ e) (ne_of_none e nLH)
        have eF5 := b5 _ _ eF4 nLF
        refine ⟨.ref Fo, rfl, .inl ⟨rfl, _, lstNew eF5⟩, .ref Lg, rfl, .inl ⟨Lg, _, rfl, lstNew eL5, fun W nW => ?_⟩⟩
        have sW := same_upd (o := .tup (bs5.map V.ref)) nW
        have eF6 := sW _ _ eF5
        refine ⟨Fo, _, _, rfl, rfl, eF6, by rw [List.length_map, List.length_append, lt']; exact few1 (by simp; omega), ?_⟩
        have tabW : Tab K (upd H5 W (.tup (bs5.map V.ref))) W ns.length (lk (behindOf ps) (n + 1)) := ⟨bs5, tupNew upd_same, lb5, fun j c hc => (hb5 j c hc).imp fun us u => ⟨sqT_same sW u.1, u.2⟩⟩
        have over : ∀ {t : Addr} {f : Int → Int → Prop} {vs : List V}, Tab K (upd H5 W (.tup (bs5.map V.ref))) t ns.length f → Tab K (upd (upd H5 W (.tup (bs5.map V.ref))) Fo (.lst vs)) t ns.length f := fun h => Tab.butL h eF6 (ButA.lock _)
        refine ⟨_, _, _, _, _, _, rfl, fun z o e => by rw [upd_ne (ne_of_none e nFH)]; exact sW _ _ (s5 z o e), ts' ++ [tl] ++ [W], by rw [upd_same, List.map_append (l₁ := ts' ++ [tl])]; rfl, by rw [List.length_append, lts]; rfl, fun m t' ht => over ?_⟩
        rcases Nat.lt_or_ge m (ts' ++ [tl]).length with z | z
        · rw [List.getElem?_append_left z] at ht
          exact (Tab.butL (hts4 m t' ht) eL4 b5).same sW
        · have hm := (List.getElem?_eq_some_iff.mp ht).1
          rw [List.length_append] at hm
          obtain rfl : m = (ts' ++ [tl]).length := by have : [W].length = 1 := rfl; omega
          rw [List.getElem?_append_right (Nat.le_refl _), Nat.sub_self] at ht
          obtain rfl : W = t' := Option.some.inj ht
          rw [lts]; exact tabW
    · rintro σ H3 ⟨y2, y4, y5, y6, y7, y8, rfl, s3, hT⟩
      rw [Int.toNat_natCast] at hT
      exact ⟨.ref Fo, rfl, q H3 Fo s3 hT⟩
end
end K20
set_option maxHeartbeats 4000000
namespace K20
open PySem PySem.Spec PyProof.Rows L2 RV
open Classical in
noncomputable def pB (p : Prop) : Bool := decide p
theorem pB_iff {p : Prop} : pB p = true ↔ p := by
  unfold pB
  exact @decide_eq_true_iff p (Classical.propDecidable p)
theorem pB_eq {p : Prop} {b : Bool} (h : b = true ↔ p) : b = pB p := Bool.eq_iff_iff.mpr (h.trans pB_iff.symm)
/-- what parts all sizes to seventy -/
def Sz70 (ps : List (List Int)) (p : List Int) (i D : Nat) : Prop := ∀ d : Nat, d ∣ D ↔ ∀ n, 1 ≤ n → n < i → (∃ x ∈ p, lk (behindOf ps) n x x) → d ∣ n
theorem sz_per {ps : List (List Int)} {N : Nat} (hP : ∀ q ∈ ps, Pr (N : Int) q) {p : List Int} {x0 : Int} {g D : Nat} (kn : Knot ps p x0) (per : Per ps x0 g) (h : Sz70 ps p 70 D) : D = g := by
  refine Nat.dvd_antisymm (per.most D fun n n24 w => ?_) ((h g).mpr fun n _ _ ⟨x, hx, w⟩ => ?_)
  · rcases Nat.eq_zero_or_pos n with rfl | n1
    · exact Nat.dvd_zero _
    · exact (h D).mp (Nat.dvd_refl D) n n1 (by omega) ⟨x0, kn.x_in, wk_lk hP w⟩
  · obtain ⟨t, wt⟩ := kn.out x hx
    obtain ⟨r, wr⟩ := kn.back x hx
    exact dvd_mid (per.all _ ((wt.trans (lk_wk hP w)).trans wr)) (per.all _ (wt.trans wr))
theorem sz_next {ps : List (List Int)} {p : List Int} {i D : Nat} (h : Sz70 ps p i D) (i1 : 1 ≤ i) : ((∃ x ∈ p, lk (behindOf ps) i x x) → Sz70 ps p (i + 1) (Nat.gcd D i)) ∧ ((¬ ∃ x ∈ p, lk (behindOf ps) i x x) → Sz70 ps p (i + 1) D) := by
  refine ⟨fun e d => ?_, fun e d => ?_⟩
  · rw [Nat.dvd_gcd_iff, h d]
    constructor
    · rintro ⟨a, b⟩ n n1 ni w
      by_cases z : n = i
      · rw [z]; exact b
      · exact a n n1 (by omega) w
    · exact fun a => ⟨fun n n1 ni w => a n n1 (by omega) w, a i i1 (by omega) e⟩
  · rw [h d]
    constructor
    · intro a n n1 ni w
      by_cases z : n = i
      · rw [z] at w; exact absurd w e
      · exact a n n1 (by omega) w
    · exact fun a n n1 ni w => a n n1 (by omega) w
section
variable {P : Program} {w : World} {K : PySem.W.Frag} {mg : Str → Option Value} {base : Heap}
/-! ### _law_size -/
abbrev nLz : List Str := ["_law_tables_here", "_law_part", "_law_found", "_law_n", "_law_mark", "_law_one", "_law_other"]
theorem scLz : FnScope nLz ["_law_tables_here", "_law_part"] (defScope sLSize) := ⟨rfl, rfl, rfl, by decide +kernel, rfl, by decide +kernel, by decide +kernel⟩
def spLz (K : PySem.W.Frag) : Sp := fun vs H Q _ => ∃ (L a : Addr) (N m : Nat) (ps : List (List Int)) (p : List Int), vs = [.ref L, .ref a] ∧ TabsL K H L N m ps ∧ 70 ≤ m ∧ SqT K H a (p.map V.int) ∧ p.length ≤ 8 ∧ (∀ x ∈ p, 0 ≤ x ∧ x < (N : Int)) ∧
  ∀ (H' : Hp) (D : Nat), Same H H' → Sz70 ps p 70 D → Q (.int (D : Int)) H'
theorem ok_lz {f : Addr} {fd : FuncData} (F : Fun K "_law_size" "_law_size" sLSize f fd) (B : Bare mg) : FnOk P w K mg base CX0 1 f fd ["_law_tables_here", "_law_part"] (spLz K) := by
  refine F.ok scLz (fun vs H Q E h => ?_) (fun cdv A outer s H vs Q E hr h => ?_)
  · obtain ⟨L, a, N, m, ps, p, rfl, _⟩ := h
    rfl
  · obtain ⟨L, a, N, m, ps, p, rfl, hL, hm, hA, lp, bp, q⟩ := h
    have hu5 := un65 hr
    refine ⟨_, pss_cons (ps_set (i := 2) scLz.nd rfl (Or.inl rfl) pe_int)
      (pss_cons (ps_for PassesOwn.never rfl (pi_range2 (by rfl) B.range (pa_cons pe_int (pa_cons pe_int pa_nil))) (pg_name (i := 3) scLz.nd rfl (Or.inr rfl))
        (pss_one (ps_if (pt_val (pe_callB (cr_any rfl) (by rfl) B.any (by decide +kernel) (pa_cons
            (pe_lc (own := [("_law_mark", 4)]) (g := gName 4) (tt := tYes) rfl scLz.nd (pi_tup (pv 1)) (blkOk_by (N := nLz) (sc := defScope sLSize) (by decide +kernel)) (fun _ _ _ _ _ => pg_name (i := 4) scLz.nd rfl (Or.inl rfl)) (fun _ _ _ _ _ => pts_nil)
              (fun _ _ _ _ _ => pe_cmpR (op_inTIK (K := K) rfl hu5) (pv 4) (pe_ix (ix_tupK (K := K) rfl) (pe_ix (ix_listK (K := K) rfl) (pv 0) (pv 3) (fun _ _ => rfl)) (pv 4) (fun _ _ => rfl)) (by rfl))) pa_nil)))
          (pss_cons (ps_par (i := 5) (j := 6) (by rfl) scLz.nd rfl rfl (by decide) rfl rfl (pa_cons (pv 2) (pa_cons (pv 3) pa_nil)) (by rfl))
          (pss_cons (ps_while PassesOwn.never (pt_cmpR op_ne (pv 6) pe_int (nomark _))
            (pss_one (ps_par (i := 5) (j := 6) (by rfl) scLz.nd rfl rfl (by decide) rfl rfl (pa_cons (pv 6) (pa_cons (pe_op op_mod (pv 5) (pv 6)) pa_nil)) (by rfl))))
          (pss_one (ps_set (i := 2) scLz.nd rfl (Or.inl rfl) (pv 5))))) pss_nil)))
      (pss_one (ps_ret (pv 2)))), ?_⟩
    obtain ⟨ts, eL, lts, hts⟩ := id hL
    refine ⟨1, 70, rfl, ⟨by decide, by decide, by decide, by decide⟩, ?_⟩
    refine for_range (lo := 1) (n := _) (fun i σ H' => ∃ (y3 y4 y5 y6 : Option V) (D : Nat), σ = [some (.ref L), some (.ref a), some (.int (D : Int)), y3, y4, y5, y6] ∧ Same H H' ∧ Sz70 ps p (i + 1) D)
      ⟨_, _, _, _, 0, rfl, Same.refl H, fun d => ⟨fun _ n a b => by omega, fun _ => Nat.dvd_zero _⟩⟩ ?_ ?_
    · rintro i σ H1 hi ⟨y3, y4, y5, y6, D, rfl, s1, hD⟩
      have hi : i < 69 := hi
      have e0 : (1 + ((i : Nat) : Int)) = ((i + 1 : Nat) : Int) := by omega
      rw [e0]
      obtain ⟨t, gt⟩ : ∃ t, ts[i + 1]? = some t := ⟨_, List.getElem?_eq_getElem (by omega)⟩
      have tab := hts _ t gt
      refine ⟨.ref a, rfl, a, rfl, ⟨_, sqT_same s1 hA⟩, fun Dd nD => ?_⟩
      refine lc_tup (K := K) (a := a) (xs := p.map V.int) (fun j H' => Same H1 H' ∧ H' Dd = some (.lst (((p.take j).map fun x => pB (lk (behindOf ps) (i + 1) x x)).map V.bl))) ⟨same_upd nD, upd_same⟩ (fun j H' _ h => sqT_same (s1.trans h.1) hA) (fun j v H2 hv h => ?_) fun H2 h => ?_
      · obtain ⟨s2, eD⟩ := h
        obtain ⟨x, gx, rfl⟩ := map_at hv
        have s12 := s1.trans s2
        have bx := bp x (List.mem_of_getElem? gx)
        have hj := (List.getElem?_eq_some_iff.mp gx).1
        obtain ⟨vs, c, xs, z1, z2, z3, z4, z5, z6⟩ := (tab.same s12).at bx.1 bx.2
        refine ⟨by simp [wipe, List.set_set], tt_yes ⟨.int x, rfl, .ref L, rfl, .int ((i + 1 : Nat) : Int), rfl, L, _, ((i + 1 : Nat) : Int), .ref t, rfl, rfl, lstNew (s12 _ _ eL), atI_nat (by rw [List.getElem?_map, gt]; rfl), .int x, rfl, t, vs, x, .ref c, rfl, rfl, z1, z2, c, x, xs, rfl, rfl, z3, ?_⟩⟩
        have ed : decide (x ∈ xs) = pB (lk (behindOf ps) (i + 1) x x) := pB_eq (decide_eq_true_iff.trans (z6 x))
        rw [ed]
        refine ⟨_, eD, by rw [List.length_map, List.length_map, List.length_take]; exact few1 (by omega), fun b o z => by rw [upd_ne (ne_of_none z nD)]; exact s2 b o z, ?_⟩
        rw [upd_same, List.take_add_one, gx, List.map_append, List.map_append]; rfl
      · obtain ⟨s2, eD⟩ := h
        rw [List.length_map, List.take_of_length_le (Nat.le_refl _)] at eD
        refine ⟨Dd, _, rfl, lstNew eD, ?_⟩
        have s12 := s1.trans s2
        have nx := sz_next hD (by omega)
        have ea : ((p.map fun x => pB (lk (behindOf ps) (i + 1) x x)).any id) = true ↔ ∃ x ∈ p, lk (behindOf ps) (i + 1) x x := by
          rw [List.any_map, List.any_eq_true]
          exact ⟨fun ⟨x, hx, e⟩ => ⟨x, hx, pB_iff.mp e⟩, fun ⟨x, hx, e⟩ => ⟨x, hx, pB_iff.mpr e⟩⟩
        refine ⟨_, rfl, ?_⟩
        cases hb : ((p.map fun x => pB (lk (behindOf ps) (i + 1) x x)).any id) with
        | false =>
          exact iteF ⟨_, _, _, _, D, rfl, s12, nx.2 fun z => by have := ea.mpr z; rw [hb] at this; cases this⟩
        | true =>
          refine iteT ⟨.int (D : Int), rfl, .int ((i + 1 : Nat) : Int), rfl, _, _, rfl, ?_⟩
          dsimp only
          refine ⟨fun m σ H' => ∃ (c d : Nat), σ = [some (.ref L), some (.ref a), some (.int (D : Int)), some (.int ((i + 1 : Nat) : Int)), y4, some (.int (c : Int)), some (.int (d : Int))] ∧ H' = H2 ∧ Nat.gcd c d = Nat.gcd D (i + 1) ∧ m = d, ⟨i + 1, D, i + 1, rfl, rfl, rfl, rfl⟩, ?_⟩
          rintro m σ H3 ⟨c, d, rfl, rfl, eg, rfl⟩
          refine ⟨.int (m : Int), rfl, rfl, _, rfl, ?_⟩
          by_cases h0 : m = 0
          · subst h0
            rw [decide_eq_true (show V.int ((0 : Nat) : Int) = .int 0 from rfl)]
            refine iteF ⟨.int (c : Int), rfl, _, _, _, _, c, rfl, s12, ?_⟩
            rw [Nat.gcd_zero_right] at eg
            rw [eg]; exact nx.1 (ea.mp hb)
          · rw [decide_eq_false (show ¬ V.int ((m : Nat) : Int) = .int 0 from fun z => h0 (by injection z with z; omega))]
            refine iteT ⟨fun σ H' => ∃ (c d : Nat), σ = [some (.ref L), some (.ref a), some (.int (D : Int)), some (.int ((i + 1 : Nat) : Int)), y4, some (.int (c : Int)), some (.int (d : Int))] ∧ H' = H3 ∧ Nat.gcd c d = Nat.gcd D (i + 1) ∧ d < m, fun σ' H' ⟨c, d, z1, z2, z3, z4⟩ => ⟨d, z4, c, d, z1, z2, z3, rfl⟩, ?_⟩
            refine ⟨.int (m : Int), rfl, .int (c : Int), rfl, .int (m : Int), rfl, _, _, rfl, rfl, (show (0 : Int) < m by omega), _, _, rfl, m, c % m, rfl, rfl, ?_, Nat.mod_lt _ (by omega)⟩
            rw [← eg, Nat.gcd_comm m (c % m), ← Nat.gcd_rec, Nat.gcd_comm]
    · rintro σ H1 ⟨y3, y4, y5, y6, D, rfl, s1, hD⟩
      exact ⟨.int (D : Int), rfl, q H1 D s1 hD⟩
end
end K20
set_option maxHeartbeats 4000000
/-! every mark that comes back to itself has a period -/
namespace RV
open PySem PySem.Spec PyProof.Rows L2
theorem per_off {ps : List (List Int)} {n : Nat} (hb : ∀ q ∈ ps, Pr (n : Int) q) (h8 : n ≤ 8) {x : Int} (hx : 0 ≤ x ∧ x < (n : Int)) {D : Nat} (hD : ∀ k, k ≤ 24 → Wk ps k x x → D ∣ k) : ∀ {k : Nat} {y : Int}, Wk ps k x y → (∃ r, Wk ps r y x) → ∀ m, m ≤ 8 → Wk ps m x y → (D : Int) ∣ (k : Int) - (m : Int)
  | 0, y, w, _, m, hm, wm => by
    have e := w.zero
    subst e
    have := hD m (by omega) wm
    obtain ⟨c, hc⟩ := this
    exact ⟨-(c : Int), by rw [hc, Int.natCast_mul, Int.mul_neg]; omega⟩
  | k + 1, y, w, ⟨r, wr⟩, m, hm, wm => by
    cases w with
    | @more _ _ z _ w e =>
      have by_ : 0 ≤ y ∧ y < (n : Int) := wm.bound hb hx
      obtain ⟨mz, hmz, wz⟩ := wk_short hb hx w
      obtain ⟨r', hr', wr'⟩ := wk_short hb by_ wr
      have ih := per_off hb h8 hx hD w ⟨1 + r, (Wk.one e).trans wr⟩ mz (by omega) wz
      have d1 := hD (mz + 1 + r') (by omega) ((wz.trans (.one e)).trans wr')
      have d2 := hD (m + r') (by omega) (wm.trans wr')
      have d3 := Int.dvd_sub (Int.ofNat_dvd.mpr d1) (Int.ofNat_dvd.mpr d2)
      have d4 := Int.dvd_add ih d3
      rw [show ((k + 1 : Nat) : Int) - (m : Int) = (k : Int) - (mz : Int) + (((mz + 1 + r' : Nat) : Int) - ((m + r' : Nat) : Int)) by omega]
      exact d4
theorem per_ex {ps : List (List Int)} {n : Nat} (hb : ∀ q ∈ ps, Pr (n : Int) q) (h8 : n ≤ 8) {x : Int} (r : Rch ps x x) : Per ps x (perN ps x) := by
  obtain ⟨k, wk⟩ := rch_wk r
  have bx := (Rch.bound hb r).1
  obtain ⟨d, t, d1, wt, et, all⟩ := least_rest (show 1 ≤ k + 1 by omega) wk
  have h : Per ps x d := by
    refine ⟨fun n w => all n w, fun D hD => ?_⟩
    have any : ∀ c, Wk ps c x x → D ∣ c := fun c w => by
      have z := per_off hb h8 bx hD w ⟨0, .nil x⟩ 0 (by omega) (.nil x)
      rw [show (c : Int) - ((0 : Nat) : Int) = (c : Int) by omega] at z
      exact Int.ofNat_dvd.mp z
    have a1 := any _ wk
    have a2 := any _ wt
    have a3 : D ∣ t % (k + 1) := (Nat.dvd_mod_iff a1).mpr a2
    rw [et] at a3
    exact (Nat.dvd_mod_iff a1).mp a3
  rw [h.is]; exact h
end RV
set_option maxHeartbeats 4000000
namespace K20
open PySem PySem.Spec PyProof.Rows L2 RV
/-- classes as they are found ahead of a mark -/
structure Ah (ps : List (List Int)) (p : List Int) (x0 : Int) (g : Nat) (us : List (Int × Nat)) : Prop where
  nd : (us.map (·.1)).Nodup
  st : x0 ∈ us.map (·.1)
  ok : ∀ u ∈ us, u.1 ∈ p ∧ u.2 = clsN ps x0 g u.1
theorem Ah.len {ps : List (List Int)} {p : List Int} {x0 : Int} {g : Nat} {us : List (Int × Nat)} (h : Ah ps p x0 g us) : us.length ≤ p.length := by
  have := nodup_le (us := p) h.nd fun m hm => by
    obtain ⟨u, hu, rfl⟩ := List.mem_map.mp hm
    exact (h.ok u hu).1
  rwa [List.length_map] at this
theorem Ah.get {ps : List (List Int)} {p : List Int} {x0 : Int} {g : Nat} {us : List (Int × Nat)} (h : Ah ps p x0 g us) {m : Int} (hm : m ∈ us.map (·.1)) : valV (us.map kO) (Sum.inl m) = some (.int ((clsN ps x0 g m : Nat) : Int)) := by
  obtain ⟨u, hu, rfl⟩ := List.mem_map.mp hm
  rw [← (h.ok u hu).2]
  exact valO_at h.nd hu
/-- the last number of steps, so far, that doesn't lead everywhere, and one more -/
structure Fd (ps : List (List Int)) (p : List Int) (x0 : Int) (g i f : Nat) : Prop where
  f1 : 1 ≤ f
  fi : f ≤ i + 1
  ev : ∀ n, 1 ≤ n → n ≤ i → f ≤ n → Ev ps p x0 g n
  no : f = 1 ∨ ¬ Ev ps p x0 g (f - 1)
theorem ev_up {ps : List (List Int)} {p : List Int} {x0 : Int} {g : Nat} (kn : Knot ps p x0) (per : Per ps x0 g) (rp : ∀ y ∈ p, Rch ps y y) {m : Nat} (h : Ev ps p x0 g m) : ∀ k, Ev ps p x0 g (m + k)
  | 0 => h
  | k + 1 => fun x hx => ev_next kn per rp (ev_up kn per rp h k x hx)
theorem fd_span {ps : List (List Int)} {N : Nat} (hP : ∀ q ∈ ps, Pr (N : Int) q) {p : List Int} {f i : Nat} (kn : Knot ps p (hd0 p)) (per : Per ps (hd0 p) (perN ps (hd0 p))) (bp : ∀ m ∈ p, 0 ≤ m ∧ m < (N : Int)) (rp : ∀ y ∈ p, Rch ps y y) (h : Fd ps p (hd0 p) (perN ps (hd0 p)) i f) (hi : N * (N + 1) < i) : SpanIs ps p f := by
  have far := ev_far hP kn per bp rp
  refine ⟨h.f1, ?_, fun m m1 mf e => ?_⟩
  · rcases Nat.lt_or_ge i f with z | z
    · exfalso
      have ef : f - 1 = N * (N + 1) + (f - 1 - N * (N + 1)) := by have := h.fi; omega
      rcases h.no with e | e
      · omega
      · exact e (by rw [ef]; exact ev_up kn per rp far _)
    · exact h.ev f h.f1 z (Nat.le_refl _)
  · rcases h.no with z | z
    · omega
    · refine z ?_
      have e2 : f - 1 = m + (f - 1 - m) := by omega
      rw [e2]; exact ev_up kn per rp e _
section
variable {P : Program} {w : World} {K : PySem.W.Frag} {mg : Str → Option Value} {base : Heap}
/-! ### _law_due -/
abbrev nDu : List Str := ["_law_form_here", "_law_part", "_law_tables_here", "_law_size_here", "_law_found", "_law_ahead", "_law_n", "_law_mark", "_law_one", "_law_other", "_law_wanted"]
theorem scDu : FnScope nDu ["_law_form_here", "_law_part"] (defScope sDue) := ⟨rfl, rfl, rfl, by decide +kernel, rfl, by decide +kernel, by decide +kernel⟩
def spDu (K : PySem.W.Frag) : Sp := fun vs H Q _ => ∃ (R a : Addr) (ns : List Int) (ps : List (List Int)) (p : List Int), vs = [.ref R, .ref a] ∧ OwnH K H R ns ps ∧ SqT K H a (p.map V.int) ∧ p ∈ partsOf ps ns.length ∧
  ∀ (H' : Hp) (T : Nat), Same H H' → SpanIs ps p T → T ≤ 121 → Q (.int (T : Int)) H'
theorem ok_du {f fT fZ : Addr} {fd dT dZ : FuncData} (F : Fun K "_law_due" "_law_due" sDue f fd) (B : Bare mg) (DT : DefAt K mg "_law_tables" sTables ["_law_form_here", "_law_most"] fT dT) (GT : FnOk P w K mg base CX0 2 fT dT ["_law_form_here", "_law_most"] (spTb K))
    (DZ : DefAt K mg "_law_size" sLSize ["_law_tables_here", "_law_part"] fZ dZ) : FnOk P w K mg base CX0 3 f fd ["_law_form_here", "_law_part"] (spDu K) := by
  have GZ : FnOk P w K mg base CX0 1 fZ dZ ["_law_tables_here", "_law_part"] (spLz K) := ok_lz DZ.fn B
  refine F.ok scDu (fun vs H Q E h => ?_) (fun cdv A outer s H vs Q E hr h => ?_)
  · obtain ⟨R, a, ns, ps, p, rfl, _⟩ := h
    rfl
  · obtain ⟨R, a, ns, ps, p, rfl, O, hA, hp, q⟩ := h
    have hu := hu_of hr
    have hu5 := un65 hr
    have r1 := hr.mono (show 1 ≤ 2 by decide)
    have one : (1 : Nat) ≤ sizeLine := by decide
    have two : (2 : Nat) ≤ sizeLine := by decide
    refine ⟨_, pss_cons (ps_set (i := 2) scDu.nd rfl (Or.inr rfl) (pe_call GT hr (by rfl) DT.mg DT.fn.kp DT.bi .nil pass0 (pa_cons (pv 0) (pa_cons pe_int pa_nil))))
      (pss_cons (ps_asg (pe_tup (pa_cons (pe_call GZ r1 (by rfl) DZ.mg DZ.fn.kp DZ.bi .nil pass0 (pa_cons (pv 2) (pa_cons (pv 1) pa_nil))) (pa_cons pe_int pa_nil))) (pg_tup rfl (pgs_cons (pg_name (i := 3) scDu.nd rfl (Or.inr rfl)) (pgs_cons (pg_name (i := 4) scDu.nd rfl (Or.inl rfl)) pgs_nil))))
      (pss_cons (ps_set (i := 5) scDu.nd rfl (Or.inr rfl) (pe_callTy (call_dictP rfl) (by rfl) B.dict boot_dict (pa_cons (pe_lst (pa_cons (pe_tup (pa_cons (pe_ix ix_tup (pv 1) pe_int (fun _ _ => rfl)) (pa_cons pe_int pa_nil))) pa_nil)) pa_nil)))
      (pss_cons (ps_for PassesOwn.never rfl (pi_range2 (by rfl) B.range (pa_cons pe_int (pa_cons pe_int pa_nil))) (pg_name (i := 6) scDu.nd rfl (Or.inr rfl))
        (pss_one (ps_for PassesOwn.never rfl (pi_tup (pe_ix ix_tup (pe_ix ix_list (pv 2) (pv 6) (fun _ _ => rfl)) (pe_ix ix_tup (pv 1) pe_int (fun _ _ => rfl)) (fun _ _ => rfl))) (pg_name (i := 7) scDu.nd rfl (Or.inl rfl))
          (pss_one (ps_if (pt_cmpR (op_inTI hu5) (pv 7) (pv 1) (by rfl)) (pss_one (ps_expr (pe_dsetd (pv 5) (pv 7) (pe_op op_mod (pv 6) (pv 3)) ⟨rfl, rfl, rfl, rfl⟩))) pss_nil)))))
      (pss_cons (ps_for PassesOwn.never rfl (pi_range2 (by rfl) B.range (pa_cons pe_int (pa_cons pe_int pa_nil))) (pg_name (i := 6) scDu.nd rfl (Or.inr rfl))
        (pss_one (ps_for PassesOwn.never rfl (pi_tup (pv 1)) (pg_name (i := 8) scDu.nd rfl (Or.inr rfl))
          (pss_cons (ps_setLc (i := 10) (own := [("_law_other", 9)]) (g := gName 9) rfl scDu.nd rfl rfl (by rfl) (pi_tup (pv 1)) (blkOk_by (N := nDu) (sc := defScope sDue) (by decide +kernel)) (fun _ _ _ _ _ => pg_name (i := 9) scDu.nd rfl (Or.inl rfl))
            (fun _ _ _ _ _ => pts_one (pt_cmpR op_eq (pe_op op_mod (pe_op op_sub (pe_op op_sub (pe_dget hu (pv 5) (pv 9) (fun _ _ => rfl)) (pe_dget hu (pv 5) (pv 8) (fun _ _ => rfl))) (pv 6)) (pv 3)) pe_int (nomark _))) (fun _ _ _ _ _ => pv 9))
          (pss_one (ps_if (pt_not (pt_val (pe_callB (cr_all rfl) (by rfl) B.all (by decide +kernel) (pa_cons
              (pe_lc (own := [("_law_other", 9)]) (g := gName 9) (tt := tYes) rfl scDu.nd (pi_list (pv 10)) (blkOk_by (N := nDu) (sc := defScope sDue) (by decide +kernel)) (fun _ _ _ _ _ => pg_name (i := 9) scDu.nd rfl (Or.inl rfl)) (fun _ _ _ _ _ => pts_nil)
                (fun _ _ _ _ _ => pe_cmpR (op_inTIK (K := K) rfl hu5) (pv 9) (pe_ix (ix_tupK (K := K) rfl) (pe_ix (ix_listK (K := K) rfl) (pv 2) (pv 6) (fun _ _ => rfl)) (pv 8) (fun _ _ => rfl)) (by rfl))) pa_nil))))
            (pss_one (ps_set (i := 4) scDu.nd rfl (Or.inl rfl) (pe_op op_add (pv 6) pe_int))) pss_nil))))))
      (pss_one (ps_ret (pv 4))))))), ?_⟩
    obtain ⟨u, c, o1, o2, o3, M, S⟩ := id O
    have h8 := M.few
    have hP : ∀ q ∈ ps, Pr (ns.length : Int) q := fun q hq => S.pair q hq
    have lp : p.length ≤ 8 := part_len8 h8 hp
    have bp : ∀ x ∈ p, 0 ≤ x ∧ x < (ns.length : Int) := fun x hx => part_bd hp hx
    have kn := knot_of hP hp
    have rp : ∀ y ∈ p, Rch ps y y := fun y hy => lot_some (n := ns.length) (by rw [part_lot hp hy]; exact hy)
    have per := per_ex hP h8 (rp _ kn.x_in)
    have g0 := per.pos (rp _ kn.x_in)
    obtain ⟨x0, ex0⟩ : ∃ x0, x0 = hd0 p := ⟨_, rfl⟩
    obtain ⟨g, eg⟩ : ∃ g, g = perN ps (hd0 p) := ⟨_, rfl⟩
    rw [← eg] at g0 per
    rw [← ex0] at kn per
    have hx0 : (p.map V.int)[0]? = some (.int x0) := by
      rw [ex0]
      cases e : p with
      | nil => rw [e] at kn; exact absurd kn.x_in (by simp)
      | cons x l => rfl
    refine ⟨.ref R, rfl, R, 120, ns, ps, rfl, O, by decide, fun H1 L s1 hL => ?_⟩
    refine ⟨.ref L, rfl, .ref a, rfl, L, a, ns.length, 121, ps, p, rfl, hL, by decide, sqT_same s1 hA, lp, bp, fun H2 D s2 hD => ⟨two, fun U nU => ?_⟩⟩
    obtain rfl : D = g := sz_per hP kn per hD
    have sU := same_upd (o := .tup [.int (D : Int), .int 1]) nU
    refine ⟨U, _, rfl, tupNew upd_same, rfl, _, _, rfl, _, _, rfl, rfl, ?_⟩
    dsimp only
    have s3 := s1.trans (s2.trans sU)
    have hL3 := hL.same (s2.trans sU)
    generalize upd H2 U (.tup [.int (D : Int), .int 1]) = H3 at s3 hL3 ⊢
    clear hL hD s1 s2 sU nU
    refine ⟨.ref a, rfl, a, _, 0, .int x0, rfl, rfl, sqT_same s3 hA, atI_nat (j := 0) hx0, two, fun T nT => ⟨one, fun Lx nx => ?_⟩⟩
    have sT := same_upd (o := .tup [.int x0, .int 0]) nT
    have sx := same_upd (o := .lst [.ref T]) nx
    refine ⟨Lx, [T], [(Sum.inl x0, .int 0)], rfl, lstNew upd_same, .cons (tupNew (sx _ _ upd_same)) .nil, fun d nd => ?_⟩
    have sd := same_upd (o := .dK (mergeK [] [((Sum.inl x0 : L2.Key), V.int 0)])) nd
    have ed4 : (upd (upd (upd H3 T (.tup [.int x0, .int 0])) Lx (.lst [.ref T])) d (.dK (mergeK [] [((Sum.inl x0 : L2.Key), V.int 0)]))) d = some (.dK (([(x0, 0)] : List (Int × Nat)).map kO)) := upd_same
    have s4 := s3.trans (sT.trans (sx.trans sd))
    have hL4 := hL3.same (sT.trans (sx.trans sd))
    have ndH : H d = none := (s3.trans (sT.trans sx)).free nd
    generalize upd (upd (upd H3 T (.tup [.int x0, .int 0])) Lx (.lst [.ref T])) d (.dK (mergeK [] [((Sum.inl x0 : L2.Key), V.int 0)])) = H4 at ed4 s4 hL4 ⊢
    obtain ⟨ts, eL4, lts, hts⟩ := id hL4
    have nLd : L ≠ d := fun z => by rw [z, ed4] at eL4; cases eL4
    have ah0 : Ah ps p x0 D [(x0, 0)] := ⟨by simp, by simp, fun u hu => by rw [List.mem_singleton.mp hu]; exact ⟨kn.x_in, per.self.symm⟩⟩
    -- ahead
    refine nx_step ?_
    dsimp only
    let St : Nat → Hp → List (Int × Nat) → Prop := fun n H' us => Same H H' ∧ ButA d H4 H' ∧ H' d = some (.dK (us.map kO)) ∧ Ah ps p x0 D us ∧ ∀ m ∈ p, ∀ k, 1 ≤ k → k < n → Wk ps k x0 m → m ∈ us.map (·.1)
    refine ⟨1, 70, rfl, ⟨by decide, by decide, by decide, by decide⟩, ?_⟩
    refine for_range (lo := 1) (n := _) (fun n σ H' => ∃ (y6 y7 y8 y9 y10 : Option V) (us : List (Int × Nat)), σ = [some (.ref R), some (.ref a), some (.ref L), some (.int (D : Int)), some (.int 1), some (.ref d), y6, y7, y8, y9, y10] ∧ St (n + 1) H' us)
      ⟨_, _, _, _, _, [(x0, 0)], rfl, s4, ButA.refl _ _, ed4, ah0, fun m hm k k1 kn => by omega⟩ ?_ ?_
    · rintro n σ H5 hn ⟨y6, y7, y8, y9, y10, us, rfl, s5, b5, ed5, ah5, cov5⟩
      have hn : n < 69 := hn
      have e0 : (1 + ((n : Nat) : Int)) = ((n + 1 : Nat) : Int) := by omega
      rw [e0]
      obtain ⟨t, gt⟩ : ∃ t, ts[n + 1]? = some t := ⟨_, List.getElem?_eq_getElem (by omega)⟩
      have eL5 := b5 _ _ eL4 nLd
      have sqd : ∀ {H' : Hp} {b : Addr} {xs : List V}, ButA d H4 H' → SqT K H4 b xs → SqT K H' b xs := fun {H' b xs} bb h => by
        rcases h with (h | ⟨o, h⟩) | h
        · exact .inl (.inl (bb _ _ h fun z => by rw [z, ed4] at h; cases h))
        · exact .inl (.inr ⟨o, bb _ _ h fun z => by rw [z, ed4] at h; cases h⟩)
        · exact .inr h
      have b0 := bp x0 kn.x_in
      obtain ⟨vs, cc, xs, z1, z2, z3, z4, z5, z6⟩ := (hts _ t gt).at b0.1 b0.2
      have z6' : ∀ m : Int, m ∈ xs ↔ Wk ps (n + 1) x0 m := fun m => (z6 m).trans ⟨lk_wk hP, wk_lk hP⟩
      refine ⟨.ref L, rfl, .int ((n + 1 : Nat) : Int), rfl, L, _, ((n + 1 : Nat) : Int), .ref t, rfl, rfl, lstNew eL5, atI_nat (by rw [List.getElem?_map, gt]; rfl), .ref a, rfl, a, _, 0, .int x0, rfl, rfl, sqT_same s5 hA, atI_nat (j := 0) hx0, t, vs, x0, .ref cc, rfl, rfl, sqd b5 z1, z2, cc, rfl, ⟨_, sqd b5 z3⟩, ?_⟩
      refine for_tup (K := K) (a := cc) (xs := xs.map V.int) (fun l σ H' => ∃ (y7 y8 y9 y10 : Option V) (us : List (Int × Nat)), σ = [some (.ref R), some (.ref a), some (.ref L), some (.int (D : Int)), some (.int 1), some (.ref d), some (.int ((n + 1 : Nat) : Int)), y7, y8, y9, y10] ∧ St (n + 1) H' us ∧ ∀ m ∈ p, m ∈ xs.take l → m ∈ us.map (·.1))
        ⟨_, _, _, _, us, rfl, ⟨s5, b5, ed5, ah5, cov5⟩, fun m _ h => by cases h⟩ (fun l σ H' _ h => ?_) (fun l v σ H6 hv h => ?_) (fun σ H6 h => ?_)
      · obtain ⟨_, _, _, _, _, _, ⟨_, b', _⟩, _⟩ := h
        exact sqd b' z3
      · obtain ⟨y7, y8, y9, y10, us, rfl, ⟨s6, b6, ed6, ah6, cov6⟩, cx⟩ := h
        obtain ⟨m, gm, rfl⟩ := map_at hv
        have mem1 : ∀ q : Int, q ∈ xs.take (l + 1) ↔ q ∈ xs.take l ∨ q = m := fun q => by
          rw [List.take_add_one, gm, List.mem_append]
          exact or_congr Iff.rfl List.mem_singleton
        refine ⟨.int m, rfl, .ref a, rfl, a, m, p, rfl, rfl, sqT_same s6 hA, _, rfl, ?_⟩
        by_cases hm : m ∈ p
        · rw [decide_eq_true hm]
          refine iteT ⟨.ref d, rfl, d, rfl, .inl ⟨_, .inl ed6⟩, .int m, rfl, .int ((n + 1 : Nat) : Int), rfl, .int (D : Int), rfl, _, _, rfl, rfl, (show (0 : Int) < D by omega), us.map kO, Sum.inl m, ed6, rfl, by rw [List.length_map]; have := ah6.len; exact few1 (by omega), fun v hv => ?_, fun hn => ?_⟩
          · have hk := valO_in hv
            exact ⟨_, _, _, _, us, rfl, ⟨s6, b6, ed6, ah6, cov6⟩, fun q hq h => ((mem1 q).mp h).elim (cx q hq) fun e => e ▸ hk⟩
          · have hk := valO_not hn
            have wm := (z6' m).mp (List.mem_of_getElem? gm)
            have ec : (((n + 1 : Nat) : Int) % (D : Int)) = ((clsN ps x0 D m : Nat) : Int) := by rw [← Int.natCast_emod, per.cls wm (kn.back m hm)]
            refine ⟨_, _, _, _, us ++ [(m, clsN ps x0 D m)], rfl, ⟨fun z o e => by rw [upd_ne (ne_of_none e ndH)]; exact s6 z o e, fun z o e ne => by rw [upd_ne ne]; exact b6 z o e ne, upd_same.trans (by rw [← putO_new hn, ← ec]), ⟨?_, ?_, fun u hu => ?_⟩, fun q hq k k1 kn w => ?_⟩, fun q hq h => ?_⟩
            · rw [List.map_append, List.nodup_append]
              exact ⟨ah6.nd, List.pairwise_singleton _ _, fun a ha b hb => by rw [List.mem_singleton.mp hb]; exact fun z => hk ((show a = m from z) ▸ ha)⟩
            · rw [List.map_append]; exact List.mem_append_left _ ah6.st
            · rcases List.mem_append.mp hu with z | z
              · exact ah6.ok u z
              · rw [List.mem_singleton.mp z]; exact ⟨hm, rfl⟩
            · rw [List.map_append]; exact List.mem_append_left _ (cov6 q hq k k1 kn w)
            · rw [List.map_append]
              rcases (mem1 q).mp h with z | z
              · exact List.mem_append_left _ (cx q hq z)
              · exact List.mem_append_right _ (List.mem_singleton.mpr z)
        · rw [decide_eq_false hm]
          exact iteF ⟨_, _, _, _, us, rfl, ⟨s6, b6, ed6, ah6, cov6⟩, fun q hq h => ((mem1 q).mp h).elim (cx q hq) fun e => absurd (e ▸ hq) hm⟩
      · obtain ⟨y7, y8, y9, y10, us, rfl, ⟨s6, b6, ed6, ah6, cov6⟩, cx⟩ := h
        rw [List.length_map, List.take_of_length_le (Nat.le_refl _)] at cx
        refine ⟨_, _, _, _, _, us, rfl, s6, b6, ed6, ah6, fun m hm k k1 kn' w => ?_⟩
        by_cases z : k = n + 1
        · rw [z] at w; exact cx m hm ((z6' m).mpr w)
        · exact cov6 m hm k k1 (by omega) w
    · rintro σ H5 ⟨y6, y7, y8, y9, y10, us, rfl, s5, b5, ed5, ah5, cov5⟩
      have all5 : ∀ m ∈ p, m ∈ us.map (·.1) := fun m hm => by
        obtain ⟨t, wt⟩ := kn.out m hm
        obtain ⟨k, hk, wk⟩ := wk_short hP (bp x0 kn.x_in) wt
        rcases Nat.eq_zero_or_pos k with rfl | k1
        · rw [← wk.zero]; exact ah5.st
        · exact cov5 m hm k k1 (show k < 70 by omega) wk
      have getc : ∀ {H' : Hp} {m : Int}, Same H5 H' → m ∈ p → DGet H' d (.int m) (some (.int ((clsN ps x0 D m : Nat) : Int))) := fun {H' m} s' hm => by
        rw [← ah5.get (all5 m hm)]
        exact DGet.k (k := Sum.inl m) (s' _ _ ed5)
      have hL5 : ∀ {n : Nat} {t : Addr}, ts[n]? = some t → Tab K H5 t ns.length (lk (behindOf ps) n) := fun {n t} gt => by
        obtain ⟨as, h1, h2, h3⟩ := hts n t gt
        have sqd : ∀ {b : Addr} {xs : List V}, SqT K H4 b xs → SqT K H5 b xs := fun {b xs} h => by
          rcases h with (h | ⟨o, h⟩) | h
          · exact .inl (.inl (b5 _ _ h fun z => by rw [z, ed4] at h; cases h))
          · exact .inl (.inr ⟨o, b5 _ _ h fun z => by rw [z, ed4] at h; cases h⟩)
          · exact .inr h
        exact ⟨as, sqd h1, h2, fun i c e => (h3 i c e).imp fun xs q => ⟨sqd q.1, q.2⟩⟩
      have eL5 := b5 _ _ eL4 nLd
      clear hL4 hts cov5
      refine ⟨1, 121, rfl, ⟨by decide, by decide, by decide, by decide⟩, ?_⟩
      refine for_range (lo := 1) (n := _) (fun i σ H' => ∃ (y6 y7 y8 y9 y10 : Option V) (f : Nat), σ = [some (.ref R), some (.ref a), some (.ref L), some (.int (D : Int)), some (.int (f : Int)), some (.ref d), y6, y7, y8, y9, y10] ∧ Same H5 H' ∧ Fd ps p x0 D i f)
        ⟨_, _, _, _, _, 1, rfl, Same.refl _, Nat.le_refl _, by omega, fun n n1 ni => by omega, .inl rfl⟩ ?_ ?_
      · rintro i σ H6 hi ⟨y6, y7, y8, y9, y10, f, rfl, s6, fd⟩
        have hi : i < 120 := hi
        have e0 : (1 + ((i : Nat) : Int)) = ((i + 1 : Nat) : Int) := by omega
        rw [e0]
        let Ok : Int → Prop := fun x => ∀ y ∈ p, clsN ps x0 D y = (clsN ps x0 D x + (i + 1)) % D → Wk ps (i + 1) x y
        refine ⟨.ref a, rfl, a, rfl, ⟨_, sqT_same (s5.trans s6) hA⟩, ?_⟩
        refine for_tup (K := K) (a := a) (xs := p.map V.int) (fun l σ H' => ∃ (y7 y8 y9 y10 : Option V) (f' : Nat), σ = [some (.ref R), some (.ref a), some (.ref L), some (.int (D : Int)), some (.int (f' : Int)), some (.ref d), some (.int ((i + 1 : Nat) : Int)), y7, y8, y9, y10] ∧ Same H5 H' ∧ ((f' = f ∧ ∀ x ∈ p.take l, Ok x) ∨ (f' = i + 2 ∧ ∃ x ∈ p, ¬ Ok x)))
          ⟨_, _, _, _, f, rfl, s6, .inl ⟨rfl, fun x h => by cases h⟩⟩ (fun l σ H' _ h => ?_) (fun l v σ H7 hv h => ?_) (fun σ H7 h => ?_)
        · obtain ⟨_, _, _, _, _, _, s', _⟩ := h
          exact sqT_same (s5.trans s') hA
        · obtain ⟨y7, y8, y9, y10, f', rfl, s7, hf⟩ := h
          obtain ⟨x, gx, rfl⟩ := map_at hv
          have hx := List.mem_of_getElem? gx
          have bx := bp x hx
          have takeOk : ((f' = f ∧ ∀ x ∈ p.take l, Ok x) ∨ (f' = i + 2 ∧ ∃ x ∈ p, ¬ Ok x)) → Ok x → ((f' = f ∧ ∀ x ∈ p.take (l + 1), Ok x) ∨ (f' = i + 2 ∧ ∃ x ∈ p, ¬ Ok x)) := fun h ox => h.imp (fun ⟨e, a⟩ => ⟨e, fun z hz => by
            rw [List.take_add_one, gx] at hz
            rcases List.mem_append.mp hz with y | y
            · exact a z y
            · rw [List.mem_singleton.mp y]; exact ox⟩) id
          obtain ⟨t, gt⟩ : ∃ t, ts[i + 1]? = some t := ⟨_, List.getElem?_eq_getElem (by omega)⟩
          -- the marks wanted
          refine ⟨.ref a, rfl, a, rfl, ⟨_, sqT_same (s5.trans s7) hA⟩, fun Dw nD => ?_⟩
          let cw : Int → Bool := fun y => decide (clsN ps x0 D y = (clsN ps x0 D x + (i + 1)) % D)
          refine lc_tup (K := K) (a := a) (xs := p.map V.int) (fun j H' => Same H7 H' ∧ H' Dw = some (.lst (((p.take j).filter cw).map V.int))) ⟨same_upd nD, upd_same⟩ (fun j H' _ h => sqT_same (s5.trans (s7.trans h.1)) hA) (fun j v H8 hv h => ?_) fun H8 h => ?_
          · obtain ⟨s8, eD⟩ := h
            obtain ⟨y, gy, rfl⟩ := map_at hv
            have hy := List.mem_of_getElem? gy
            have s78 := s7.trans s8
            refine ⟨by simp [wipe, List.set_set], .ref d, rfl, .int y, rfl, d, _, rfl, getc s78 hy, .ref d, rfl, .int x, rfl, d, _, rfl, getc s78 hx, _, _, rfl, rfl, .int ((i + 1 : Nat) : Int), rfl, _, _, rfl, rfl, .int (D : Int), rfl, _, _, rfl, rfl, (show (0 : Int) < D by omega), rfl, _, rfl, ?_⟩
            have ecw : decide (V.int ((((clsN ps x0 D y : Nat) : Int) - ((clsN ps x0 D x : Nat) : Int) - ((i + 1 : Nat) : Int)) % (D : Int)) = V.int 0) = cw y := by
              rw [decV]
              refine decide_eq_decide.mpr ?_
              have cy : clsN ps x0 D y < D := by
                obtain ⟨tt, wt⟩ := kn.out y hy
                rw [← per.cls wt (kn.back y hy)]; exact Nat.mod_lt _ (by omega)
              have ey : ((clsN ps x0 D y : Nat) : Int) % (D : Int) = ((clsN ps x0 D y : Nat) : Int) := Int.emod_eq_of_lt (by omega) (by omega)
              rw [show ((clsN ps x0 D y : Nat) : Int) - ((clsN ps x0 D x : Nat) : Int) - ((i + 1 : Nat) : Int) = ((clsN ps x0 D y : Nat) : Int) - ((clsN ps x0 D x + (i + 1) : Nat) : Int) by omega, ← Int.emod_eq_emod_iff_emod_sub_eq_zero, ey, ← Int.natCast_emod]
              omega
            rw [ecw]
            have tf := take_filt (c := cw) gy
            cases hb : cw y with
            | true =>
              refine iteT ⟨.int y, rfl, _, eD, by rw [List.length_map]; exact few1 (Nat.le_trans (List.length_filter_le _ _) (by rw [List.length_take]; omega)), fun b o z => by rw [upd_ne (ne_of_none z nD)]; exact s8 b o z, ?_⟩
              rw [upd_same, tf, hb, if_pos rfl, List.map_append]; rfl
            | false =>
              refine iteF ⟨s8, ?_⟩
              rw [tf, hb, if_neg (by decide), List.append_nil]; exact eD
          · obtain ⟨s8, eD⟩ := h
            rw [List.length_map, List.take_of_length_le (Nat.le_refl _)] at eD
            have s78 := s7.trans s8
            have lfw : (p.filter cw).length ≤ 8 := Nat.le_trans (List.length_filter_le _ _) lp
            refine ⟨.ref Dw, rfl, Dw, rfl, ⟨_, lstNew eD⟩, fun D2 nD2 => ?_⟩
            refine lc_list (K := K) (a := Dw) (xs := (p.filter cw).map V.int) (fun j H' => Same H8 H' ∧ H' D2 = some (.lst ((((p.filter cw).take j).map fun y => pB (Wk ps (i + 1) x y)).map V.bl))) ⟨same_upd nD2, upd_same⟩ (fun j H' _ h => lstNew (h.1 _ _ eD)) (fun j v H9 hv h => ?_) fun H9 h => ?_
            · obtain ⟨s9, eD2⟩ := h
              obtain ⟨y, gy, rfl⟩ := map_at hv
              have hj := (List.getElem?_eq_some_iff.mp gy).1
              have s79 := s78.trans s9
              obtain ⟨vs, cc, xs, z1, z2, z3, z4, z5, z6⟩ := ((hL5 gt).same s79).at bx.1 bx.2
              refine ⟨by simp [wipe, List.set_set], tt_yes ⟨.int y, rfl, .ref L, rfl, .int ((i + 1 : Nat) : Int), rfl, L, _, ((i + 1 : Nat) : Int), .ref t, rfl, rfl, lstNew (s79 _ _ eL5), atI_nat (by rw [List.getElem?_map, gt]; rfl), .int x, rfl, t, vs, x, .ref cc, rfl, rfl, z1, z2, cc, y, xs, rfl, rfl, z3, ?_⟩⟩
              rw [pB_eq (b := decide (y ∈ xs)) (p := Wk ps (i + 1) x y) (decide_eq_true_iff.trans ((z6 y).trans ⟨lk_wk hP, wk_lk hP⟩))]
              refine ⟨_, eD2, by rw [List.length_map, List.length_map, List.length_take]; exact few1 (by omega), fun b o z => by rw [upd_ne (ne_of_none z nD2)]; exact s9 b o z, ?_⟩
              rw [upd_same, List.take_add_one, gy, List.map_append, List.map_append]; rfl
            · obtain ⟨s9, eD2⟩ := h
              rw [List.length_map, List.take_of_length_le (Nat.le_refl _)] at eD2
              refine ⟨D2, _, rfl, lstNew eD2, ?_⟩
              have eall : (((p.filter cw).map fun y => pB (Wk ps (i + 1) x y)).all id) = true ↔ Ok x := by
                rw [List.all_map, List.all_eq_true]
                constructor
                · exact fun h y hy e => pB_iff.mp (h y (List.mem_filter.mpr ⟨hy, decide_eq_true e⟩))
                · intro h y hy
                  obtain ⟨h1, h2⟩ := List.mem_filter.mp hy
                  exact pB_iff.mpr (h y h1 (of_decide_eq_true h2))
              refine ⟨_, rfl, ?_⟩
              have s59 := s7.trans (s8.trans s9)
              cases hb : (((p.filter cw).map fun y => pB (Wk ps (i + 1) x y)).all id) with
              | true => exact iteF ⟨_, _, _, _, f', rfl, s59, takeOk hf (eall.mp hb)⟩
              | false =>
                refine iteT ⟨.int ((i + 1 : Nat) : Int), rfl, _, _, rfl, rfl, ?_⟩
                show gName 4 (V.int (((i + 1 : Nat) : Int) + 1)) _ _ _
                rw [show ((i + 1 : Nat) : Int) + 1 = ((i + 2 : Nat) : Int) by omega]
                exact ⟨_, _, _, _, i + 2, rfl, s59, .inr ⟨rfl, x, hx, fun z => by have := eall.mpr z; rw [hb] at this; cases this⟩⟩
        · obtain ⟨y7, y8, y9, y10, f', rfl, s7, hf⟩ := h
          rw [List.length_map, List.take_of_length_le (Nat.le_refl _)] at hf
          refine ⟨_, _, _, _, _, f', rfl, s7, ?_⟩
          rcases hf with ⟨rfl, all⟩ | ⟨rfl, x, hx, no⟩
          · refine ⟨fd.f1, by have := fd.fi; omega, fun n n1 ni fn => ?_, fd.no⟩
            by_cases z : n = i + 1
            · subst z; exact fun x hx y hy e => all x hx y hy e
            · exact fd.ev n n1 (by omega) fn
          · exact ⟨by omega, by omega, fun n n1 ni fn => by omega, .inr fun e => no fun y hy ec => e x hx y hy ec⟩
      · rintro σ H6 ⟨y6, y7, y8, y9, y10, f, rfl, s6, fd⟩
        have fd : Fd ps p x0 D 120 f := fd
        rw [ex0, eg] at fd
        have h42 : ns.length * (ns.length + 1) ≤ 72 := Nat.mul_le_mul h8 (show ns.length + 1 ≤ 9 by omega)
        refine ⟨.int (f : Int), rfl, q H6 f (s5.trans s6) (fd_span hP (by rw [← ex0]; exact kn) (by rw [← eg, ← ex0]; exact per) bp rp fd (by omega)) fd.fi⟩
end
end K20
set_option maxHeartbeats 4000000
/-! rules at hand: walks, parts, periods, reckoned -/
namespace K20
open PySem PySem.Spec PyProof.Rows L2 RV
instance lkDec (bh : Int → List Int) : ∀ (n : Nat) (a b : Int), Decidable (lk bh n a b)
  | 0, a, b => inferInstanceAs (Decidable (a = b))
  | n + 1, a, b => by
    have := lkDec bh n
    exact inferInstanceAs (Decidable (∃ c, c ∈ bh a ∧ lk bh n c b))
theorem rch_in {ps : List (List Int)} {S : List Int} {x y : Int} (c1 : ∀ b, [x, b] ∈ ps → b ∈ S) (c2 : ∀ a ∈ S, ∀ b, [a, b] ∈ ps → b ∈ S) (h : Rch ps x y) : y ∈ S := by
  induction h with
  | one e => exact c1 _ e
  | more _ e ih => exact c2 _ ih _ e
def tabOk (ps : List (List Int)) (N : Nat) (tab : List (List Int)) : Bool := (List.range N).all fun i => (behindOf ps (i : Int)).all (fun b => decide (b ∈ tab.getD i [])) && (tab.getD i []).all (fun a => (behindOf ps a).all fun b => decide (b ∈ tab.getD i [])) && (tab.getD i []).all fun y => (List.range 9).any fun k => decide (lk (behindOf ps) (k + 1) (i : Int) y)
theorem tab_rch {ps : List (List Int)} {N : Nat} {tab : List (List Int)} (hP : ∀ q ∈ ps, Pr (N : Int) q) (h : tabOk ps N tab = true) {x y : Int} (h0 : 0 ≤ x) (h1 : x < (N : Int)) : Rch ps x y ↔ y ∈ tab.getD x.toNat [] := by
  unfold tabOk at h
  rw [List.all_eq_true] at h
  have z := h x.toNat (List.mem_range.mpr (by omega))
  rw [show ((x.toNat : Nat) : Int) = x by omega, Bool.and_eq_true, Bool.and_eq_true, List.all_eq_true, List.all_eq_true, List.all_eq_true] at z
  obtain ⟨⟨z1, z2⟩, z3⟩ := z
  constructor
  · intro r
    refine rch_in (fun b e => of_decide_eq_true (z1 b ((mem_behind hP).mpr e))) (fun a ha b e => ?_) r
    have w := z2 a ha
    rw [List.all_eq_true] at w
    exact of_decide_eq_true (w b ((mem_behind hP).mpr e))
  · intro hy
    have w := z3 y hy
    rw [List.any_eq_true] at w
    obtain ⟨k, _, hk⟩ := w
    exact (lk_wk hP (of_decide_eq_true hk)).lead
def lotT (N : Nat) (tab : List (List Int)) (m : Int) : List Int := (upN N).filter fun j => decide (j ∈ tab.getD m.toNat []) && decide (m ∈ tab.getD j.toNat [])
def partsT (N : Nat) (tab : List (List Int)) : List (List Int) := ((upN N).filter fun m => decide ((lotT N tab m).head? = some m)).map (lotT N tab)
theorem parts_tab {ps : List (List Int)} {N : Nat} {tab : List (List Int)} (hP : ∀ q ∈ ps, Pr (N : Int) q) (h : tabOk ps N tab = true) : partsOf ps N = partsT N tab := by
  have lot : ∀ m ∈ upN N, lotOf ps N m = lotT N tab m := fun m hm => by
    have b := mem_upN.mp hm
    unfold lotOf lotT
    refine List.filter_congr fun j hj => ?_
    have c := mem_upN.mp hj
    rw [Bool.eq_iff_iff, Bool.and_eq_true, Bool.and_eq_true, rB_iff, rB_iff, decide_eq_true_iff, decide_eq_true_iff, tab_rch hP h b.1 b.2, tab_rch hP h c.1 c.2]
  unfold partsOf partsT
  have e : (upN N).filter (isHead ps N) = (upN N).filter fun m => decide ((lotT N tab m).head? = some m) := List.filter_congr fun m hm => by
    unfold isHead
    rw [lot m hm]
  rw [e]
  exact List.map_congr_left fun m hm => lot m (List.mem_filter.mp hm).1
/-! ### rules, checked -/
def mirOk (ns : List Int) : Bool := decide (0 < ns.length) && decide (ns.length ≤ 8) && (List.range ns.length).all fun k => decide (0 ≤ ns.getD k 0 ∧ ns.getD k 0 < (ns.length : Int)) && decide (ns[(ns.getD k 0).toNat]? = some (k : Int))
theorem mir_ok {ns : List Int} (h : mirOk ns = true) : Mir ns := by
  unfold mirOk at h
  rw [Bool.and_eq_true, Bool.and_eq_true, List.all_eq_true] at h
  obtain ⟨⟨h1, h2⟩, h3⟩ := h
  have at_ : ∀ (k : Nat) (m : Int), ns[k]? = some m → (0 ≤ m ∧ m < (ns.length : Int)) ∧ ns[m.toNat]? = some (k : Int) := fun k m g => by
    have hk := (List.getElem?_eq_some_iff.mp g).1
    have z := h3 k (List.mem_range.mpr hk)
    have e : ns.getD k 0 = m := by rw [List.getD_eq_getElem?_getD, g]; rfl
    rw [e, Bool.and_eq_true] at z
    exact ⟨of_decide_eq_true z.1, of_decide_eq_true z.2⟩
  exact ⟨of_decide_eq_true h1, of_decide_eq_true h2, fun i hi => by obtain ⟨k, gk⟩ := List.mem_iff_getElem?.mp hi; exact (at_ k i gk).1, fun k m g => (at_ k m g).2⟩
def stOk (ns : List Int) (ps : List (List Int)) : List Int → Bool
  | [x, y] => decide (0 ≤ x ∧ x < (ns.length : Int)) && decide (0 ≤ y ∧ y < (ns.length : Int)) && decide ([mirI ns y, mirI ns x] ∈ ps)
  | _ => false
def stpOk (ns : List Int) (ps : List (List Int)) : Bool := decide (ps.length ≤ 64) && ps.all (stOk ns ps) && ((List.range ps.length).all fun i => decide (ps.length ≤ i + 1) || HT.lexLt (ps.getD i []) (ps.getD (i + 1) [])) && decide ps.Nodup
theorem stp_ok {ns : List Int} {ps : List (List Int)} (h : stpOk ns ps = true) : Stp ns ps := by
  unfold stpOk at h
  rw [Bool.and_eq_true, Bool.and_eq_true, Bool.and_eq_true, List.all_eq_true, List.all_eq_true] at h
  obtain ⟨⟨⟨h1, h2⟩, h3⟩, h4⟩ := h
  have st : ∀ p ∈ ps, ∃ x y : Int, p = [x, y] ∧ (0 ≤ x ∧ x < (ns.length : Int)) ∧ (0 ≤ y ∧ y < (ns.length : Int)) ∧ [mirI ns y, mirI ns x] ∈ ps := fun p hp => by
    have z := h2 p hp
    match p, z with
    | [x, y], z =>
      rw [stOk, Bool.and_eq_true, Bool.and_eq_true] at z
      exact ⟨x, y, rfl, of_decide_eq_true z.1.1, of_decide_eq_true z.1.2, of_decide_eq_true z.2⟩
  refine ⟨of_decide_eq_true h1, fun p hp => ?_, fun i p q gi gj => ?_, fun x y mx my h gx gy => ?_, of_decide_eq_true h4⟩
  · obtain ⟨x, y, e, a, b, _⟩ := st p hp
    exact ⟨x, y, e, a, b⟩
  · have hi := (List.getElem?_eq_some_iff.mp gi).1
    have hj := (List.getElem?_eq_some_iff.mp gj).1
    have z := h3 i (List.mem_range.mpr hi)
    rw [Bool.or_eq_true] at z
    have e1 : ps.getD i [] = p := by rw [List.getD_eq_getElem?_getD, gi]; rfl
    have e2 : ps.getD (i + 1) [] = q := by rw [List.getD_eq_getElem?_getD, gj]; rfl
    rw [e1, e2] at z
    exact z.resolve_left fun w => by have := of_decide_eq_true w; omega
  · obtain ⟨u, v, e, _, _, m⟩ := st _ h
    have e1 : x = u := by injection e
    have e2 : y = v := by injection e with _ e; injection e
    subst e1 e2
    rwa [mirI_at gx, mirI_at gy] at m
/-! ### walks -/
section
variable {ps : List (List Int)} {x : Int}
theorem wk_one (w : Wk ps 1 x x) : ∀ n, Wk ps n x x
  | 0 => .nil x
  | n + 1 => (wk_one w n).trans w
theorem wk_even (w : Wk ps 2 x x) : ∀ n, Wk ps (2 * n) x x
  | 0 => .nil x
  | n + 1 => (wk_even w n).trans w
theorem wk_23 (w : Wk ps 2 x x) (w3 : Wk ps 3 x x) {n : Nat} (h : 2 ≤ n) : Wk ps n x x := by
  by_cases e : n % 2 = 0
  · have z := wk_even w (n / 2)
    rwa [show 2 * (n / 2) = n by omega] at z
  · have z := (wk_even w ((n - 3) / 2)).trans w3
    rwa [show 2 * ((n - 3) / 2) + 3 = n by omega] at z
theorem wk_par (st : ∀ a b : Int, [a, b] ∈ ps → (b - a - 1) % 2 = 0) {n : Nat} {a b : Int} (w : Wk ps n a b) : (b - a - (n : Int)) % 2 = 0 := by
  induction w with
  | nil i => omega
  | more _ e ih => have := st _ _ e; omega
theorem per_one {a b : Nat} (wa : Wk ps a x x) (wb : Wk ps b x x) (la : a ≤ 24) (lb : b ≤ 24) (g : Nat.gcd a b = 1) : perN ps x = 1 :=
  Per.is ⟨fun n _ => Nat.one_dvd n, fun d h => by rw [← g]; exact Nat.dvd_gcd (h a la wa) (h b lb wb)⟩
theorem per_two (st : ∀ a b : Int, [a, b] ∈ ps → (b - a - 1) % 2 = 0) (w : Wk ps 2 x x) : perN ps x = 2 :=
  Per.is ⟨fun n w => by have := wk_par st w; omega, fun d h => h 2 (by decide) w⟩
end
end K20
set_option maxHeartbeats 4000000
/-! tuples and rules that are written out, as functions of the data -/
namespace K20
open PySem PySem.Spec PyProof.Rows L2 RV
theorem two_le : (2 : Nat) ≤ sizeLine := by decide
def tPr : List (List Int) → TA
  | [] => tNil
  | q :: r => tCons (tTup (tCons (tC (.int (q.getD 0 0))) (tCons (tC (.int (q.getD 1 0))) tNil))) (tPr r)
theorem use_prs : ∀ (ps : List (List Int)) {σ : L2.St} {H : Hp} {Q : List V → Hp → Prop}, (∀ q ∈ ps, ∃ x y : Int, q = [x, y]) → (∀ (H' : Hp) (ks : List (Addr × List Int)), Same H H' → ks.map (·.2) = ps → (∀ k ∈ ks, H' k.1 = some (.tup (k.2.map V.int))) → Q (ks.map fun k => V.ref k.1) H') → tPr ps σ H Q
  | [], σ, H, Q, _, h => h H [] (Same.refl H) rfl fun _ z => by cases z
  | q :: r, σ, H, Q, hp, h => by
    obtain ⟨x, y, rfl⟩ := hp q List.mem_cons_self
    refine ⟨two_le, fun T nT => ?_⟩
    have sT := same_upd (o := .tup [.int x, .int y]) nT
    refine use_prs r (fun q hq => hp q (List.mem_cons_of_mem _ hq)) fun H' ks s e hk => ?_
    refine h H' ((T, [x, y]) :: ks) (sT.trans s) (by rw [List.map_cons, e]) fun k hk' => ?_
    rcases List.mem_cons.mp hk' with z | z
    · rw [z]; exact s _ _ upd_same
    · exact hk k z
theorem use_tt (ps : List (List Int)) {σ : L2.St} {H : Hp} {Q : VK} (few : ps.length ≤ 64) (hp : ∀ q ∈ ps, ∃ x y : Int, q = [x, y]) (h : ∀ (H' : Hp) (c : Addr), Same H H' → TupsH H' c ps → Q (.ref c) H') : tTup (tPr ps) σ H Q := by
  refine use_prs ps hp fun H1 ks s1 e hk => ⟨?_, fun c nc => ?_⟩
  · rw [List.length_map, show ks.length = ps.length by rw [← e, List.length_map]]
    exact Nat.le_of_lt (few1 (by omega))
  · have sc := same_upd (o := .tup (ks.map fun k => V.ref k.1)) nc
    exact h _ c (s1.trans sc) ⟨ks, e, upd_same, fun k hk' => sc _ _ (hk k hk')⟩
theorem cons_te {te : TE} {tr : TA} {σ : L2.St} {H : Hp} {Q : List V → Hp → Prop} (h : te σ H fun x H1 => tr σ H1 fun xs H2 => Q (x :: xs) H2) : tCons te tr σ H Q := h
theorem pr_all {ns : List Int} {ps : List (List Int)} (S : Stp ns ps) : ∀ q ∈ ps, ∃ x y : Int, q = [x, y] := fun q hq => by
  obtain ⟨x, y, e, _⟩ := S.pair q hq
  exact ⟨x, y, e⟩
theorem next_te {D : Ends} {σ : L2.St} {H : Hp} (h : D.nx σ H) : tNext D σ H := h
theorem seq_asg {te : TE} {g : TG} {t2 : TS} {D : Ends} {σ : L2.St} {H : Hp} (h : te σ H fun x H1 => g x σ H1 fun σ2 H2 => t2 D σ2 H2) : tSeq (tAsg te g) t2 D σ H := h
theorem seq_par {i j : Nat} {ta : TA} {t2 : TS} {D : Ends} {σ : L2.St} {H : Hp} (h : ta σ H fun vs H1 => ∃ x y, vs = [x, y] ∧ t2 D ((σ.set i (some x)).set j (some y)) H1) : tSeq (tPar i j ta) t2 D σ H := h
/-- numbers as they are written -/
def tIs : List Int → TA
  | [] => tNil
  | n :: r => tCons (tC (.int n)) (tIs r)
theorem use_is : ∀ (ns : List Int) {σ : L2.St} {H : Hp} {Q : List V → Hp → Prop}, Q (ns.map V.int) H → tIs ns σ H Q
  | [], σ, H, Q, h => h
  | n :: r, σ, H, Q, h => use_is r (Q := fun xs H2 => Q (.int n :: xs) H2) h
theorem use_ti (ns : List Int) {σ : L2.St} {H : Hp} {Q : VK} (few : ns.length ≤ 64) (h : ∀ u : Addr, H u = none → Q (.ref u) (upd H u (.tup (ns.map V.int)))) : tTup (tIs ns) σ H Q :=
  use_is ns ⟨by rw [List.length_map]; exact Nat.le_of_lt (few1 (by omega)), h⟩
theorem use_make {K : PySem.W.Frag} {C : Addr} (ns : List Int) (ps : List (List Int)) (M : Mir ns) (S : Stp ns ps) {σ : L2.St} {H : Hp} {Q : VK} (h : ∀ (H' : Hp) (r : Addr), Same H H' → RuleAt K C H' r ns ps → Q (.ref r) H') : tMake C (spInit K C) [] E0 (tCons (tTup (tIs ns)) (tCons (tTup (tPr ps)) tNil)) σ H Q := by
  unfold tMake
  refine cons_te ?_
  refine use_ti ns (by have := M.few; omega) fun u nu => ?_
  refine cons_te ?_
  have su := same_upd (o := .tup (ns.map V.int)) nu
  refine use_tt ps S.few (pr_all S) fun H1 c s1 hc => fun x dx nx nd ne => ?_
  exact make_rule (tupNew (s1 _ _ upd_same)) hc.tups M S nx nd ne fun H' s' R => h H' x (su.trans (s1.trans s')) R
theorem use_make2 {K : PySem.W.Frag} {C : Addr} (ns : List Int) (ps : List (List Int)) {c : Addr} {i : Nat} {σ : L2.St} (hi : ∀ (R : VK) (H' : Hp), R (.ref c) H' → tVar i σ H' R) (M : Mir ns) (S : Stp ns ps) {H : Hp} {Q : VK} (hc : TupsH H c ps) (h : ∀ (H' : Hp) (r : Addr), Same H H' → RuleAt K C H' r ns ps → Q (.ref r) H') : tMake C (spInit K C) [] E0 (tCons (tTup (tIs ns)) (tCons (tVar i) tNil)) σ H Q := by
  unfold tMake
  refine cons_te ?_
  refine use_ti ns (by have := M.few; omega) fun u nu => ?_
  have su := same_upd (o := .tup (ns.map V.int)) nu
  refine cons_te ?_
  refine hi _ _ fun x dx nx nd ne => ?_
  obtain ⟨ks, k1, k2, k3⟩ := hc
  have hc' : TupsH (upd H u (.tup (ns.map V.int))) c ps := ⟨ks, k1, su _ _ k2, fun k hk => su _ _ (k3 k hk)⟩
  exact make_rule (tupNew upd_same) hc'.tups M S nx nd ne fun H' s' R => h H' x (su.trans s') R
end K20
set_option maxHeartbeats 4000000
namespace K20
open PySem PySem.Spec PyProof.Rows L2 RV
/-! ### spans by hand -/
section
variable {ps : List (List Int)} {N : Nat} {p : List Int} {T g : Nat}
theorem span_hand (hP : ∀ q ∈ ps, Pr (N : Int) q) (kn : Knot ps p (hd0 p)) (per : Per ps (hd0 p) (perN ps (hd0 p))) (rp : ∀ y ∈ p, Rch ps y y) (T1 : 1 ≤ T) (ev : Ev ps p (hd0 p) (perN ps (hd0 p)) T) (no : T = 1 ∨ ¬ Ev ps p (hd0 p) (perN ps (hd0 p)) (T - 1)) : SpanIs ps p T := by
  refine ⟨T1, ev, fun m m1 mT e => ?_⟩
  rcases no with z | z
  · omega
  · refine z ?_
    have e2 : T - 1 = m + (T - 1 - m) := by omega
    rw [e2]; exact ev_up kn per rp e _
/-- all marks lead to all ones by n steps -/
def allLk (ps : List (List Int)) (p : List Int) (n : Nat) : Bool := p.all fun x => p.all fun y => decide (lk (behindOf ps) n x y)
theorem ev_all (hP : ∀ q ∈ ps, Pr (N : Int) q) {x0 : Int} (h : allLk ps p T = true) : Ev ps p x0 g T := fun x hx y hy _ => by
  unfold allLk at h
  rw [List.all_eq_true] at h
  have z := h x hx
  rw [List.all_eq_true] at z
  exact lk_wk hP (of_decide_eq_true (z y hy))
theorem no_one (hP : ∀ q ∈ ps, Pr (N : Int) q) {x0 x y : Int} {n : Nat} (hx : x ∈ p) (hy : y ∈ p) (h : ¬ lk (behindOf ps) n x y) : ¬ Ev ps p x0 1 n := fun e => h (wk_lk hP (e x hx y hy (by rw [Nat.mod_one]; exact Nat.lt_one_iff.mp (by unfold clsN; split; exact Nat.mod_lt _ (by decide); decide))))
end
section
variable {ps : List (List Int)} {N : Nat} {p : List Int} {x0 : Int}
/-- steps lead from even marks to odd ones and back -/
def altS (ps : List (List Int)) : Bool := ps.all fun q => decide ((q.getD 1 0 - q.getD 0 0 - 1) % 2 = 0)
theorem alt_st (h : altS ps = true) : ∀ a b : Int, [a, b] ∈ ps → (b - a - 1) % 2 = 0 := fun a b e => by
  unfold altS at h
  rw [List.all_eq_true] at h
  exact of_decide_eq_true (h _ e)
theorem alt_cls (st : ∀ a b : Int, [a, b] ∈ ps → (b - a - 1) % 2 = 0) (kn : Knot ps p x0) (per : Per ps x0 2) {x : Int} (hx : x ∈ p) : ((clsN ps x0 2 x : Nat) : Int) % 2 = (x - x0) % 2 ∧ clsN ps x0 2 x < 2 := by
  obtain ⟨t, wt⟩ := kn.out x hx
  have e := per.cls wt (kn.back x hx)
  have z := wk_par st wt
  rw [← e]
  exact ⟨by omega, Nat.mod_lt _ (by decide)⟩
/-- to all marks whose parity lets -/
def parLk (ps : List (List Int)) (p : List Int) (n : Nat) : Bool := p.all fun x => p.all fun y => !decide ((y - x - (n : Int)) % 2 = 0) || decide (lk (behindOf ps) n x y)
theorem ev_par (hP : ∀ q ∈ ps, Pr (N : Int) q) (st : ∀ a b : Int, [a, b] ∈ ps → (b - a - 1) % 2 = 0) (kn : Knot ps p x0) (per : Per ps x0 2) {n : Nat} (h : parLk ps p n = true) : Ev ps p x0 2 n := fun x hx y hy e => by
  unfold parLk at h
  rw [List.all_eq_true] at h
  have z := h x hx
  rw [List.all_eq_true] at z
  have z := z y hy
  obtain ⟨c1, c2⟩ := alt_cls st kn per hx
  obtain ⟨d1, d2⟩ := alt_cls st kn per hy
  rw [Bool.or_eq_true] at z
  rcases z with z | z
  · exfalso
    rw [Bool.not_eq_true', decide_eq_false_iff_not] at z
    omega
  · exact lk_wk hP (of_decide_eq_true z)
theorem no_par (hP : ∀ q ∈ ps, Pr (N : Int) q) (st : ∀ a b : Int, [a, b] ∈ ps → (b - a - 1) % 2 = 0) (kn : Knot ps p x0) (per : Per ps x0 2) {n : Nat} {x y : Int} (hx : x ∈ p) (hy : y ∈ p) (e : (y - x - (n : Int)) % 2 = 0) (h : ¬ lk (behindOf ps) n x y) : ¬ Ev ps p x0 2 n := fun ev => h (wk_lk hP (ev x hx y hy (by
  obtain ⟨c1, c2⟩ := alt_cls st kn per hx
  obtain ⟨d1, d2⟩ := alt_cls st kn per hy
  omega)))
end
/-- the span of a part, looked up -/
theorem span_one {ns : List Int} {ps : List (List Int)} {p : List Int} {a b T : Nat} {x y : Int} (M : Mir ns) (S : Stp ns ps) (hp : p ∈ partsOf ps ns.length) (wa : lk (behindOf ps) a (hd0 p) (hd0 p)) (wb : lk (behindOf ps) b (hd0 p) (hd0 p)) (la : a ≤ 24) (lb : b ≤ 24) (g : Nat.gcd a b = 1) (T1 : 1 ≤ T) (h : allLk ps p T = true) (no : T = 1 ∨ (x ∈ p ∧ y ∈ p ∧ ¬ lk (behindOf ps) (T - 1) x y)) : SpanIs ps p T := by
  have hP : ∀ q ∈ ps, Pr (ns.length : Int) q := fun q hq => S.pair q hq
  have kn := knot_of hP hp
  have rp : ∀ y ∈ p, Rch ps y y := fun y hy => lot_some (n := ns.length) (by rw [part_lot hp hy]; exact hy)
  have per := per_ex hP M.few (rp _ kn.x_in)
  have e1 : perN ps (hd0 p) = 1 := per_one (lk_wk hP wa) (lk_wk hP wb) la lb g
  refine span_hand hP kn per rp T1 (ev_all hP h) (no.imp id fun ⟨hx, hy, z⟩ => ?_)
  rw [e1]; exact no_one hP hx hy z
theorem span_two {ns : List Int} {ps : List (List Int)} {p : List Int} {T : Nat} {x y : Int} (M : Mir ns) (S : Stp ns ps) (hp : p ∈ partsOf ps ns.length) (st : altS ps = true) (w2 : lk (behindOf ps) 2 (hd0 p) (hd0 p)) (T1 : 1 ≤ T) (h : parLk ps p T = true) (no : T = 1 ∨ (x ∈ p ∧ y ∈ p ∧ (y - x - ((T - 1 : Nat) : Int)) % 2 = 0 ∧ ¬ lk (behindOf ps) (T - 1) x y)) : SpanIs ps p T := by
  have hP : ∀ q ∈ ps, Pr (ns.length : Int) q := fun q hq => S.pair q hq
  have kn := knot_of hP hp
  have rp : ∀ y ∈ p, Rch ps y y := fun y hy => lot_some (n := ns.length) (by rw [part_lot hp hy]; exact hy)
  have per := per_ex hP M.few (rp _ kn.x_in)
  have e1 : perN ps (hd0 p) = 2 := per_two (alt_st st) (lk_wk hP w2)
  have per2 := per
  rw [e1] at per2
  refine span_hand hP kn per rp T1 (by rw [e1]; exact ev_par hP (alt_st st) kn per2 h) (no.imp id fun ⟨hx, hy, e, z⟩ => ?_)
  rw [e1]; exact no_par hP (alt_st st) kn per2 hx hy e z
abbrev rdM : List Int := [0, 7, 6, 5, 4, 3, 2, 1]
abbrev rdS : List (List Int) := [[0, 1], [1, 2], [2, 3], [3, 4], [4, 5], [5, 6], [6, 7], [7, 0], [7, 1]]
abbrev bwM : List Int := [4, 5, 6, 7, 0, 1, 2, 3]
abbrev bwS : List (List Int) := [[0, 1], [1, 2], [2, 3], [3, 0], [3, 1], [4, 7], [5, 4], [5, 7], [6, 5], [7, 6]]
abbrev loS : List (List Int) := [[0, 0]]
abbrev arM : List Int := [2, 3, 0, 1]
abbrev arS : List (List Int) := [[0, 1], [1, 0], [2, 3], [3, 2]]
abbrev rwM : List Int := [0, 1, 2, 3]
abbrev rwS : List (List Int) := [[0, 1], [1, 0], [1, 2], [2, 1], [2, 3], [3, 2]]
theorem rdMi : Mir rdM := mir_ok (by decide +kernel)
theorem bwMi : Mir bwM := mir_ok (by decide +kernel)
theorem loMi : Mir [0] := mir_ok (by decide +kernel)
theorem arMi : Mir arM := mir_ok (by decide +kernel)
theorem rwMi : Mir rwM := mir_ok (by decide +kernel)
theorem rdSt : Stp rdM rdS := stp_ok (by decide +kernel)
theorem bwSt : Stp bwM bwS := stp_ok (by decide +kernel)
theorem loSt : Stp [0] loS := stp_ok (by decide +kernel)
theorem arSt : Stp arM arS := stp_ok (by decide +kernel)
theorem rwSt : Stp rwM rwS := stp_ok (by decide +kernel)
theorem parts_by {ns : List Int} {ps : List (List Int)} {tab qs : List (List Int)} (S : Stp ns ps) (h : tabOk ps ns.length tab = true) (e : partsT ns.length tab = qs) : partsOf ps ns.length = qs := by
  rw [parts_tab (fun q hq => S.pair q hq) h, e]
abbrev all8 : List Int := [0, 1, 2, 3, 4, 5, 6, 7]
theorem rdP : partsOf rdS rdM.length = [all8] := parts_by (tab := [all8, all8, all8, all8, all8, all8, all8, all8]) rdSt (by decide +kernel) (by decide +kernel)
theorem bwP : partsOf bwS bwM.length = [[0, 1, 2, 3], [4, 5, 6, 7]] := parts_by (tab := [[0, 1, 2, 3], [0, 1, 2, 3], [0, 1, 2, 3], [0, 1, 2, 3], [4, 5, 6, 7], [4, 5, 6, 7], [4, 5, 6, 7], [4, 5, 6, 7]]) bwSt (by decide +kernel) (by decide +kernel)
theorem loP : partsOf loS ([0] : List Int).length = [[0]] := parts_by (tab := [[0]]) loSt (by decide +kernel) (by decide +kernel)
theorem arP : partsOf arS arM.length = [[0, 1], [2, 3]] := parts_by (tab := [[0, 1], [0, 1], [2, 3], [2, 3]]) arSt (by decide +kernel) (by decide +kernel)
theorem rwP : partsOf rwS rwM.length = [[0, 1, 2, 3]] := parts_by (tab := [[0, 1, 2, 3], [0, 1, 2, 3], [0, 1, 2, 3], [0, 1, 2, 3]]) rwSt (by decide +kernel) (by decide +kernel)
theorem rd50 : SpanIs rdS all8 50 := span_one (a := 8) (b := 15) (x := 0) (y := 0) rdMi rdSt (by rw [rdP]; simp) (by decide +kernel) (by decide +kernel) (by decide) (by decide) (by decide) (by decide) (by decide +kernel) (.inr ⟨by decide, by decide, by decide +kernel⟩)
theorem bw10 : SpanIs bwS [0, 1, 2, 3] 10 := span_one (a := 4) (b := 7) (x := 0) (y := 0) bwMi bwSt (by rw [bwP]; simp) (by decide +kernel) (by decide +kernel) (by decide) (by decide) (by decide) (by decide) (by decide +kernel) (.inr ⟨by decide, by decide, by decide +kernel⟩)
theorem bw10' : SpanIs bwS [4, 5, 6, 7] 10 := span_one (a := 4) (b := 7) (x := 4) (y := 4) bwMi bwSt (by rw [bwP]; simp) (by decide +kernel) (by decide +kernel) (by decide) (by decide) (by decide) (by decide) (by decide +kernel) (.inr ⟨by decide, by decide, by decide +kernel⟩)
theorem lo1 : SpanIs loS [0] 1 := span_one (a := 1) (b := 1) (x := 0) (y := 0) loMi loSt (by rw [loP]; simp) (by decide +kernel) (by decide +kernel) (by decide) (by decide) (by decide) (by decide) (by decide +kernel) (.inl rfl)
theorem ar1 : SpanIs arS [0, 1] 1 := span_two (x := 0) (y := 0) arMi arSt (by rw [arP]; simp) (by decide +kernel) (by decide +kernel) (by decide) (by decide +kernel) (.inl rfl)
theorem ar1' : SpanIs arS [2, 3] 1 := span_two (x := 0) (y := 0) arMi arSt (by rw [arP]; simp) (by decide +kernel) (by decide +kernel) (by decide) (by decide +kernel) (.inl rfl)
theorem rw2 : SpanIs rwS [0, 1, 2, 3] 2 := span_two (x := 0) (y := 3) rwMi rwSt (by rw [rwP]; simp) (by decide +kernel) (by decide +kernel) (by decide) (by decide +kernel) (.inr ⟨by decide, by decide, by decide, by decide +kernel⟩)
end K20
set_option maxHeartbeats 4000000
namespace K20
open PySem PySem.Spec PyProof.Rows L2 RV
theorem use_lt (ps : List (List Int)) {σ : L2.St} {H : Hp} {Q : VK} (few : ps.length ≤ 64) (hp : ∀ q ∈ ps, ∃ x y : Int, q = [x, y]) (h : ∀ (H' : Hp) (c : Addr), Same H H' → LotsH H' c ps → Q (.ref c) H') : tLst (tPr ps) σ H Q := by
  refine use_prs ps hp fun H1 ks s1 e hk => ⟨?_, fun c nc => ?_⟩
  · rw [List.length_map, show ks.length = ps.length by rw [← e, List.length_map]]
    exact Nat.le_of_lt (few1 (by omega))
  · have sc := same_upd (o := .lst (ks.map fun k => V.ref k.1)) nc
    exact h _ c (s1.trans sc) ⟨ks, e, upd_same, fun k hk' => sc _ _ (hk k hk')⟩
theorem lexA_le {p q : List Int} (hp : Pr 64 p) (hq : Pr 64 q) (h : lexA q p = false) : cd p ≤ cd q := by
  obtain ⟨x, y, rfl, hx, hy⟩ := hp
  obtain ⟨u, v, rfl, hu, hv⟩ := hq
  rw [cd_pair, cd_pair]
  unfold lexA at h
  by_cases e : u = x
  · rw [if_pos e] at h
    unfold lexA at h
    by_cases e2 : v = y
    · omega
    · rw [if_neg e2] at h
      have := of_decide_eq_false h
      omega
  · rw [if_neg e] at h
    have := of_decide_eq_false h
    omega
/-- pairs put in order -/
theorem sorted_are {Ls Rs Qs : List (List Int)} (pm : Ls.Perm Qs) (pw : Ls.Pairwise fun x y => lexA y x = false) (nd : Qs.Nodup) (hP : ∀ q ∈ Rs, Pr 64 q) (rs : Rs.Pairwise fun x y => cd x < cd y) (mem : ∀ q, q ∈ Qs ↔ q ∈ Rs) : Ls = Rs := by
  have inR : ∀ q, q ∈ Ls ↔ q ∈ Rs := fun q => by rw [pm.mem_iff, mem]
  have ndL : Ls.Nodup := pm.nodup_iff.mpr nd
  refine sorted_eq (f := cd) ?_ rs inR
  refine (ndL.and pw).imp_of_mem fun {x y} hx hy ⟨ne, h⟩ => ?_
  have hx := hP x ((inR x).mp hx)
  have hy := hP y ((inR y).mp hy)
  have le := lexA_le hx hy h
  rcases Int.lt_or_eq_of_le le with z | z
  · exact z
  · exfalso
    obtain ⟨a, b, rfl, ha, hb⟩ := hx
    obtain ⟨c, d, rfl, hc, hd⟩ := hy
    rw [cd_pair, cd_pair] at z
    refine ne ?_
    rw [show a = c by omega, show b = d by omega]
theorem rise_cd {ns : List Int} {ps : List (List Int)} (M : Mir ns) (S : Stp ns ps) : ps.Pairwise fun x y => cd x < cd y := by
  have hP : ∀ q ∈ ps, Pr 64 q := fun q hq => (show Pr (ns.length : Int) q from S.pair q hq).mono (by have := M.few; omega)
  have h := pLt_all (fun p hp => by obtain ⟨x, y, e, _⟩ := S.pair p hp; exact ⟨x, y, e⟩) S.rise
  refine h.imp_of_mem fun {x y} hx hy z => ?_
  obtain ⟨a, b, rfl, ha, hb⟩ := hP x hx
  obtain ⟨c, d, rfl, hc, hd⟩ := hP y hy
  rw [cd_pair, cd_pair]
  have z : a < c ∨ (a = c ∧ b < d) := z
  omega
theorem few_pr {ns : List Int} {ps : List (List Int)} (M : Mir ns) (S : Stp ns ps) : ∀ q ∈ ps, Pr 64 q := fun q hq => (show Pr (ns.length : Int) q from S.pair q hq).mono (by have := M.few; omega)
theorem mem_by {as bs : List (List Int)} (h : (as.all (fun a => decide (a ∈ bs)) && bs.all fun b => decide (b ∈ as)) = true) (q : List Int) : q ∈ as ↔ q ∈ bs := by
  rw [Bool.and_eq_true, List.all_eq_true, List.all_eq_true] at h
  exact ⟨fun z => of_decide_eq_true (h.1 q z), fun z => of_decide_eq_true (h.2 q z)⟩
/-- the mirror steps of four marks, four on -/
def upFour (q : List Int) : List Int := [q.getD 1 0 + 4, q.getD 0 0 + 4]
abbrev foS : List (List Int) := [[0, 1], [1, 2], [2, 3], [3, 0], [3, 1]]
section
variable {P : Program} {w : World} {K : PySem.W.Frag} {mg : Str → Option Value} {base : Heap}
/-! ### doublings -/
theorem scDb : FnScope ["span"] ["span"] (defScope sDoubl) := ⟨rfl, rfl, rfl, by decide +kernel, rfl, by decide +kernel, by decide +kernel⟩
def spDb : Sp := fun vs H Q _ => ∃ z : Int, vs = [.int z] ∧ Q (.int (Builtin.Int.intBits (z - 1) : Nat)) H
theorem ok_db {f : Addr} {fd : FuncData} (F : Fun K "doublings" "doublings" sDoubl f fd) : FnOk P w K mg base CX0 1 f fd ["span"] spDb := by
  refine F.ok scDb (fun vs H Q E h => ?_) (fun cdv A outer s H vs Q E hr h => ?_)
  · obtain ⟨z, rfl, _⟩ := h
    rfl
  · obtain ⟨z, rfl, q⟩ := h
    refine ⟨_, pss_one (ps_ret (pe_bits (pe_op op_sub (pv 0) pe_int))), ?_⟩
    exact ⟨.int z, rfl, _, _, rfl, rfl, _, rfl, q⟩
/-- a rule and a part of it, as a pair, and the span of that -/
def SomeAt (K : PySem.W.Frag) (C : Addr) (H : Hp) (v : V) (t : Int) : Prop := ∃ (T r : Addr) (k m : Nat) (ns : List Int) (ps : List (List Int)) (p : List Int), v = .ref T ∧ H T = some (.tup [.ref r, .int (k : Int)]) ∧ RuleAt K C H r ns ps ∧ Mir ns ∧ Stp ns ps ∧ (partsOf ps ns.length)[k]? = some p ∧ SpanIs ps p m ∧ t = (m : Int)
theorem SomeAt.same {C : Addr} {H H' : Hp} {v : V} {t : Int} (h : SomeAt K C H v t) (s : Same H H') : SomeAt K C H' v t := by
  obtain ⟨T, r, k, m, ns, ps, p, e, e2, R, z⟩ := h
  exact ⟨T, r, k, m, ns, ps, p, e, s _ _ e2, R.same s, z⟩
/-! ### _law_by_hand -/
abbrev nBh : List Str := ["_law_k", "_law_steps", "_law_rounds", "_law_four", "_law_a", "_law_b", "_law_both_ways", "_law_arrows", "_law_row", "_law_some", "_law_rule", "_law_part"]
theorem scBh : FnScope nBh [] (defScope sByHand) := ⟨rfl, rfl, rfl, by decide +kernel, rfl, by decide +kernel, by decide +kernel⟩
def spBh : Sp := fun vs H Q _ => vs = [] ∧ ∀ (H' : Hp) (L : Addr), Same H H' → H' L = some (.lst (([50, 10, 10, 1, 1, 1, 2] : List Int).map V.int)) → Q (.ref L) H'
theorem ok_bh {f C fI fS : Addr} {fd dI_ dS : FuncData} (F : Fun K "_law_by_hand" "_law_by_hand" sByHand f fd) (T : Txt K mg C) (B : Bare mg) (Mm : Mk K C fI) (bI : Binds K dI_ ["self", "mirrors", "steps"] []) (GI : FnOk P w K mg base CX0 6 fI dI_ ["self", "mirrors", "steps"] (spInit K C))
    (DS : DefAt K mg "span" sSpan ["rule", "part"] fS dS) (GS : FnOk P w K mg base CX0 6 fS dS ["rule", "part"] (spSpan K C)) : FnOk P w K mg base CX0 8 f fd [] spBh := by
  refine F.ok scBh (fun vs H Q E h => ?_) (fun cdv A outer s H vs Q E hr h => ?_)
  · obtain ⟨rfl, _⟩ := h
    rfl
  · obtain ⟨rfl, q⟩ := h
    have r6 := hr.mono (show 6 ≤ 7 by decide)
    have one : (1 : Nat) ≤ sizeLine := by decide
    have two : (2 : Nat) ≤ sizeLine := by decide
    refine ⟨_, pss_cons (ps_set (i := 1) scBh.nd rfl (Or.inl rfl) (pe_op op_cat
          (pe_lc (own := [("_law_k", 0)]) (g := gName 0) (tt := tYes) rfl scBh.nd (pi_range1 (by rfl) B.range (pa_cons pe_int pa_nil)) (blkOk_by (N := nBh) (sc := defScope sByHand) (by decide +kernel)) (fun _ _ _ _ _ => pg_name (i := 0) scBh.nd rfl (Or.inl rfl)) (fun _ _ _ _ _ => pts_nil)
            (fun _ _ _ _ _ => pe_tup (pa_cons (pv 0) (pa_cons (pe_op op_mod (pe_op op_add (pv 0) pe_int) pe_int) pa_nil)))) (pe_lst (pa_cons (pe_tup (pa_cons pe_int (pa_cons pe_int pa_nil))) pa_nil))))
      (pss_cons (ps_set (i := 2) scBh.nd rfl (Or.inl rfl) (pe_make Mm GI hr (by rfl) T.mgC bI .nil pass0 (pa_cons (pe_tup (pa_cons pe_int (pa_cons pe_int (pa_cons pe_int (pa_cons pe_int (pa_cons pe_int (pa_cons pe_int (pa_cons pe_int (pa_cons pe_int pa_nil))))))))) (pa_cons (pe_tupleOf (by rfl) B.tuple (pe_callB cr_sortedX (by rfl) B.sorted (by decide +kernel) (pa_cons (pv 1) pa_nil))) pa_nil))))
      (pss_cons (ps_set (i := 3) scBh.nd rfl (Or.inl rfl) (pe_lst (pa_cons (pe_tup (pa_cons pe_int (pa_cons pe_int pa_nil))) (pa_cons (pe_tup (pa_cons pe_int (pa_cons pe_int pa_nil))) (pa_cons (pe_tup (pa_cons pe_int (pa_cons pe_int pa_nil))) (pa_cons (pe_tup (pa_cons pe_int (pa_cons pe_int pa_nil))) (pa_cons (pe_tup (pa_cons pe_int (pa_cons pe_int pa_nil))) pa_nil)))))))
      (pss_cons (ps_set (i := 6) scBh.nd rfl (Or.inl rfl) (pe_make Mm GI hr (by rfl) T.mgC bI .nil pass0 (pa_cons (pe_tup (pa_cons pe_int (pa_cons pe_int (pa_cons pe_int (pa_cons pe_int (pa_cons pe_int (pa_cons pe_int (pa_cons pe_int (pa_cons pe_int pa_nil))))))))) (pa_cons (pe_tupleOf (by rfl) B.tuple (pe_callB cr_sortedX (by rfl) B.sorted (by decide +kernel) (pa_cons (pe_op op_cat (pv 3)
          (pe_lc (own := [("_law_a", 4), ("_law_b", 5)]) (g := gTup K 2 (gCons (gName 4) (gCons (gName 5) gNil))) (tt := tYes) rfl scBh.nd (pi_list (pv 3)) (blkOk_by (N := nBh) (sc := defScope sByHand) (by decide +kernel)) (fun _ _ _ _ _ => pg_tupK rfl rfl (pgs_cons (pg_name (i := 4) scBh.nd rfl (Or.inl rfl)) (pgs_cons (pg_name (i := 5) scBh.nd rfl (Or.inl rfl)) pgs_nil))) (fun _ _ _ _ _ => pts_nil)
            (fun _ _ _ _ _ => pe_tup (pa_cons (pe_op op_add (pv 5) pe_int) (pa_cons (pe_op op_add (pv 4) pe_int) pa_nil))))) pa_nil))) pa_nil))))
      (pss_cons (ps_set (i := 7) scBh.nd rfl (Or.inl rfl) (pe_make Mm GI hr (by rfl) T.mgC bI .nil pass0 (pa_cons (pe_tup (pa_cons pe_int (pa_cons pe_int (pa_cons pe_int (pa_cons pe_int pa_nil))))) (pa_cons (pe_tup (pa_cons (pe_tup (pa_cons pe_int (pa_cons pe_int pa_nil))) (pa_cons (pe_tup (pa_cons pe_int (pa_cons pe_int pa_nil))) (pa_cons (pe_tup (pa_cons pe_int (pa_cons pe_int pa_nil))) (pa_cons (pe_tup (pa_cons pe_int (pa_cons pe_int pa_nil))) pa_nil))))) pa_nil))))
      (pss_cons (ps_set (i := 8) scBh.nd rfl (Or.inl rfl) (pe_make Mm GI hr (by rfl) T.mgC bI .nil pass0 (pa_cons (pe_tup (pa_cons pe_int (pa_cons pe_int (pa_cons pe_int (pa_cons pe_int pa_nil))))) (pa_cons (pe_tup (pa_cons (pe_tup (pa_cons pe_int (pa_cons pe_int pa_nil))) (pa_cons (pe_tup (pa_cons pe_int (pa_cons pe_int pa_nil))) (pa_cons (pe_tup (pa_cons pe_int (pa_cons pe_int pa_nil))) (pa_cons (pe_tup (pa_cons pe_int (pa_cons pe_int pa_nil))) (pa_cons (pe_tup (pa_cons pe_int (pa_cons pe_int pa_nil))) (pa_cons (pe_tup (pa_cons pe_int (pa_cons pe_int pa_nil))) pa_nil))))))) pa_nil))))
      (pss_cons (ps_set (i := 9) scBh.nd rfl (Or.inl rfl) (pe_lst (pa_cons (pe_tup (pa_cons (pv 2) (pa_cons pe_int pa_nil))) (pa_cons (pe_tup (pa_cons (pv 6) (pa_cons pe_int pa_nil))) (pa_cons (pe_tup (pa_cons (pv 6) (pa_cons pe_int pa_nil)))
          (pa_cons (pe_tup (pa_cons (pe_make Mm GI hr (by rfl) T.mgC bI .nil pass0 (pa_cons (pe_tup (pa_cons pe_int pa_nil)) (pa_cons (pe_tup (pa_cons (pe_tup (pa_cons pe_int (pa_cons pe_int pa_nil))) pa_nil)) pa_nil))) (pa_cons pe_int pa_nil)))
          (pa_cons (pe_tup (pa_cons (pv 7) (pa_cons pe_int pa_nil))) (pa_cons (pe_tup (pa_cons (pv 7) (pa_cons pe_int pa_nil))) (pa_cons (pe_tup (pa_cons (pv 8) (pa_cons pe_int pa_nil))) pa_nil)))))))))
      (pss_one (ps_ret
          (pe_lc (own := [("_law_rule", 10), ("_law_part", 11)]) (g := gTup K 2 (gCons (gName 10) (gCons (gName 11) gNil))) (tt := tYes) rfl scBh.nd (pi_list (pv 9)) (blkOk_by (N := nBh) (sc := defScope sByHand) (by decide +kernel)) (fun _ _ _ _ _ => pg_tupK rfl rfl (pgs_cons (pg_name (i := 10) scBh.nd rfl (Or.inl rfl)) (pgs_cons (pg_name (i := 11) scBh.nd rfl (Or.inl rfl)) pgs_nil))) (fun _ _ _ _ _ => pts_nil)
            (fun _ _ _ _ _ => pe_call GS r6 (by rfl) DS.mg DS.fn.kp DS.bi .nil pass0 (pa_cons (pv 10) (pa_cons (pv 11) pa_nil)))))))))))), ?_⟩
    have eight : (8 : Nat) ≤ sizeLine := by decide
    refine ⟨8, rfl, by decide, by decide, fun D nD => ?_⟩
    refine lc_range (lo := 0) (n := 8) (fun i H' => Same H H' ∧ LotsH H' D ((List.range i).map fun k : Nat => [(k : Int), ((k : Int) + 1) % 8])) ⟨same_upd nD, [], rfl, upd_same, fun _ z => by cases z⟩ (fun i H1 hi h => ?_) fun H1 h => ?_
    · obtain ⟨s1, hD⟩ := h
      have e0 : (0 + ((i : Nat) : Int)) = (i : Int) := by omega
      rw [e0]
      refine ⟨by simp [wipe, List.set_set], tt_yes ⟨.int (i : Int), rfl, .int (i : Int), rfl, _, _, rfl, rfl, _, _, rfl, rfl, (show (0 : Int) < 8 by decide), two, fun U nU => ?_⟩⟩
      obtain ⟨ks, k1, k2, k3⟩ := id hD
      have lk : ks.length = i := by rw [← List.length_map (f := fun p : Addr × List Int => p.2), k1, List.length_map, List.length_range]
      have sU := same_upd (o := .tup [.int (i : Int), .int (((i : Int) + 1) % 8)]) nU
      refine ⟨_, sU _ _ k2, by rw [List.length_map]; exact few1 (by omega), fun b o z => by rw [upd_ne (ne_of_none z nD)]; exact sU _ _ (s1 b o z), ?_⟩
      rw [List.range_succ, List.map_append]
      exact hD.add (q := [(i : Int), ((i : Int) + 1) % 8]) k2 nU
    obtain ⟨s1, ks, k1, k2, k3⟩ := h
    have lk : ks.length = 8 := by rw [← List.length_map (f := fun p : Addr × List Int => p.2), k1, List.length_map, List.length_range]
    refine ⟨two, fun T1 nT1 => ⟨one, fun l1 nl1 => ?_⟩⟩
    have sT1 := same_upd (o := .tup [.int 7, .int 1]) nT1
    have sl1 := same_upd (o := .lst [.ref T1]) nl1
    refine ⟨D, l1, _, _, rfl, rfl, (sT1.trans sl1) _ _ k2, upd_same, by rw [List.length_map, lk, sizeLine_eq]; simp, fun o no => ?_⟩
    have so := same_upd (o := .lst ((ks.map fun p => V.ref p.1) ++ [.ref T1])) no
    have s2 := s1.trans (sT1.trans (sl1.trans so))
    have eo : (upd (upd (upd H1 T1 (.tup [.int 7, .int 1])) l1 (.lst [.ref T1])) o (.lst ((ks.map fun p => V.ref p.1) ++ [.ref T1]))) o = some (.lst ((ks ++ [(T1, ([7, 1] : List Int))]).map fun p => V.ref p.1)) := by rw [upd_same, List.map_append]; rfl
    have tk : ∀ p ∈ ks ++ [(T1, ([7, 1] : List Int))], (upd (upd (upd H1 T1 (.tup [.int 7, .int 1])) l1 (.lst [.ref T1])) o (.lst ((ks.map fun p => V.ref p.1) ++ [.ref T1]))) p.1 = some (.tup (p.2.map V.int)) := fun p hp => by
      rcases List.mem_append.mp hp with z | z
      · exact (sT1.trans (sl1.trans so)) _ _ (k3 p z)
      · rw [List.mem_singleton.mp z]; exact (sl1.trans so) _ _ upd_same
    generalize upd (upd (upd H1 T1 (.tup [.int 7, .int 1])) l1 (.lst [.ref T1])) o (.lst ((ks.map fun p => V.ref p.1) ++ [.ref T1])) = H2 at s2 eo tk ⊢
    have ek : (ks ++ [(T1, ([7, 1] : List Int))]).map (·.2) = (List.range 8).map (fun k : Nat => [(k : Int), ((k : Int) + 1) % 8]) ++ [[7, 1]] := by rw [List.map_append, k1]; rfl
    generalize ks ++ [(T1, ([7, 1] : List Int))] = ks at eo tk ek
    refine nx_step ?_
    dsimp only
    -- rounds
    refine ⟨eight, fun u nu => ?_⟩
    rw [show ([V.int 0, .int 7, .int 6, .int 5, .int 4, .int 3, .int 2, .int 1] : List V) = rdM.map V.int from rfl]
    have su := same_upd (o := .tup (rdM.map V.int)) nu
    refine ⟨.ref o, rfl, o, ks, rfl, lstNew (su _ _ eo), fun p hp => tupNew (su _ _ (tk p hp)), fun p hp e => ?_, ?_, fun L' z pm pw nz => .inl ⟨z, _, rfl, lstNew upd_same, fun cc ncc => ?_⟩⟩
    · have : p.2 ∈ ks.map (·.2) := List.mem_map_of_mem hp
      rw [ek, e] at this; revert this; decide
    · have := congrArg List.length ek
      rw [List.length_map] at this
      rw [this, sizeLine_eq]; decide
    have eL : L'.map (·.2) = rdS := sorted_are (pm.map (·.2)) pw (by rw [ek]; decide +kernel) (few_pr rdMi rdSt) (rise_cd rdMi rdSt) (fun q => by rw [ek]; exact mem_by (by decide +kernel) q)
    have sz := same_upd (o := .lst (L'.map fun q => V.ref q.1)) nz
    have sc := same_upd (o := .tup (L'.map fun q => V.ref q.1)) ncc
    have s3 := s2.trans (su.trans (sz.trans sc))
    have eu3 : (upd (upd (upd H2 u (.tup (rdM.map V.int))) z (.lst (L'.map fun q => V.ref q.1))) cc (.tup (L'.map fun q => V.ref q.1))) u = some (.tup (rdM.map V.int)) := (sz.trans sc) _ _ upd_same
    have tc3 : TupsH (upd (upd (upd H2 u (.tup (rdM.map V.int))) z (.lst (L'.map fun q => V.ref q.1))) cc (.tup (L'.map fun q => V.ref q.1))) cc rdS := ⟨L', eL, upd_same, fun p hp => (su.trans (sz.trans sc)) _ _ (tk p (pm.mem_iff.mp hp))⟩
    generalize upd (upd (upd H2 u (.tup (rdM.map V.int))) z (.lst (L'.map fun q => V.ref q.1))) cc (.tup (L'.map fun q => V.ref q.1)) = H3 at s3 eu3 tc3 ⊢
    refine fun x dx nx nd ne => make_rule (ns := rdM) (ps := rdS) (tupNew eu3) tc3.tups rdMi rdSt nx nd ne fun H4 s34 R1 => ?_
    have s4 := s3.trans s34
    clear eo tk ek pm pw eL sz sc su eu3 tc3 s34 s3 s2 s1 k1 k2 k3
    -- four
    refine seq_asg (use_lt foS (by decide) (fun q hq => ?_) fun H5 Fo s45 hFo => ?_)
    · simp only [List.mem_cons, List.not_mem_nil, or_false] at hq
      rcases hq with rfl | rfl | rfl | rfl | rfl <;> exact ⟨_, _, rfl⟩
    have s5 := s4.trans s45
    have R1 := R1.same s45
    refine nx_step ?_
    -- both ways
    refine ⟨eight, fun u nu => ?_⟩
    have su := same_upd (o := .tup (bwM.map V.int)) nu
    obtain ⟨fs, f1, f2, f3⟩ := hFo.same su
    have lf : fs.length = 5 := by rw [← List.length_map (f := fun p : Addr × List Int => p.2), f1]; rfl
    refine ⟨.ref Fo, rfl, .ref Fo, rfl, Fo, rfl, ⟨_, lstNew f2⟩, fun D nD => ?_⟩
    refine lc_list (K := K) (a := Fo) (xs := fs.map fun p => V.ref p.1) (fun i H' => Same (upd H5 u (.tup (bwM.map V.int))) H' ∧ LotsH H' D ((foS.take i).map upFour)) ⟨same_upd nD, [], rfl, upd_same, fun _ z => by cases z⟩ (fun i H' _ h => lstNew (h.1 _ _ f2)) (fun i v H6 hv h => ?_) fun H6 h => ?_
    · obtain ⟨s6, hD⟩ := h
      obtain ⟨k, gk, rfl⟩ := map_at hv
      have gf : foS[i]? = some k.2 := by rw [← f1, List.getElem?_map, gk]; rfl
      obtain ⟨a, b, e⟩ : ∃ a b : Int, k.2 = [a, b] := by
        have := List.mem_of_getElem? gf
        simp only [List.mem_cons, List.not_mem_nil, or_false] at this
        rcases this with e | e | e | e | e <;> exact ⟨_, _, e⟩
      have ekt := f3 k (List.mem_of_getElem? gk)
      rw [e] at ekt gf
      refine ⟨k.1, _, rfl, tupNew (s6 _ _ ekt), rfl, _, _, rfl, _, _, rfl, rfl, by simp [wipe, List.set_set, List.set_comm], tt_yes ⟨.int b, rfl, _, _, rfl, rfl, .int a, rfl, _, _, rfl, rfl, two, fun U nU => ?_⟩⟩
      obtain ⟨js, j1, j2, j3⟩ := id hD
      have hi : i < 5 := (List.getElem?_eq_some_iff.mp gf).1
      have lj : js.length ≤ 5 := by rw [← List.length_map (f := fun p : Addr × List Int => p.2), j1, List.length_map, List.length_take]; omega
      have sU := same_upd (o := .tup [.int (b + 4), .int (a + 4)]) nU
      refine ⟨_, sU _ _ j2, by rw [List.length_map]; exact few1 (by omega), fun b o z => by rw [upd_ne (ne_of_none z nD)]; exact sU _ _ (s6 b o z), ?_⟩
      rw [List.take_add_one, gf]
      show LotsH _ D (List.map upFour (foS.take i ++ [[a, b]]))
      rw [List.map_append]
      exact hD.add (q := [b + 4, a + 4]) j2 nU
    obtain ⟨s6, js, j1, j2, j3⟩ := h
    rw [List.length_map, lf] at j1
    have lj : js.length = 5 := by rw [← List.length_map (f := fun p : Addr × List Int => p.2), j1]; rfl
    refine ⟨Fo, D, _, _, rfl, rfl, s6 _ _ f2, j2, by rw [List.length_map, List.length_map, lf, lj, sizeLine_eq]; decide, fun o no => ?_⟩
    have so := same_upd (o := .lst ((fs.map fun p => V.ref p.1) ++ (js.map fun p => V.ref p.1))) no
    have eo : (upd H6 o (.lst ((fs.map fun p => V.ref p.1) ++ (js.map fun p => V.ref p.1)))) o = some (.lst ((fs ++ js).map fun p => V.ref p.1)) := by rw [upd_same, List.map_append]
    have tk : ∀ p ∈ fs ++ js, (upd H6 o (.lst ((fs.map fun p => V.ref p.1) ++ (js.map fun p => V.ref p.1)))) p.1 = some (.tup (p.2.map V.int)) := fun p hp => by
      rcases List.mem_append.mp hp with z | z
      · exact (s6.trans so) _ _ (f3 p z)
      · exact so _ _ (j3 p z)
    have ek : (fs ++ js).map (·.2) = foS ++ foS.map upFour := by rw [List.map_append, f1, j1]; rfl
    have s7 := s6.trans so
    generalize upd H6 o (.lst ((fs.map fun p => V.ref p.1) ++ (js.map fun p => V.ref p.1))) = H7 at s7 eo tk ⊢
    refine ⟨o, fs ++ js, rfl, lstNew eo, fun p hp => tupNew (tk p hp), fun p hp e => ?_, by rw [List.length_append, lf, lj, sizeLine_eq]; decide, fun L' z pm pw nz => .inl ⟨z, _, rfl, lstNew upd_same, fun cc ncc => ?_⟩⟩
    · have : p.2 ∈ (fs ++ js).map (·.2) := List.mem_map_of_mem hp
      rw [ek, e] at this; revert this; decide
    have eL : L'.map (·.2) = bwS := sorted_are (pm.map (·.2)) pw (by rw [ek]; decide +kernel) (few_pr bwMi bwSt) (rise_cd bwMi bwSt) (fun q => by rw [ek]; exact mem_by (by decide +kernel) q)
    have sz := same_upd (o := .lst (L'.map fun q => V.ref q.1)) nz
    have sc := same_upd (o := .tup (L'.map fun q => V.ref q.1)) ncc
    have eu3 := (s7.trans (sz.trans sc)) _ _ (upd_same (H := H5) (a := u) (o := .tup (bwM.map V.int)))
    have s8 := s5.trans (su.trans (s7.trans (sz.trans sc)))
    have s58 := su.trans (s7.trans (sz.trans sc))
    have tc3 : TupsH (upd (upd H7 z (.lst (L'.map fun q => V.ref q.1))) cc (.tup (L'.map fun q => V.ref q.1))) cc bwS := ⟨L', eL, upd_same, fun p hp => (sz.trans sc) _ _ (tk p (pm.mem_iff.mp hp))⟩
    generalize upd (upd H7 z (.lst (L'.map fun q => V.ref q.1))) cc (.tup (L'.map fun q => V.ref q.1)) = H8 at s8 eu3 tc3 s58 ⊢
    refine fun x2 dx nx nd ne => make_rule (ns := bwM) (ps := bwS) (tupNew eu3) tc3.tups bwMi bwSt nx nd ne fun H9 s89 R2 => ?_
    have s9 := s8.trans s89
    have R1 := R1.same (s58.trans s89)
    clear eo tk ek pm pw eL sz sc su eu3 tc3 s89 s8 s58 s7 s6 f1 f2 f3 j1 j2 j3
    -- arrows, a row
    refine seq_asg (use_make arM arS arMi arSt fun H10 x3 s10 R3 => ?_)
    refine seq_asg (use_make rwM rwS rwMi rwSt fun H11 x4 s11 R4 => ?_)
    have s12 := s9.trans (s10.trans s11)
    have R1 := R1.same (s10.trans s11)
    have R2 := R2.same (s10.trans s11)
    have R3 := R3.same s11
    clear s10 s11 s9
    have seven : (7 : Nat) ≤ sizeLine := by decide
    refine nx_step ?_
    refine ⟨.ref x, rfl, two, fun A1 n1 => ⟨.ref x2, rfl, two, fun A2 n2 => ⟨.ref x2, rfl, two, fun A3 n3 => ?_⟩⟩⟩
    have t1 := same_upd (o := .tup [.ref x, .int 0]) n1
    have t2 := same_upd (o := .tup [.ref x2, .int 0]) n2
    have t3 := same_upd (o := .tup [.ref x2, .int 1]) n3
    have a1 : SomeAt K C _ (.ref A1) 50 := ⟨A1, x, 0, 50, rdM, rdS, all8, rfl, (t2.trans t3) _ _ upd_same, R1.same (t1.trans (t2.trans t3)), rdMi, rdSt, by rw [rdP]; rfl, rd50, rfl⟩
    have a2 : SomeAt K C _ (.ref A2) 10 := ⟨A2, x2, 0, 10, bwM, bwS, _, rfl, t3 _ _ upd_same, R2.same (t1.trans (t2.trans t3)), bwMi, bwSt, by rw [bwP]; rfl, bw10, rfl⟩
    have a3 : SomeAt K C (upd (upd (upd H11 A1 (.tup [.ref x, .int 0])) A2 (.tup [.ref x2, .int 0])) A3 (.tup [.ref x2, .int 1])) (.ref A3) 10 := ⟨A3, x2, 1, 10, bwM, bwS, _, rfl, upd_same, R2.same (t1.trans (t2.trans t3)), bwMi, bwSt, by rw [bwP]; rfl, bw10', rfl⟩
    have s13 := s12.trans (t1.trans (t2.trans t3))
    have R3 := R3.same (t1.trans (t2.trans t3))
    have R4 := R4.same (t1.trans (t2.trans t3))
    generalize upd (upd (upd H11 A1 (.tup [.ref x, .int 0])) A2 (.tup [.ref x2, .int 0])) A3 (.tup [.ref x2, .int 1]) = H12 at a1 a2 a3 s13 R3 R4 ⊢
    refine cons_te (cons_te ?_)
    refine use_make [0] loS loMi loSt fun H13 x5 s14 R5 => ?_
    refine ⟨two, fun A4 n4 => ⟨.ref x3, rfl, two, fun A5 n5 => ⟨.ref x3, rfl, two, fun A6 n6 => ⟨.ref x4, rfl, two, fun A7 n7 => ⟨seven, fun Ls nL => ?_⟩⟩⟩⟩⟩
    have t4 := same_upd (o := .tup [.ref x5, .int 0]) n4
    have t5 := same_upd (o := .tup [.ref x3, .int 0]) n5
    have t6 := same_upd (o := .tup [.ref x3, .int 1]) n6
    have t7 := same_upd (o := .tup [.ref x4, .int 0]) n7
    have tL := same_upd (o := .lst [.ref A1, .ref A2, .ref A3, .ref A4, .ref A5, .ref A6, .ref A7]) nL
    have s15 := s13.trans (s14.trans (t4.trans (t5.trans (t6.trans (t7.trans tL)))))
    have u1 := s14.trans (t4.trans (t5.trans (t6.trans (t7.trans tL))))
    have u2 := t4.trans (t5.trans (t6.trans (t7.trans tL)))
    have all : ∀ (i : Nat) (v : V), [V.ref A1, .ref A2, .ref A3, .ref A4, .ref A5, .ref A6, .ref A7][i]? = some v → ∃ t, ([50, 10, 10, 1, 1, 1, 2] : List Int)[i]? = some t ∧ SomeAt K C (upd (upd (upd (upd (upd H13 A4 (.tup [.ref x5, .int 0])) A5 (.tup [.ref x3, .int 0])) A6 (.tup [.ref x3, .int 1])) A7 (.tup [.ref x4, .int 0])) Ls (.lst [.ref A1, .ref A2, .ref A3, .ref A4, .ref A5, .ref A6, .ref A7])) v t := fun i v hv => by
      match i, hv with
      | 0, hv => obtain rfl := Option.some.inj hv; exact ⟨_, rfl, a1.same u1⟩
      | 1, hv => obtain rfl := Option.some.inj hv; exact ⟨_, rfl, a2.same u1⟩
      | 2, hv => obtain rfl := Option.some.inj hv; exact ⟨_, rfl, a3.same u1⟩
      | 3, hv => obtain rfl := Option.some.inj hv; exact ⟨_, rfl, A4, x5, 0, 1, [0], loS, [0], rfl, (t5.trans (t6.trans (t7.trans tL))) _ _ upd_same, R5.same u2, loMi, loSt, by rw [loP]; rfl, lo1, rfl⟩
      | 4, hv => obtain rfl := Option.some.inj hv; exact ⟨_, rfl, A5, x3, 0, 1, arM, arS, _, rfl, (t6.trans (t7.trans tL)) _ _ upd_same, R3.same u1, arMi, arSt, by rw [arP]; rfl, ar1, rfl⟩
      | 5, hv => obtain rfl := Option.some.inj hv; exact ⟨_, rfl, A6, x3, 1, 1, arM, arS, _, rfl, (t7.trans tL) _ _ upd_same, R3.same u1, arMi, arSt, by rw [arP]; rfl, ar1', rfl⟩
      | 6, hv => obtain rfl := Option.some.inj hv; exact ⟨_, rfl, A7, x4, 0, 2, rwM, rwS, _, rfl, tL _ _ upd_same, R4.same u1, rwMi, rwSt, by rw [rwP]; rfl, rw2, rfl⟩
      | i + 7, hv => simp at hv
    have eLs : (upd (upd (upd (upd (upd H13 A4 (.tup [.ref x5, .int 0])) A5 (.tup [.ref x3, .int 0])) A6 (.tup [.ref x3, .int 1])) A7 (.tup [.ref x4, .int 0])) Ls (.lst [.ref A1, .ref A2, .ref A3, .ref A4, .ref A5, .ref A6, .ref A7])) Ls = some (.lst [.ref A1, .ref A2, .ref A3, .ref A4, .ref A5, .ref A6, .ref A7]) := upd_same
    generalize upd (upd (upd (upd (upd H13 A4 (.tup [.ref x5, .int 0])) A5 (.tup [.ref x3, .int 0])) A6 (.tup [.ref x3, .int 1])) A7 (.tup [.ref x4, .int 0])) Ls (.lst [.ref A1, .ref A2, .ref A3, .ref A4, .ref A5, .ref A6, .ref A7]) = H14 at s15 all eLs ⊢
    refine nx_step ?_
    dsimp only
    refine ⟨.ref Ls, rfl, Ls, rfl, ⟨_, lstNew eLs⟩, fun E nE => ?_⟩
    refine lc_list (K := K) (a := Ls) (xs := [.ref A1, .ref A2, .ref A3, .ref A4, .ref A5, .ref A6, .ref A7]) (fun i H' => Same H14 H' ∧ H' E = some (.lst ((([50, 10, 10, 1, 1, 1, 2] : List Int).take i).map V.int))) ⟨same_upd nE, upd_same⟩ (fun i H' _ h => lstNew (h.1 _ _ eLs)) (fun i v H16 hv h => ?_) fun H16 h => ?_
    · obtain ⟨s16, eE⟩ := h
      obtain ⟨t, gt, sa⟩ := all i v hv
      obtain ⟨T0, r, k, m, ns, ps, p, rfl, e2, Rr, M, S, gk, sp, rfl⟩ := sa.same s16
      refine ⟨T0, _, rfl, tupNew e2, rfl, _, _, rfl, _, _, rfl, rfl, by simp [wipe, List.set_set, List.set_comm], tt_yes ⟨.ref r, rfl, .int (k : Int), rfl, r, k, ns, ps, p, rfl, Rr, M, S, gk, fun H17 T2 s17 sp2 lT => ?_⟩⟩
      obtain rfl := sp.uniq sp2
      refine ⟨_, s17 _ _ eE, by rw [List.length_map, List.length_take]; exact few1 (Nat.le_trans (Nat.min_le_right _ _) (by decide)), fun b o z => by rw [upd_ne (ne_of_none z nE)]; exact s17 _ _ (s16 b o z), ?_⟩
      rw [upd_same, List.take_add_one, gt, List.map_append]; rfl
    · obtain ⟨s16, eE⟩ := h
      exact q H16 E (s15.trans s16) eE
end
end K20
set_option maxHeartbeats 4000000
namespace K20
open PySem PySem.Spec PyProof.Rows L2 RV
abbrev pws : List Int := [1, 2, 4, 8, 16, 32]
theorem bits_pow {m : Nat} (h1 : 1 ≤ m) (h2 : m ≤ 60) : Builtin.Int.intBits ((m : Int) - 1) = (pws.filter fun k => decide (k < (m : Int))).length := by
  have z : ∀ k : Nat, k < 61 → 1 ≤ k → Builtin.Int.intBits ((k : Int) - 1) = (pws.filter fun p => decide (p < (k : Int))).length := by decide +kernel
  exact z m (by omega) h1
theorem small_repr {n : Nat} (h : n ≤ 1000) : ((n : Int)).natAbs.log2 < 1920 := by
  rw [Int.natAbs_natCast]
  have : n.log2 ≤ n := Nat.log2_le_self n
  omega
section
variable {P : Program} {w : World} {K : PySem.W.Frag} {mg : Str → Option Value} {base : Heap}
/-! ### law -/
abbrev nLaw : List Str := ["_law_script", "_law_k", "_law_box_here", "_law_turn", "_law_form_here", "_law_rule", "_law_number", "_law_part", "_law_some", "_law_power", "_law_due_here"]
theorem scLaw : FnScope nLaw ["_law_script"] (defScope sLaw) := ⟨rfl, rfl, rfl, by decide +kernel, rfl, by decide +kernel, by decide +kernel⟩
def spLaw (K : PySem.W.Frag) : Sp := fun vs H Q _ => ∃ (a : Addr) (ns : List Int), vs = [.ref a] ∧ SqL K H a (ns.map V.int) ∧ ns.length ≤ 63 ∧ ∀ H', Q (.bl true) H'
theorem ok_law {f C fI fH fD fF fL fB fS fU fA : Addr} {fd dI_ dH dD dF dL dB dS dU dA : FuncData} (F : Fun K "law" "law" sLaw f fd) (T : Txt K mg C) (B : Bare mg)
    (Mm : Mk K C fI) (bI : Binds K dI_ ["self", "mirrors", "steps"] []) (GI : FnOk P w K mg base CX0 6 fI dI_ ["self", "mirrors", "steps"] (spInit K C))
    (DH : DefAt K mg "_law_box" sHand ["_law_script", "_law_k"] fH dH) (DD : DefAt K mg "_law_take" sDraw ["_law_box_here", "_law_many"] fD dD)
    (DF : DefAt K mg "_law_form" sForm ["_law_box_here", "_law_least", "_law_greatest"] fF dF) (GF : FnOk P w K mg base CX0 3 fF dF ["_law_box_here", "_law_least", "_law_greatest"] (spForm K))
    (DL : DefAt K mg "_law_parts" sLParts ["_law_form_here"] fL dL) (GL : FnOk P w K mg base CX0 3 fL dL ["_law_form_here"] (spLp K))
    (DB : DefAt K mg "_law_by_hand" sByHand [] fB dB) (GB : FnOk P w K mg base CX0 8 fB dB [] spBh)
    (DS : DefAt K mg "span" sSpan ["rule", "part"] fS dS) (GS : FnOk P w K mg base CX0 6 fS dS ["rule", "part"] (spSpan K C))
    (DU : DefAt K mg "doublings" sDoubl ["span"] fU dU) (DA : DefAt K mg "_law_due" sDue ["_law_form_here", "_law_part"] fA dA) (GA : FnOk P w K mg base CX0 3 fA dA ["_law_form_here", "_law_part"] (spDu K)) : FnG P w K mg base CX0 9 f fd ["_law_script"] (spLaw K) := by
  have GH : FnOk P w K mg base CX0 1 fH dH ["_law_script", "_law_k"] (spHand K) := ok_hand DH.fn B
  have GD : FnOk P w K mg base CX0 1 fD dD ["_law_box_here", "_law_many"] spDraw := ok_draw DD.fn
  have GU : FnOk P w K mg base CX0 1 fU dU ["span"] spDb := ok_db DU.fn
  refine okG F scLaw (fun vs H Q E h => ?_) (fun cdv A outer s H vs Q E gd hr h => ?_)
  · obtain ⟨a, ns, rfl, _⟩ := h
    rfl
  · obtain ⟨a, cs, rfl, hS, hlen, q⟩ := h
    have r1 := hr.mono (show 1 ≤ 8 by decide)
    have r3 := hr.mono (show 3 ≤ 8 by decide)
    have r6 := hr.mono (show 6 ≤ 8 by decide)
    have r7 := hr.mono (show 7 ≤ 8 by decide)
    have hu := hr.units
    have thirteen : (13 : Nat) ≤ sizeLine := by decide
    have six : (6 : Nat) ≤ sizeLine := by decide
    refine ⟨_, pss_cons (ps_if (pt_cmpR (op_neD hr.units) (pe_call0 GB hr (by rfl) DB.mg DB.fn.kp DB.bi .nil pass0) (pe_lst (pa_cons pe_int (pa_cons pe_int (pa_cons pe_int (pa_cons pe_int (pa_cons pe_int (pa_cons pe_int (pa_cons pe_int pa_nil)))))))) (nomark _)) (pss_one (ps_ret pe_bl)) pss_nil)
      (pss_cons (ps_for PassesOwn.never rfl (pi_range1 (by rfl) B.range (pa_cons (pe_op op_add pe_int (pe_callB (call_min2 rfl) (by rfl) B.min (by decide +kernel) (pa_cons pe_int (pa_cons (pe_callB call_len_seq (by rfl) B.len PySem.boot_len (pa_cons (pv 0) pa_nil)) pa_nil)))) pa_nil)) (pg_name (i := 1) scLaw.nd rfl (Or.inl rfl))
        (pss_cons (ps_set (i := 2) scLaw.nd rfl (Or.inl rfl) (pe_call GH r1 (by rfl) DH.mg DH.fn.kp DH.bi .nil pass0 (pa_cons (pv 0) (pa_cons (pv 1) pa_nil))))
        (pss_cons (ps_for PassesOwn.never rfl (pi_range1 (by rfl) B.range (pa_cons pe_int pa_nil)) (pg_name (i := 3) scLaw.nd rfl (Or.inl rfl))
          (pss_cons (ps_set (i := 4) scLaw.nd rfl (Or.inl rfl) (pe_call GF r3 (by rfl) DF.mg DF.fn.kp DF.bi .nil pass0 (pa_cons (pv 2) (pa_cons pe_int (pa_cons pe_int pa_nil)))))
          (pss_cons (ps_set (i := 5) scLaw.nd rfl (Or.inl rfl) (pe_make Mm GI r7 (by rfl) T.mgC bI .nil pass0 (pa_cons (pe_ix ix_tup (pv 4) pe_int (fun _ _ => rfl)) (pa_cons (pe_ix ix_tup (pv 4) pe_int (fun _ _ => rfl)) pa_nil))))
          (pss_one (ps_for PassesOwn.never rfl (pi_enum (by rfl) B.enumerate (pa_cons (pe_call GL r3 (by rfl) DL.mg DL.fn.kp DL.bi .nil pass0 (pa_cons (pv 4) pa_nil)) pa_nil)) (pg_tup rfl (pgs_cons (pg_name (i := 6) scLaw.nd rfl (Or.inl rfl)) (pgs_cons (pg_name (i := 7) scLaw.nd rfl (Or.inl rfl)) pgs_nil)))
            (pss_one (ps_if (pt_cmpR op_ne (pe_callB SkE.call_repr_int (by rfl) B.repr (by decide +kernel) (pa_cons (pe_call GS r6 (by rfl) DS.mg DS.fn.kp DS.bi .nil pass0 (pa_cons (pv 5) (pa_cons (pv 6) pa_nil))) pa_nil))
              (pe_callB SkE.call_repr_int (by rfl) B.repr (by decide +kernel) (pa_cons (pe_call GA r3 (by rfl) DA.mg DA.fn.kp DA.bi .nil pass0 (pa_cons (pv 4) (pa_cons (pv 7) pa_nil))) pa_nil)) (nomark _)) (pss_one (ps_ret pe_bl)) pss_nil)))))))
        (pss_one (ps_for PassesOwn.never rfl (pi_list (pe_lst (pa_cons pe_int (pa_cons pe_int (pa_cons pe_int (pa_cons pe_int (pa_cons pe_int (pa_cons pe_int (pa_cons pe_int (pa_cons pe_int (pa_cons pe_int (pa_cons pe_int (pa_cons pe_int (pa_cons pe_int
            (pa_cons (pe_op op_add pe_int (pe_call GD r1 (by rfl) DD.mg DD.fn.kp DD.bi .nil pass0 (pa_cons (pv 2) (pa_cons pe_int pa_nil)))) pa_nil))))))))))))))) (pg_name (i := 8) scLaw.nd rfl (Or.inr rfl))
          (pss_cons (ps_set (i := 10) scLaw.nd rfl (Or.inl rfl) (pe_callB call_len_seq (by rfl) B.len PySem.boot_len (pa_cons
            (pe_lc (own := [("_law_power", 9)]) (g := gName 9) rfl scLaw.nd (pi_tup (pe_tup (pa_cons pe_int (pa_cons pe_int (pa_cons pe_int (pa_cons pe_int (pa_cons pe_int (pa_cons pe_int pa_nil)))))))) (blkOk_by (N := nLaw) (sc := defScope sLaw) (by decide +kernel)) (fun _ _ _ _ _ => pg_name (i := 9) scLaw.nd rfl (Or.inl rfl)) (fun _ _ _ _ _ => pts_one (pt_cmpR op_lt (pv 9) (pv 8) (nomark _))) (fun _ _ _ _ _ => pv 9)) pa_nil)))
          (pss_one (ps_if (pt_cmpR op_ne (pe_callB SkE.call_repr_int (by rfl) B.repr (by decide +kernel) (pa_cons (pe_call GU r1 (by rfl) DU.mg DU.fn.kp DU.bi .nil pass0 (pa_cons (pv 8) pa_nil)) pa_nil))
              (pe_callB SkE.call_repr_int (by rfl) B.repr (by decide +kernel) (pa_cons (pv 10) pa_nil)) (nomark _)) (pss_one (ps_ret pe_bl)) pss_nil))))))))
      (pss_one (ps_ret pe_bl))), ?_⟩
    have seven : (7 : Nat) ≤ sizeLine := by decide
    refine ⟨rfl, fun H1 L s1 eL => ⟨seven, fun l nl => ?_⟩⟩
    have sl := same_upd (o := .lst [.int 50, .int 10, .int 10, .int 1, .int 1, .int 1, .int 2]) nl
    refine ⟨.list (([50, 10, 10, 1, 1, 1, 2] : List Int).map PyData.int), .list (([50, 10, 10, 1, 1, 1, 2] : List Int).map PyData.int), .lst (lstNew (sl _ _ eL)) (dpInts _), .lst (lstNew upd_same) (dpInts [50, 10, 10, 1, 1, 1, 2]), shapedL _, shapedL _, _, rfl, ?_⟩
    rw [eqvL, decide_eq_true rfl]
    refine iteF ?_
    have s2 := s1.trans sl
    generalize upd H1 l (.lst [.int 50, .int 10, .int 10, .int 1, .int 1, .int 1, .int 2]) = H2 at s2 ⊢
    refine ⟨.ref a, rfl, a, _, rfl, .inl (s2.seq hS), 3, _, rfl, 1, _, rfl, rfl, ?_⟩
    have vb : ∀ n : Int, 0 ≤ n → n ≤ 63 → 1 ≤ 1 + (if n < 3 then n else 3) ∧ 1 + (if n < 3 then n else 3) ≤ 4 := fun n _ _ => by
      split <;> omega
    have vb1 := vb ((cs.map V.int).length : Int) (by omega) (by rw [List.length_map]; omega)
    generalize (if ((cs.map V.int).length : Int) < 3 then ((cs.map V.int).length : Int) else 3) = n3 at vb1 ⊢
    refine ⟨1 + n3, rfl, by omega, by omega, ?_⟩
    refine for_range (lo := 0) (n := (1 + n3).toNat) (fun i σ H' => ∃ (y1 y2 y3 y4 y5 y6 y7 y8 y9 y10 : Option V), σ = [some (.ref a), y1, y2, y3, y4, y5, y6, y7, y8, y9, y10] ∧ Same H H') ⟨none, none, none, none, none, none, none, none, none, none, rfl, s2⟩ (fun i σ H1 hi h => ?_) (fun σ H1 h => q H1)
    obtain ⟨y1, y2, y3, y4, y5, y6, y7, y8, y9, y10, rfl, s1⟩ := h
    have e0 : (0 + ((i : Nat) : Int)) = (i : Int) := by omega
    rw [e0]
    refine ⟨.ref a, rfl, .int (i : Int), rfl, a, cs, i, rfl, s1.seq hS, by omega, fun H2 p s2 np hp => ?_⟩
    have npH : H p = none := s1.free np
    refine ⟨2, rfl, by decide, by decide, ?_⟩
    refine for_range (lo := 0) (n := 2) (fun j σ H' => ∃ (y3 y4 y5 y6 y7 y8 y9 y10 : Option V) (t' : Nat), σ = [some (.ref a), some (.int (i : Int)), some (.ref p), y3, y4, y5, y6, y7, y8, y9, y10] ∧ But p H2 H' ∧ PailAt H' p t' ∧ t' ≤ 70 * j) ⟨_, _, _, _, _, _, _, _, 0, rfl, But.refl p H2, hp, by omega⟩ (fun j σ H3 hj h => ?_) (fun σ H3 h => ?_)
    · obtain ⟨y3, y4, y5, y6, y7, y8, y9, y10, t3, rfl, b3, hp3, ht3⟩ := h
      refine ⟨.ref p, rfl, p, t3, 1, 6, rfl, by decide, by decide, by decide, hp3, by omega, fun H4 R t4 ns ps hp4 ht4 b4 O n1 n6 => ?_⟩
      have O0 := O
      obtain ⟨u, c, o1, o2, o3, M, S⟩ := O0
      refine ⟨.ref R, rfl, R, _, 0, .ref u, rfl, rfl, tupNew o1, atI_nat (j := 0) rfl, .ref R, rfl, R, _, 1, .ref c, rfl, rfl, tupNew o1, atI_nat (j := 1) rfl, fun x dx nx nd ne => make_rule (ns := ns) (ps := ps) o2 o3.tups M S nx nd ne fun H5 s5 Rr => ?_⟩
      refine ⟨.ref R, rfl, R, ns, ps, rfl, O.same s5, fun H6 l s6 hL => ?_⟩
      obtain ⟨ks, ek, el, hks⟩ := hL
      refine ⟨l, _, rfl, lstNew el, ?_⟩
      refine for_it (walk_enum (K := K) (a := l) (xs := ks.map fun k => V.ref k.1)) (fun m σ H' => ∃ (y6 y7 y8 y9 y10 : Option V), σ = [some (.ref a), some (.int (i : Int)), some (.ref p), some (.int (0 + (j : Nat))), some (.ref R), some (.ref x), y6, y7, y8, y9, y10] ∧ Same H6 H')
        ⟨_, _, _, _, _, rfl, Same.refl H6⟩ (fun m σ H' _ h => ?_) (fun m v σ H7 H8 hv h y => ?_) (fun σ H7 h => ?_)
      · obtain ⟨_, _, _, _, _, _, s'⟩ := h
        exact lstNew (s' _ _ el)
      · obtain ⟨y6, y7, y8, y9, y10, rfl, s7⟩ := h
        obtain ⟨T0, x1, x2, rfl, nT, rfl, e1, e2⟩ := y
        have e1' : x1 = .int (m : Nat) := (Option.some.inj e1).symm
        subst e1'
        obtain ⟨k, gk, rfl⟩ := map_at e2
        have hkm : k ∈ ks := List.mem_of_getElem? gk
        have gp : (partsOf ps ns.length)[m]? = some k.2 := by rw [← ek, List.getElem?_map, gk]; rfl
        have hpm := List.mem_of_getElem? gp
        have sT := same_upd (o := .tup [.int (m : Nat), .ref k.1]) nT
        refine ⟨T0, _, rfl, tupNew upd_same, rfl, _, _, rfl, _, _, rfl, rfl, ?_⟩
        have s8 := s7.trans sT
        generalize upd H7 T0 (.tup [.int (m : Nat), .ref k.1]) = H8 at s8 ⊢
        have s58 := s6.trans s8
        have hk8 : SqT K H8 k.1 (k.2.map V.int) := tupNew (s8 _ _ (hks k hkm))
        refine ⟨.ref x, rfl, .int (m : Nat), rfl, x, m, ns, ps, k.2, rfl, Rr.same s58, M, S, gp, fun H9 T s9 sp T1 => ?_⟩
        have T2 : T ≤ 1000 := Nat.le_trans T1 (Nat.le_trans (Nat.mul_le_mul (show ns.length ≤ 6 by omega) (show ns.length + 1 ≤ 7 by omega)) (by decide))
        refine ⟨(T : Int), rfl, small_repr T2, ?_⟩
        refine ⟨.ref R, rfl, .ref k.1, rfl, R, k.1, ns, ps, k.2, rfl, O.same ((s5.trans s58).trans s9), sqT_same s9 hk8, hpm, fun H10 T' s10 sp' T1' => ?_⟩
        refine ⟨(T' : Int), rfl, small_repr (by omega), rfl, _, rfl, ?_⟩
        rw [sp.uniq sp', decide_eq_true rfl]
        exact iteF ⟨_, _, _, _, _, rfl, (s8.trans s9).trans s10⟩
      · obtain ⟨y6, y7, y8, y9, y10, rfl, s7⟩ := h
        have s := s5.trans (s6.trans s7)
        exact ⟨_, _, _, _, _, _, _, _, t4, rfl, (b3.trans b4).trans (But.of s), pail_same hp4 s, by omega⟩
    · obtain ⟨y3, y4, y5, y6, y7, y8, y9, y10, t3, rfl, b3, hp3, ht3⟩ := h
      refine ⟨.ref p, rfl, p, t3, 60, rfl, hp3, by omega, by decide, by decide, fun r t4 H4 r0 r1 ht4 hp4 b4 => ⟨_, _, rfl, rfl, thirteen, fun l nl => ?_⟩⟩
      have sl := same_upd (o := .lst [.int 1, .int 2, .int 3, .int 4, .int 5, .int 8, .int 9, .int 16, .int 17, .int 32, .int 33, .int 50, .int (1 + r)]) nl
      have bd : ∀ (k : Nat) (v : V), [V.int 1, .int 2, .int 3, .int 4, .int 5, .int 8, .int 9, .int 16, .int 17, .int 32, .int 33, .int 50, .int (1 + r)][k]? = some v → ∃ m : Nat, v = .int (m : Int) ∧ 1 ≤ m ∧ m ≤ 60 := fun k v hv => by
        have hm := List.mem_of_getElem? hv
        simp only [List.mem_cons, List.not_mem_nil, or_false] at hm
        rcases hm with e | e | e | e | e | e | e | e | e | e | e | e | e
        · exact ⟨1, e, by decide, by decide⟩
        · exact ⟨2, e, by decide, by decide⟩
        · exact ⟨3, e, by decide, by decide⟩
        · exact ⟨4, e, by decide, by decide⟩
        · exact ⟨5, e, by decide, by decide⟩
        · exact ⟨8, e, by decide, by decide⟩
        · exact ⟨9, e, by decide, by decide⟩
        · exact ⟨16, e, by decide, by decide⟩
        · exact ⟨17, e, by decide, by decide⟩
        · exact ⟨32, e, by decide, by decide⟩
        · exact ⟨33, e, by decide, by decide⟩
        · exact ⟨50, e, by decide, by decide⟩
        · exact ⟨(1 + r).toNat, by rw [e]; exact congrArg V.int (by omega), by omega, by omega⟩
      have s5 := (same_but (s1.trans s2) npH (b3.trans b4)).trans sl
      refine ⟨l, rfl, ⟨_, lstNew upd_same⟩, ?_⟩
      have el : (upd H4 l (.lst [.int 1, .int 2, .int 3, .int 4, .int 5, .int 8, .int 9, .int 16, .int 17, .int 32, .int 33, .int 50, .int (1 + r)])) l = some (.lst [.int 1, .int 2, .int 3, .int 4, .int 5, .int 8, .int 9, .int 16, .int 17, .int 32, .int 33, .int 50, .int (1 + r)]) := upd_same
      generalize upd H4 l (.lst [.int 1, .int 2, .int 3, .int 4, .int 5, .int 8, .int 9, .int 16, .int 17, .int 32, .int 33, .int 50, .int (1 + r)]) = H5 at s5 el ⊢
      generalize [V.int 1, .int 2, .int 3, .int 4, .int 5, .int 8, .int 9, .int 16, .int 17, .int 32, .int 33, .int 50, .int (1 + r)] = xs at el bd
      refine for_list (K := K) (a := l) (xs := xs) (fun j σ H' => ∃ (y3 y4 y5 y6 y7 y8 y9 y10 : Option V), σ = [some (.ref a), some (.int (i : Int)), some (.ref p), y3, y4, y5, y6, y7, y8, y9, y10] ∧ Same H5 H') ⟨_, _, _, _, _, _, _, _, rfl, Same.refl H5⟩ (fun j σ H' _ h => ?_) (fun j v σ H6 hv h => ?_) (fun σ H6 h => ?_)
      · obtain ⟨_, _, _, _, _, _, _, _, _, s6⟩ := h
        exact lstNew (s6 _ _ el)
      · obtain ⟨y3, y4, y5, y6, y7, y8, y9, y10, rfl, s6⟩ := h
        obtain ⟨m, rfl, m1, m2⟩ := bd j v hv
        refine ⟨six, fun u nu => ⟨u, rfl, ⟨_, tupNew upd_same⟩, fun D nD => ?_⟩⟩
        have su := same_upd (o := .tup [.int 1, .int 2, .int 4, .int 8, .int 16, .int 32]) nu
        have eu : (upd H6 u (.tup [.int 1, .int 2, .int 4, .int 8, .int 16, .int 32])) u = some (.tup (pws.map V.int)) := upd_same
        generalize upd H6 u (.tup [.int 1, .int 2, .int 4, .int 8, .int 16, .int 32]) = H7 at su eu nD ⊢
        refine lc_tup (K := K) (a := u) (xs := pws.map V.int) (fun k H' => Same H7 H' ∧ H' D = some (.lst (((pws.take k).filter fun x => decide (x < (m : Int))).map V.int))) ⟨same_upd nD, by rw [upd_same]; rfl⟩ (fun k H' _ h => tupNew (h.1 _ _ eu)) (fun k x H' hx h => ?_) fun H' h => ?_
        · obtain ⟨z, gz, rfl⟩ := map_at hx
          have hk : k < 6 := (List.getElem?_eq_some_iff.mp gz).1
          refine ⟨by simp [wipe, List.set_set], .int z, rfl, .int (m : Int), rfl, _, _, rfl, rfl, _, rfl, ?_⟩
          have tk : pws.take (k + 1) = pws.take k ++ [z] := by rw [List.take_add_one, gz]; rfl
          by_cases e : z < (m : Int)
          · rw [decide_eq_true e]
            refine iteT ⟨.int z, rfl, _, h.2, ?_, ?_, ?_⟩
            · have := List.length_filter_le (fun x => decide (x < (m : Int))) (pws.take k)
              rw [List.length_take] at this
              rw [List.length_map]; exact few1 (by omega)
            · exact fun b o z => by rw [upd_ne (ne_of_none z nD)]; exact h.1 b o z
            · rw [upd_same, tk, List.filter_append, List.map_append, show [z].filter (fun x => decide (x < (m : Int))) = [z] from List.filter_cons_of_pos (decide_eq_true e)]; rfl
          · rw [decide_eq_false e]
            refine iteF ⟨h.1, ?_⟩
            rw [h.2, tk, List.filter_append, show [z].filter (fun x => decide (x < (m : Int))) = [] from List.filter_cons_of_neg (by rw [decide_eq_false e]; decide), List.append_nil]
        · rw [List.length_map] at h
          obtain ⟨s8, eD⟩ := h
          refine ⟨D, _, rfl, .inl (lstNew eD), ?_⟩
          rw [List.length_map, List.take_of_length_le (Nat.le_refl _), ← bits_pow m1 m2]
          have hb : Builtin.Int.intBits ((m : Int) - 1) ≤ 1000 := by
            rw [bits_pow m1 m2]
            exact Nat.le_trans (List.length_filter_le _ _) (by decide)
          refine ⟨.int (m : Int), rfl, (m : Int), rfl, ?_⟩
          refine ⟨_, rfl, small_repr hb, _, rfl, _, rfl, small_repr hb, rfl, _, rfl, ?_⟩
          rw [decide_eq_true rfl]
          exact iteF ⟨_, _, _, _, _, _, _, _, rfl, s6.trans (su.trans s8)⟩
      · obtain ⟨y3, y4, y5, y6, y7, y8, y9, y10, rfl, s6⟩ := h
        exact ⟨_, _, _, _, _, _, _, _, _, _, rfl, s5.trans s6⟩
end
end K20
set_option maxHeartbeats 4000000
namespace K20
open PySem PySem.Spec PyProof.Rows L2 RV
theorem all_x {l : PySem.W.OpenLaw} {w : World} {K : PySem.W.Frag} {h : Heap} {mg : Str → Option Value} {fa : Addr} (X : K.In h) (G : h.Ns mainGlobals mg) (hfa : mg "law" = some (.ref fa)) (c : RV.SaysX hdFa hdFn hdEx K) :
    ∃ (fd : FuncData) (sp : Sp), (∀ (s : Shared) (v : Value), BindsTo s fd ⟨[v], []⟩ [("_law_script", v)]) ∧ (∀ (H : Hp) (a : Addr) (ns : List Int), ns.length ≤ 63 → Only H → SqL K H a (ns.map V.int) → sp [.ref a] H (fun v _ => v = .bl true) fun _ _ _ => False) ∧ ∀ base : Heap, K.In base → base.Ns mainGlobals mg → FnG l.prog w K mg base CX0 9 fa fd ["_law_script"] sp := by
  obtain ⟨f31, fd31, F31, bL, mL⟩ := RV.law_x (st := sLaw) (x := "law") (q := "_law_script") X G c 30 (by kernel_rfl) (by kernel_rfl) (by kernel_rfl) fun _ _ _ _ _ _ _ _ => .of_eq rfl
  have e := hfa.symm.trans mL
  cases e
  obtain ⟨C, hC⟩ : ∃ C : Addr, He.ga K "Rule" = C := ⟨_, rfl⟩
  obtain ⟨f1, fd1, p1, r1, m1⟩ := RV.def_x (st := sWhole) (x := "is_whole") (ps := ["thing"]) X G c 0 (by kernel_rfl) (by kernel_rfl) (by kernel_rfl) fun _ _ _ _ _ _ us hl => match us, hl with | [_], _ => rfl
  have D1 : DefAt K mg "is_whole" sWhole ["thing"] f1 fd1 := ⟨p1, r1, m1⟩
  obtain ⟨f2, fd2, p2, r2, m2⟩ := RV.def_x (st := sMark) (x := "is_below") (ps := ["thing", "many"]) X G c 1 (by kernel_rfl) (by kernel_rfl) (by kernel_rfl) fun _ _ _ _ _ _ us hl => match us, hl with | [_, _], _ => rfl
  have D2 : DefAt K mg "is_below" sMark ["thing", "many"] f2 fd2 := ⟨p2, r2, m2⟩
  obtain ⟨f3, fd3, p3, r3, m3⟩ := RV.def_x (st := sMarks) (x := "are_marks") (ps := ["thing", "many"]) X G c 2 (by kernel_rfl) (by kernel_rfl) (by kernel_rfl) fun _ _ _ _ _ _ us hl => match us, hl with | [_, _], _ => rfl
  have D3 : DefAt K mg "are_marks" sMarks ["thing", "many"] f3 fd3 := ⟨p3, r3, m3⟩
  obtain ⟨f4, fd4, p4, r4, m4⟩ := RV.def_x (st := sMirrors) (x := "are_mirrors") (ps := ["thing"]) X G c 3 (by kernel_rfl) (by kernel_rfl) (by kernel_rfl) fun _ _ _ _ _ _ us hl => match us, hl with | [_], _ => rfl
  have D4 : DefAt K mg "are_mirrors" sMirrors ["thing"] f4 fd4 := ⟨p4, r4, m4⟩
  obtain ⟨f5, fd5, p5, r5, m5⟩ := RV.def_x (st := sSteps) (x := "are_steps") (ps := ["mirrors", "thing"]) X G c 4 (by kernel_rfl) (by kernel_rfl) (by kernel_rfl) fun _ _ _ _ _ _ us hl => match us, hl with | [_, _], _ => rfl
  have D5 : DefAt K mg "are_steps" sSteps ["mirrors", "thing"] f5 fd5 := ⟨p5, r5, m5⟩
  obtain ⟨f6, fd6, p6, r6, m6⟩ := RV.def_x (st := sStep) (x := "is_step") (ps := ["thing", "many"]) X G c 5 (by kernel_rfl) (by kernel_rfl) (by kernel_rfl) fun _ _ _ _ _ _ us hl => match us, hl with | [_, _], _ => rfl
  have D6 : DefAt K mg "is_step" sStep ["thing", "many"] f6 fd6 := ⟨p6, r6, m6⟩
  obtain ⟨f7, fd7, p7, r7, m7⟩ := RV.def_x (st := sRising) (x := "is_rising") (ps := ["pairs"]) X G c 6 (by kernel_rfl) (by kernel_rfl) (by kernel_rfl) fun _ _ _ _ _ _ us hl => match us, hl with | [_], _ => rfl
  have D7 : DefAt K mg "is_rising" sRising ["pairs"] f7 fd7 := ⟨p7, r7, m7⟩
  obtain ⟨f8, fd8, p8, r8, m8⟩ := RV.def_x (st := sBehind) (x := "marks_behind") (ps := ["steps", "mark"]) X G c 7 (by kernel_rfl) (by kernel_rfl) (by kernel_rfl) fun _ _ _ _ _ _ us hl => match us, hl with | [_, _], _ => rfl
  have D8 : DefAt K mg "marks_behind" sBehind ["steps", "mark"] f8 fd8 := ⟨p8, r8, m8⟩
  obtain ⟨f9, fd9, p9, r9, m9⟩ := RV.def_x (st := sLed) (x := "led_to") (ps := ["rule", "mark"]) X G c 8 (by kernel_rfl) (by kernel_rfl) (by kernel_rfl) fun _ _ _ _ _ _ us hl => match us, hl with | [_, _], _ => rfl
  have D9 : DefAt K mg "led_to" sLed ["rule", "mark"] f9 fd9 := ⟨p9, r9, m9⟩
  obtain ⟨f10, fd10, p10, r10, m10⟩ := RV.def_x (st := sParts) (x := "parts") (ps := ["rule"]) X G c 9 (by kernel_rfl) (by kernel_rfl) (by kernel_rfl) fun _ _ _ _ _ _ us hl => match us, hl with | [_], _ => rfl
  have D10 : DefAt K mg "parts" sParts ["rule"] f10 fd10 := ⟨p10, r10, m10⟩
  obtain ⟨f11, fd11, p11, r11, m11⟩ := RV.def_x (st := sOff) (x := "steps_off") (ps := ["rule", "marks"]) X G c 10 (by kernel_rfl) (by kernel_rfl) (by kernel_rfl) fun _ _ _ _ _ _ us hl => match us, hl with | [_, _], _ => rfl
  have D11 : DefAt K mg "steps_off" sOff ["rule", "marks"] f11 fd11 := ⟨p11, r11, m11⟩
  obtain ⟨f12, fd12, p12, r12, m12⟩ := RV.def_x (st := sMeasure) (x := "common_measure") (ps := ["one", "other"]) X G c 11 (by kernel_rfl) (by kernel_rfl) (by kernel_rfl) fun _ _ _ _ _ _ us hl => match us, hl with | [_, _], _ => rfl
  have D12 : DefAt K mg "common_measure" sMeasure ["one", "other"] f12 fd12 := ⟨p12, r12, m12⟩
  obtain ⟨f13, fd13, p13, r13, m13⟩ := RV.def_x (st := sPeriod) (x := "period") (ps := ["rule", "part"]) X G c 12 (by kernel_rfl) (by kernel_rfl) (by kernel_rfl) fun _ _ _ _ _ _ us hl => match us, hl with | [_, _], _ => rfl
  have D13 : DefAt K mg "period" sPeriod ["rule", "part"] f13 fd13 := ⟨p13, r13, m13⟩
  obtain ⟨f14, fd14, p14, r14, m14⟩ := RV.def_x (st := sClasses) (x := "classes") (ps := ["rule", "part"]) X G c 13 (by kernel_rfl) (by kernel_rfl) (by kernel_rfl) fun _ _ _ _ _ _ us hl => match us, hl with | [_, _], _ => rfl
  have D14 : DefAt K mg "classes" sClasses ["rule", "part"] f14 fd14 := ⟨p14, r14, m14⟩
  obtain ⟨f15, fd15, p15, r15, m15⟩ := RV.def_x (st := sOfSteps) (x := "ends_of_steps") (ps := ["rule"]) X G c 14 (by kernel_rfl) (by kernel_rfl) (by kernel_rfl) fun _ _ _ _ _ _ us hl => match us, hl with | [_], _ => rfl
  have D15 : DefAt K mg "ends_of_steps" sOfSteps ["rule"] f15 fd15 := ⟨p15, r15, m15⟩
  obtain ⟨f16, fd16, p16, r16, m16⟩ := RV.def_x (st := sEndsBehind) (x := "ends_behind") (ps := ["first", "second"]) X G c 15 (by kernel_rfl) (by kernel_rfl) (by kernel_rfl) fun _ _ _ _ _ _ us hl => match us, hl with | [_, _], _ => rfl
  have D16 : DefAt K mg "ends_behind" sEndsBehind ["first", "second"] f16 fd16 := ⟨p16, r16, m16⟩
  obtain ⟨f17, fd17, p17, r17, m17⟩ := RV.def_x (st := sSpan) (x := "span") (ps := ["rule", "part"]) X G c 16 (by kernel_rfl) (by kernel_rfl) (by kernel_rfl) fun _ _ _ _ _ _ us hl => match us, hl with | [_, _], _ => rfl
  have D17 : DefAt K mg "span" sSpan ["rule", "part"] f17 fd17 := ⟨p17, r17, m17⟩
  obtain ⟨f18, fd18, p18, r18, m18⟩ := RV.def_x (st := sLead) (x := "lead_everywhere") (ps := ["ends", "known", "its_period", "n"]) X G c 17 (by kernel_rfl) (by kernel_rfl) (by kernel_rfl) fun _ _ _ _ _ _ us hl => match us, hl with | [_, _, _, _], _ => rfl
  have D18 : DefAt K mg "lead_everywhere" sLead ["ends", "known", "its_period", "n"] f18 fd18 := ⟨p18, r18, m18⟩
  obtain ⟨f19, fd19, p19, r19, m19⟩ := RV.def_x (st := sDoubl) (x := "doublings") (ps := ["span"]) X G c 18 (by kernel_rfl) (by kernel_rfl) (by kernel_rfl) fun _ _ _ _ _ _ us hl => match us, hl with | [_], _ => rfl
  have D19 : DefAt K mg "doublings" sDoubl ["span"] f19 fd19 := ⟨p19, r19, m19⟩
  obtain ⟨f20, fd20, p20, r20, m20⟩ := RV.def_x (st := sHand) (x := "_law_box") (ps := ["_law_script", "_law_k"]) X G c 19 (by kernel_rfl) (by kernel_rfl) (by kernel_rfl) fun _ _ _ _ _ _ us hl => match us, hl with | [_, _], _ => rfl
  have D20 : DefAt K mg "_law_box" sHand ["_law_script", "_law_k"] f20 fd20 := ⟨p20, r20, m20⟩
  obtain ⟨f21, fd21, p21, r21, m21⟩ := RV.def_x (st := sDraw) (x := "_law_take") (ps := ["_law_box_here", "_law_many"]) X G c 20 (by kernel_rfl) (by kernel_rfl) (by kernel_rfl) fun _ _ _ _ _ _ us hl => match us, hl with | [_, _], _ => rfl
  have D21 : DefAt K mg "_law_take" sDraw ["_law_box_here", "_law_many"] f21 fd21 := ⟨p21, r21, m21⟩
  obtain ⟨f22, fd22, p22, r22, m22⟩ := RV.def_x (st := sDMirrors) (x := "_law_mirrors") (ps := ["_law_box_here", "_law_many"]) X G c 21 (by kernel_rfl) (by kernel_rfl) (by kernel_rfl) fun _ _ _ _ _ _ us hl => match us, hl with | [_, _], _ => rfl
  have D22 : DefAt K mg "_law_mirrors" sDMirrors ["_law_box_here", "_law_many"] f22 fd22 := ⟨p22, r22, m22⟩
  obtain ⟨f23, fd23, p23, r23, m23⟩ := RV.def_x (st := sForm) (x := "_law_form") (ps := ["_law_box_here", "_law_least", "_law_greatest"]) X G c 22 (by kernel_rfl) (by kernel_rfl) (by kernel_rfl) fun _ _ _ _ _ _ us hl => match us, hl with | [_, _, _], _ => rfl
  have D23 : DefAt K mg "_law_form" sForm ["_law_box_here", "_law_least", "_law_greatest"] f23 fd23 := ⟨p23, r23, m23⟩
  obtain ⟨f24, fd24, p24, r24, m24⟩ := RV.def_x (st := sLBehind) (x := "_law_behind") (ps := ["_law_form_here", "_law_mark"]) X G c 23 (by kernel_rfl) (by kernel_rfl) (by kernel_rfl) fun _ _ _ _ _ _ us hl => match us, hl with | [_, _], _ => rfl
  have D24 : DefAt K mg "_law_behind" sLBehind ["_law_form_here", "_law_mark"] f24 fd24 := ⟨p24, r24, m24⟩
  obtain ⟨f25, fd25, p25, r25, m25⟩ := RV.def_x (st := sLLeads) (x := "_law_leads") (ps := ["_law_form_here"]) X G c 24 (by kernel_rfl) (by kernel_rfl) (by kernel_rfl) fun _ _ _ _ _ _ us hl => match us, hl with | [_], _ => rfl
  have D25 : DefAt K mg "_law_leads" sLLeads ["_law_form_here"] f25 fd25 := ⟨p25, r25, m25⟩
  obtain ⟨f26, fd26, p26, r26, m26⟩ := RV.def_x (st := sLParts) (x := "_law_parts") (ps := ["_law_form_here"]) X G c 25 (by kernel_rfl) (by kernel_rfl) (by kernel_rfl) fun _ _ _ _ _ _ us hl => match us, hl with | [_], _ => rfl
  have D26 : DefAt K mg "_law_parts" sLParts ["_law_form_here"] f26 fd26 := ⟨p26, r26, m26⟩
  obtain ⟨f27, fd27, p27, r27, m27⟩ := RV.def_x (st := sTables) (x := "_law_tables") (ps := ["_law_form_here", "_law_most"]) X G c 26 (by kernel_rfl) (by kernel_rfl) (by kernel_rfl) fun _ _ _ _ _ _ us hl => match us, hl with | [_, _], _ => rfl
  have D27 : DefAt K mg "_law_tables" sTables ["_law_form_here", "_law_most"] f27 fd27 := ⟨p27, r27, m27⟩
  obtain ⟨f28, fd28, p28, r28, m28⟩ := RV.def_x (st := sLSize) (x := "_law_size") (ps := ["_law_tables_here", "_law_part"]) X G c 27 (by kernel_rfl) (by kernel_rfl) (by kernel_rfl) fun _ _ _ _ _ _ us hl => match us, hl with | [_, _], _ => rfl
  have D28 : DefAt K mg "_law_size" sLSize ["_law_tables_here", "_law_part"] f28 fd28 := ⟨p28, r28, m28⟩
  obtain ⟨f29, fd29, p29, r29, m29⟩ := RV.def_x (st := sDue) (x := "_law_due") (ps := ["_law_form_here", "_law_part"]) X G c 28 (by kernel_rfl) (by kernel_rfl) (by kernel_rfl) fun _ _ _ _ _ _ us hl => match us, hl with | [_, _], _ => rfl
  have D29 : DefAt K mg "_law_due" sDue ["_law_form_here", "_law_part"] f29 fd29 := ⟨p29, r29, m29⟩
  obtain ⟨f30, fd30, p30, r30, m30⟩ := RV.def_x (st := sByHand) (x := "_law_by_hand") (ps := []) X G c 29 (by kernel_rfl) (by kernel_rfl) (by kernel_rfl) fun _ _ _ _ _ _ us hl => match us, hl with | [], _ => rfl
  have D30 : DefAt K mg "_law_by_hand" sByHand [] f30 fd30 := ⟨p30, r30, m30⟩
  obtain ⟨f32, fd32, F32, b32, a32, i32, k32⟩ := RV.meth_x (st := sInit) (x := "Rule") (m := "__init__") (q := "Rule.__init__") (ps := ["self", "mirrors", "steps"]) c hC 31 62 (by kernel_rfl) (by kernel_rfl) fun _ _ _ _ _ _ us hl => match us, hl with | [_, _, _], _ => rfl
  obtain ⟨f33, fd33, F33, b33, a33, i33, k33⟩ := RV.meth_x (st := sMarksM) (x := "Rule") (m := "marks") (q := "Rule.marks") (ps := ["self"]) c hC 32 63 (by kernel_rfl) (by kernel_rfl) fun _ _ _ _ _ _ us hl => match us, hl with | [_], _ => rfl
  obtain ⟨f34, fd34, F34, b34, a34, i34, k34⟩ := RV.meth_x (st := sMirrorM) (x := "Rule") (m := "mirror") (q := "Rule.mirror") (ps := ["self", "mark"]) c hC 33 64 (by kernel_rfl) (by kernel_rfl) fun _ _ _ _ _ _ us hl => match us, hl with | [_, _], _ => rfl
  obtain ⟨f35, fd35, F35, b35, a35, i35, k35⟩ := RV.meth_x (st := sBehindM) (x := "Rule") (m := "behind") (q := "Rule.behind") (ps := ["self", "mark"]) c hC 34 65 (by kernel_rfl) (by kernel_rfl) fun _ _ _ _ _ _ us hl => match us, hl with | [_, _], _ => rfl
  have pg : PySem.W.plainGet K C Str.empty = true := by
    rw [← hC]
    exact c.dec (P := fun K => PySem.W.plainGet K (He.ga K "Rule") Str.empty = true) 0 (by kernel_rfl)
  have hd : PySem.W.hasDictIn K C = true := by
    rw [← hC]
    exact c.dec (P := fun K => PySem.W.hasDictIn K (He.ga K "Rule") = true) 1 (by kernel_rfl)
  have po : PySem.W.plainOver K C = true := by
    rw [← hC]
    exact c.dec (P := fun K => PySem.W.plainOver K (He.ga K "Rule") = true) 2 (by kernel_rfl)
  have sa : PySem.W.findIn K (.ref C) "__setattr__" = some (some (.builtin "object.__setattr__")) := by
    rw [← hC]
    exact c.dec (P := fun K => PySem.W.findIn K (.ref (He.ga K "Rule")) "__setattr__" = some (some (.builtin "object.__setattr__"))) 3 (by kernel_rfl)
  have mk : PySem.W.makesIn K C = true := by
    rw [← hC]
    exact c.dec (P := fun K => PySem.W.makesIn K (He.ga K "Rule") = true) 4 (by kernel_rfl)
  have kc : PySem.W.keepIn K (.ref C) = true := by
    rw [← hC]
    exact c.dec (P := fun K => PySem.W.keepIn K (.ref (He.ga K "Rule")) = true) 5 (by kernel_rfl)
  have nM : PySem.W.findIn K (.ref C) "mirrors" = some none := by
    rw [← hC]
    exact c.dec (P := fun K => PySem.W.findIn K (.ref (He.ga K "Rule")) "mirrors" = some none) 6 (by kernel_rfl)
  have nS : PySem.W.findIn K (.ref C) "steps" = some none := by
    rw [← hC]
    exact c.dec (P := fun K => PySem.W.findIn K (.ref (He.ga K "Rule")) "steps" = some none) 7 (by kernel_rfl)
  have nF : PySem.W.findIn K (.ref C) "followers" = some none := by
    rw [← hC]
    exact c.dec (P := fun K => PySem.W.findIn K (.ref (He.ga K "Rule")) "followers" = some none) 8 (by kernel_rfl)
  have t1 : PySem.W.findIn K (.ref C) "__class__" = some (some (.builtin "object.__class__")) := by
    rw [← hC]
    exact c.dec (P := fun K => PySem.W.findIn K (.ref (He.ga K "Rule")) "__class__" = some (some (.builtin "object.__class__"))) 9 (by kernel_rfl)
  have t2 : PySem.W.specialIn K (.builtin "object.__class__") "__get__" = some (some (.builtin "getset_descriptor.__get__")) := by
    skip
    exact c.dec (P := fun K => PySem.W.specialIn K (.builtin "object.__class__") "__get__" = some (some (.builtin "getset_descriptor.__get__"))) 10 (by kernel_rfl)
  have t3 : PySem.W.takesIn K (.builtin "object.__class__") = some true := by
    skip
    exact c.dec (P := fun K => PySem.W.takesIn K (.builtin "object.__class__") = some true) 11 (by kernel_rfl)
  have t4 : PySem.W.mroIn K C (.type "object") = some true := by
    rw [← hC]
    exact c.dec (P := fun K => PySem.W.mroIn K (He.ga K "Rule") (.type "object") = some true) 12 (by kernel_rfl)
  obtain ⟨tk, mM⟩ := RV.intX_ok (x := "MOST_MARKS") (i := 8) (c.look 13 (by kernel_rfl))
  have aC : PySem.W.nsIn K mainGlobals "Rule" = some (some (.ref C)) := by
    rw [← hC]
    exact c.dec (P := fun K => PySem.W.nsIn K mainGlobals "Rule" = some (some (.ref (He.ga K "Rule")))) 34 (by kernel_rfl)
  have z0 : PySem.W.nsIn K mainGlobals "len" = some none := by
    skip
    exact c.dec (P := fun K => PySem.W.nsIn K mainGlobals "len" = some none) 14 (by kernel_rfl)
  have z1 : PySem.W.nsIn K mainGlobals "isinstance" = some none := by
    skip
    exact c.dec (P := fun K => PySem.W.nsIn K mainGlobals "isinstance" = some none) 15 (by kernel_rfl)
  have z2 : PySem.W.nsIn K mainGlobals "int" = some none := by
    skip
    exact c.dec (P := fun K => PySem.W.nsIn K mainGlobals "int" = some none) 16 (by kernel_rfl)
  have z3 : PySem.W.nsIn K mainGlobals "bool" = some none := by
    skip
    exact c.dec (P := fun K => PySem.W.nsIn K mainGlobals "bool" = some none) 17 (by kernel_rfl)
  have z4 : PySem.W.nsIn K mainGlobals "tuple" = some none := by
    skip
    exact c.dec (P := fun K => PySem.W.nsIn K mainGlobals "tuple" = some none) 18 (by kernel_rfl)
  have z5 : PySem.W.nsIn K mainGlobals "all" = some none := by
    skip
    exact c.dec (P := fun K => PySem.W.nsIn K mainGlobals "all" = some none) 19 (by kernel_rfl)
  have z6 : PySem.W.nsIn K mainGlobals "enumerate" = some none := by
    skip
    exact c.dec (P := fun K => PySem.W.nsIn K mainGlobals "enumerate" = some none) 20 (by kernel_rfl)
  have z7 : PySem.W.nsIn K mainGlobals "zip" = some none := by
    skip
    exact c.dec (P := fun K => PySem.W.nsIn K mainGlobals "zip" = some none) 21 (by kernel_rfl)
  have z8 : PySem.W.nsIn K mainGlobals "range" = some none := by
    skip
    exact c.dec (P := fun K => PySem.W.nsIn K mainGlobals "range" = some none) 22 (by kernel_rfl)
  have z9 : PySem.W.nsIn K mainGlobals "list" = some none := by
    skip
    exact c.dec (P := fun K => PySem.W.nsIn K mainGlobals "list" = some none) 23 (by kernel_rfl)
  have z10 : PySem.W.nsIn K mainGlobals "set" = some none := by
    skip
    exact c.dec (P := fun K => PySem.W.nsIn K mainGlobals "set" = some none) 24 (by kernel_rfl)
  have z11 : PySem.W.nsIn K mainGlobals "sorted" = some none := by
    skip
    exact c.dec (P := fun K => PySem.W.nsIn K mainGlobals "sorted" = some none) 25 (by kernel_rfl)
  have z12 : PySem.W.nsIn K mainGlobals "abs" = some none := by
    skip
    exact c.dec (P := fun K => PySem.W.nsIn K mainGlobals "abs" = some none) 26 (by kernel_rfl)
  have z13 : PySem.W.nsIn K mainGlobals "max" = some none := by
    skip
    exact c.dec (P := fun K => PySem.W.nsIn K mainGlobals "max" = some none) 27 (by kernel_rfl)
  have z14 : PySem.W.nsIn K mainGlobals "min" = some none := by
    skip
    exact c.dec (P := fun K => PySem.W.nsIn K mainGlobals "min" = some none) 28 (by kernel_rfl)
  have z15 : PySem.W.nsIn K mainGlobals "repr" = some none := by
    skip
    exact c.dec (P := fun K => PySem.W.nsIn K mainGlobals "repr" = some none) 29 (by kernel_rfl)
  have z16 : PySem.W.nsIn K mainGlobals "dict" = some none := by
    skip
    exact c.dec (P := fun K => PySem.W.nsIn K mainGlobals "dict" = some none) 30 (by kernel_rfl)
  have z17 : PySem.W.nsIn K mainGlobals "any" = some none := by
    skip
    exact c.dec (P := fun K => PySem.W.nsIn K mainGlobals "any" = some none) 31 (by kernel_rfl)
  have z18 : PySem.W.nsIn K mainGlobals "str" = some none := by
    skip
    exact c.dec (P := fun K => PySem.W.nsIn K mainGlobals "str" = some none) 32 (by kernel_rfl)
  have z19 : PySem.W.nsIn K mainGlobals "reversed" = some none := by
    skip
    exact c.dec (P := fun K => PySem.W.nsIn K mainGlobals "reversed" = some none) 33 (by kernel_rfl)
  have B : Bare mg := ⟨PySem.W.mg_none_of X G z0, PySem.W.mg_none_of X G z1, PySem.W.mg_none_of X G z2, PySem.W.mg_none_of X G z3, PySem.W.mg_none_of X G z4, PySem.W.mg_none_of X G z5, PySem.W.mg_none_of X G z6, PySem.W.mg_none_of X G z7, PySem.W.mg_none_of X G z8, PySem.W.mg_none_of X G z9, PySem.W.mg_none_of X G z10, PySem.W.mg_none_of X G z11, PySem.W.mg_none_of X G z12, PySem.W.mg_none_of X G z13, PySem.W.mg_none_of X G z14, PySem.W.mg_none_of X G z15, PySem.W.mg_none_of X G z16, PySem.W.mg_none_of X G z17, PySem.W.mg_none_of X G z18, PySem.W.mg_none_of X G z19⟩
  have T : Txt K mg C := ⟨⟨pg, hd, po, sa⟩, nM, nS, nF, PySem.W.mg_of X G aC, t1, t2, t3, t4, kit_self⟩
  have mm := PySem.W.mg_of X G mM
  refine ⟨fd31, (spLaw K), bL, fun _ a ns hl _ hS => ⟨a, ns, rfl, hS, hl, fun _ => rfl⟩, fun base _ _ => ?_⟩
  have G3 : FnOk l.prog w K mg base CX0 3 f3 _ ["thing", "many"] (spMarks K) := ok_marks D3.fn D2 D1 B
  have G4 : FnOk l.prog w K mg base CX0 4 f4 _ ["thing"] (spMirrors K) := ok_mirrors D4.fn D3 G3 B mm
  have G6 : FnOk l.prog w K mg base CX0 4 f6 _ ["thing", "many"] (spStep K) := ok_step D6.fn D3 G3 B
  have G5 : FnOk l.prog w K mg base CX0 5 f5 _ ["mirrors", "thing"] (spSteps K) := ok_steps D5.fn D6 G6 D7 B
  have GI : FnOk l.prog w K mg base CX0 6 f32 _ ["self", "mirrors", "steps"] (spInit K C) := ok_init F32 T D4 G4 D5 G5 D8 B
  have GL : FnOk l.prog w K mg base CX0 2 f9 _ ["rule", "mark"] (spLed K C) := ok_led D9.fn T B F35 b35 ⟨a35, i35, k35⟩
  have GP : FnOk l.prog w K mg base CX0 3 f10 _ ["rule"] (spParts K C) := ok_parts D10.fn T B D9 GL F33 b33 ⟨a33, i33, k33⟩
  have GOF : FnOk l.prog w K mg base CX0 2 f11 _ ["rule", "marks"] (spOff K C) := ok_off D11.fn T B F35 b35 ⟨a35, i35, k35⟩
  have GPE : FnOk l.prog w K mg base CX0 4 f13 _ ["rule", "part"] (spPeriod K C) := ok_period D13.fn T B D10 GP D11 GOF D12
  have GCL : FnOk l.prog w K mg base CX0 5 f14 _ ["rule", "part"] (spClasses K C) := ok_classes D14.fn B D10 GP D11 GOF D13 GPE
  have GS : FnOk l.prog w K mg base CX0 2 f15 _ ["rule"] (spTab K C 1) := ok_ofst D15.fn T B F35 b35 ⟨a35, i35, k35⟩ F33 b33 ⟨a33, i33, k33⟩
  have GSP : FnOk l.prog w K mg base CX0 6 f17 _ ["rule", "part"] (spSpan K C) := ok_span D17.fn B D13 GPE D10 GP D14 GCL D15 GS D16 D18
  have GFO : FnOk l.prog w K mg base CX0 3 f23 _ ["_law_box_here", "_law_least", "_law_greatest"] (spForm K) := ok_form D23.fn D22 D21 B
  have GLL : FnOk l.prog w K mg base CX0 2 f25 _ ["_law_form_here"] (spLLd K) := ok_lld D25.fn B D24
  have GLP : FnOk l.prog w K mg base CX0 3 f26 _ ["_law_form_here"] (spLp K) := ok_lp D26.fn B D25 GLL
  have GTB : FnOk l.prog w K mg base CX0 2 f27 _ ["_law_form_here", "_law_most"] (spTb K) := ok_tb D27.fn B D24
  have GDU : FnOk l.prog w K mg base CX0 3 f29 _ ["_law_form_here", "_law_part"] (spDu K) := ok_du D29.fn B D27 GTB D28
  have GBY : FnOk l.prog w K mg base CX0 8 f30 _ [] spBh := ok_bh D30.fn T B ⟨mk, a32, i32, kc⟩ b32 GI D17 GSP
  exact ok_law F31 T B ⟨mk, a32, i32, kc⟩ b32 GI D20 D21 D23 GFO D26 GLP D30 GBY D17 GSP D19 D29 GDU
end K20
open PySem PySem.W PyProof.Rows
set_option maxRecDepth 100000 in
set_option maxHeartbeats 0 in
theorem PySem.Challenge.cw_ringvouch_k20_spans_and_doublings_holds : PySem.Challenge.rw_ringvouch_k20_spans_and_doublings.Holds := by
  refine K20.hdHolds ?hc
  case hc =>
    refine RV.walk_GE (l := PySem.Challenge.rw_ringvouch_k20_spans_and_doublings) (n := 63) (k := 9) (x := "_law_script") rfl (by decide) (by kernel_rfl) ⟨rfl, by decide, by decide⟩ ?F
    intro w mg fa h Y G hmg0
    obtain ⟨K, KX, c⟩ := Y
    have hmg : mg ("law" : PySem.Str) = some (.ref fa) := by
      rw [← K20.hdName]
      exact hmg0
    obtain ⟨fd, sp, hb, hs, hF⟩ := K20.all_x (l := PySem.Challenge.rw_ringvouch_k20_spans_and_doublings) (w := w) KX G hmg c
    exact ⟨K, fd, sp, KX, hb, hs, hF⟩
