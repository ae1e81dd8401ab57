import PyProof.Rows.All
import Wide.All
import OpenK.AllK
import Wide.FinOn
import HandS.ForMost
import KE.GoesEnum
import HandS.Style
import KE.KRevSl
import PyProof.ReprRoads
import HandS.OwnEq
import PyProof.InstNe
import HandS.TupSets
import HandS.IsInst
import HandS.Walk
import HandS.Zip
import HandS.TupAny
import HandS.Deep
import HandS.Conv
import HandS.More
import HandS.Wide
import HandS.SortRule
import HandS.SortOrd
import KE.KDictSum
import KE.KDictPairs
import HandS.TupMul
import PyProof.AutoSeq1
import KE.KDictZip
import KE.KItemsList
import KE.GoesMore
import HandS.ListItems
import HandS.Rev
import HandS.Strs
import HandS.SetBool
import KE.DataMinMax
import HandS.NamedTupSort
import PyProof.ReprBulk
import HandS.RaiseMore
import HandS.Dict
import HandS.WordsDict
import HandS.SortInts
import HandS.TupLen
import HandS.Iter
import PySem.Challenge.RW_ringvouch_k09_whole_parts_by_any_names
set_option Elab.async false
set_option linter.all false
set_option maxRecDepth 100000
namespace RV
open PySem PySem.Spec PyProof.Rows L2
set_option maxHeartbeats 4000000 in
theorem meets_en1 {val : Value} {ob : Obj} {HH : Heap → Prop} (B : Begins val ob HH) :
    Meets (Builtin.«enumerate.__new__» ⟨[.type "enumerate", val], []⟩) (fun _ R st => HH st.heap ∧
      R (.ok (.ret (.ref (st.heap.push ob).objs.size)))
        { st with heap := (st.heap.push ob).push { cls := .type "enumerate", data := .fields #[.none, .bool false, .ref st.heap.objs.size, rawInt 0, .none, .none] } }) :=
  .of_wp fun prog w A R st hyp => by
    obtain ⟨hp, gs, dr, tk, os⟩ := st
    obtain ⟨hyp1, hyp2⟩ := hyp
    have hsub := sub_enumerate
    have it1 : ∀ {A' : Around} {E : Value → Shared → Prop} {Q : Value → Shared → Prop}, Q (.ref hp.objs.size) ⟨hp.push ob, gs, dr, tk, os⟩ →
        wpAny (model prog w) A' (pyIter val) Q E ⟨hp, gs, dr, tk, os⟩ := fun q => B.iter prog w _ _ ⟨hp, gs, dr, tk, os⟩ _ hyp1 q
    wp_walk using it1
    refine wpAny_stack_any fun sk => wpAny_pure ?_
    split
    · rename_i cc _ _ _ _ _
      cases (cc == Value.type "enumerate") <;> (wp_walk using it1; exact ⟨_, rfl, hyp2⟩)
    · wp_walk using it1
      exact ⟨_, rfl, hyp2⟩
section
variable {prog : Program} {w : World} {A : Around} {E : Value → Shared → Prop} {s : Shared}
theorem call_en1 {val : Value} {ob : Obj} {HH : Heap → Prop} {Q : Value → Shared → Prop} (B : Begins val ob HH) (hh : HH s.heap)
    (k : ∀ h', IsEnum h' (s.heap.objs.size + 1) s.heap.objs.size 0 .none → h'.get? s.heap.objs.size = some ob → h'.objs.size = s.heap.objs.size + 2 →
      (∀ b o, s.heap.get? b = some o → h'.get? b = some o) → Q (.ref (s.heap.objs.size + 1)) { s with heap := h' }) :
    wpAny (model prog w) A (call (.type "enumerate") [val]) Q E s := by
  refine callType_new F.called_enumerate (by decide) (F.typeCall_enumerate_1 _) (F.newCall_enumerate_1 _) (fun oo => F.args_object_init_2 oo _) F.entry_enumerate_new (meets_en1 B) ⟨hh, ?_⟩
  have z1 : (s.heap.push ob).objs.size = s.heap.objs.size + 1 := Heap.size_push ..
  show _ ∧ _
  rw [z1]
  have z2 : IsEnum ((s.heap.push ob).push { cls := .type "enumerate", data := .fields #[.none, .bool false, .ref s.heap.objs.size, rawInt 0, .none, .none] }) (s.heap.objs.size + 1) s.heap.objs.size 0 .none := by
    have z3 := Heap.get?_push_size (s.heap.push ob) (o := { cls := .type "enumerate", data := .fields #[.none, .bool false, .ref s.heap.objs.size, rawInt 0, .none, .none] }) rfl
    rw [z1] at z3; exact z3
  refine ⟨⟨_, z2, rfl⟩, k _ z2 (Heap.get?_push_of_some _ (Heap.get?_push_size _ B.free)) (by rw [Heap.size_push, z1]) fun b o x => ?_⟩
  exact Heap.get?_push_of_some _ (Heap.get?_push_of_some _ x)
end
/-- enumerate of a tuple: the items in new pairs -/
def IteT (K : PySem.W.Frag) (a : Addr) : It where
  go i H := ∃ (xs : List V) (x : V), SqT K H a xs ∧ xs[i]? = some x
  yld i H v H' := ∃ T x, v = .ref T ∧ H T = none ∧ H' = upd H T (.tup [.int (i : Nat), x]) ∧ ∀ xs, SqT K H a xs → xs[i]? = some x
  stop i H := ∃ xs : List V, SqT K H a xs ∧ xs.length ≤ i
theorem turn_enT {P : Program} {w : World} {K : PySem.W.Frag} {elts : List Expr} {kk : Nat} {tpos : Pos} (a e it : Addr) :
    Turn P w K (.Tuple elts kk tpos) (IteT K a) [e, it] e (fun i h => (∃ old, IsEnum h e it ((i : Nat) : Int) old) ∧ h.IsTupleIter it a i ∧ e ≠ it ∧ a ≠ it ∧ a ≠ e) where
  mem := by simp
  obj := fun i h st b hb => by
    obtain ⟨⟨old, he⟩, ⟨o, ho, hc, hd⟩, _, _⟩ := st
    have eb : b = e ∨ b = it := by simpa using hb
    rcases eb with rfl | rfl
    · exact ⟨_, he, fun v q => nomatch q⟩
    · exact ⟨o, ho, fun v q => by rw [hd] at q; cases q⟩
  keep := fun i h h' st k => let ⟨⟨old, he⟩, hi, hne⟩ := st; ⟨⟨old, k e (by simp) _ he⟩, hi.at fun o q => k it (by simp) o q, hne⟩
  item := by
    intro X hP hw hK hc i pins s σ H E I hf st hg
    subst hP hw hK
    obtain ⟨⟨old, he⟩, hit, hne, hai, hae⟩ := st
    obtain ⟨xs, x, hq, hx⟩ := hg
    obtain ⟨its, rv, p, hz⟩ := I.tuple hq
    obtain ⟨u, hu, ru⟩ := rv.get hx
    have hel : e < s.heap.objs.size := Heap.lt_size he
    have hil : it < s.heap.objs.size := by obtain ⟨_, q, _⟩ := hit; exact Heap.lt_size q
    have hi : i < its.toArray.size := by
      have := (List.getElem?_eq_some_iff.mp hu).1
      simpa using this
    refine wpAny_pyNext_enum_itemD (A := X.A) (Draws.tuple (A := X.A.in1) (show X.A.in1.handled = none from I.ok.hd hc) it a hai its.toArray) he ⟨hit, p⟩ hi hne (by simp [hne, Ne.symm hae]) fun y h' tk hy ho hst hT hsz hk => ?_
    have hyu : y = u := by
      have e1 : its[i]? = some y := by simpa using hy
      rw [hu] at e1
      exact (Option.some.inj e1).symm
    subst hyu
    refine ⟨_, rfl, wpAny_letOwnedTupleGo_enum (s := { s with heap := h', toks := tk + 1 }) ho fun h'' he' sb => ?_⟩
    have hT2 : h''.get? s.heap.objs.size = some { cls := .type "tuple", data := .seq #[.int i tk, y] } := (sb.2 _ (Nat.ne_of_gt hel)).trans hT
    have new : ObjOk X.prog X.w (upd H s.heap.objs.size (.tup [.int (i : Nat), x])) h'' s.heap.objs.size (.tup [.int (i : Nat), x]) :=
      ⟨by show 2 ≤ sizeLine; decide, [.int i tk, y], .cons ⟨_, rfl⟩ (.cons ru .nil), ⟨_, hT2, rfl, _, rfl⟩⟩
    have I1 : Inv X pins σ (upd H s.heap.objs.size (.tup [.int (i : Nat), x])) { s with heap := h'', toks := tk + 1 } := by
      refine I.turnedNew (ch := [e, it]) (fun b ob hb q => ?_) hf (Nat.le_refl _) new
      exact (sb.2 b (fun z => hb (by simp [z]))).trans (hk b ob (fun z => hb (by simp [z])) (fun z => hb (by simp [z])) q)
    refine ⟨.ref s.heap.objs.size, _, I1, rfl, ⟨_, x, rfl, I.hok.fresh (Nat.le_refl _), rfl, fun ys hy => ?_⟩, ⟨⟨y, ?_⟩, hst.1.at fun o q => (sb.2 it (Ne.symm hne)).trans q, hne, hai, hae⟩, fun b hb => ?_⟩
    · rw [I.tuple_inj hy hq]; exact hx
    · rw [show ((i + 1 : Nat) : Int) = (i : Int) + 1 by omega]; exact he'
    · have eb : b = e ∨ b = it := by simpa using hb
      have hb' : b < s.heap.objs.size := by
        rcases eb with z | z <;> rw [z] <;> assumption
      rw [upd_ne (Nat.ne_of_lt hb')]
      exact (hf b hb).1
  done := by
    intro X hP hw hK hc i pins s σ H E I hf st hg
    subst hP hw hK
    obtain ⟨⟨old, he⟩, hit, hne, hai, hae⟩ := st
    obtain ⟨xs, hq, hx⟩ := hg
    obtain ⟨its, rv, p, hz⟩ := I.tuple hq
    obtain ⟨f0, f1, f2, f3, f4, f5⟩ := hf it (by simp)
    have hl := rv.length
    have hT : s.TypeIs (.ref e) "enumerate" := ⟨_, he, rfl⟩
    unfold pyNext
    refine wpAny_bind (wpAny_attempt (wpAny_callSpecial?_slot (name := Str.ofString "__next__") hT F.slot_enumerate_next (wpAny_call_entry F.slot_enumerate_next hT F.entry_enumerate_next ?_ (F.args_enumerate_next_1 _))))
    show wpAny _ _ (field (.ref e) 2 >>= _) _ _ _
    refine wpAny_bind (wpAny_field he rfl (x := .ref it) rfl ?_)
    refine wpAny_bind (wpAny_nextOf_tuple_end (I.ok.hd hc) hit p (by simp; omega) fun h' x he' hx' => ?_)
    obtain ⟨o, ho, hco⟩ := hx'
    refine wpAny_bind (wpAny_isInstance (T := "StopIteration") (b := true) ⟨o, ho, hco⟩ isSubtype_stop ?_)
    exact wpAny_pure ⟨rfl, I.turned (t' := s.toks) (fun b o hb q => he' b o hb q) f0 f1 f3 f4 f5⟩
  self := fun A i s Q E st h => let ⟨⟨_, he⟩, _⟩ := st; wpAny_pyIter_enum he h
def iEnT (K : PySem.W.Frag) (ta : TA) : TI := fun σ H R => ta σ H fun vs H1 => ∃ a xs, vs = [.ref a] ∧ SqT K H1 a xs ∧ R (IteT K a) H1
theorem pi_enT {X : Cx} {e : Expr} {ta : TA} {p pos tpos : Pos} {elts : List Expr} {kk : Nat} (hg : Gl X "enumerate") (hm : X.mg "enumerate" = none) (ha : PA X [e] ta)
    (hs : starEach [e] X.env = [(false, eval e X.env)] := by rfl) : PI X (.Tuple elts kk tpos) (.Call (.Name "enumerate" p) [e] [] pos) (iEnT X.K ta) := by
  refine ⟨fun pins s σ H R I h => Call_ (ld_blt I hg hm boot_enumerate (PyProof.Rows.callWith_type1 (thn (ha.run pos pins s σ H _ I h) fun us s1 ⟨vs, H1, I1, r1, q1⟩ => ?_) hs rfl))⟩
  obtain ⟨a, xs, ex, hq, q⟩ := q1
  subst ex
  cases r1 with
  | cons r rr =>
    cases rr
    cases r
    obtain ⟨its, rv, p', hz⟩ := I1.tuple hq
    have ha0 : a < s1.heap.objs.size := by
      obtain ⟨o, ho, _⟩ := p'
      exact Heap.lt_size ho
    refine call_en1 (begins_tuple a its.toArray) p' fun h' he hit hsz hk => wpAny_pyIter_enum he ?_
    have I2 : Inv X pins σ H1 { s1 with heap := h' } := I1.kept (t' := s1.toks) hk
    refine ⟨s1.heap.objs.size + 1, [s1.heap.objs.size + 1, s1.heap.objs.size], _, _, H1, rfl, I2, turn_enT a (s1.heap.objs.size + 1) s1.heap.objs.size,
      ⟨⟨.none, he⟩, ⟨_, hit, rfl, rfl⟩, Nat.succ_ne_self _, Nat.ne_of_lt ha0, Nat.ne_of_lt (Nat.lt_succ_of_lt ha0)⟩, fun b hb => ?_, q⟩
    have eb : b = s1.heap.objs.size + 1 ∨ b = s1.heap.objs.size := by simpa using hb
    have hle : s1.heap.objs.size ≤ b := by
      rcases eb with z | z
      · rw [z]; exact Nat.le_add_right _ _
      · rw [z]; exact Nat.le_refl _
    exact I1.fpOk hle (I1.hok.fresh hle)
end RV
set_option maxHeartbeats 4000000
namespace RV
open PySem PySem.Spec PyProof.Rows L2 HT
theorem back_places (n : Nat) : Builtin.Slice.slicePlaces ((n : Int) - 1) (-1) (-1) = n := by
  unfold Builtin.Slice.slicePlaces
  rw [if_neg (show ¬ ((-1 : Int) > 0) by decide)]
  by_cases hn : (n : Int) - 1 > -1
  · rw [if_pos hn, show (- -1 : Int) = 1 from rfl, Int.ediv_one]; omega
  · rw [if_neg hn]; omega
theorem back_pick (xs : Array Value) : ((List.range xs.size).filterMap fun (m : Nat) => xs[((xs.size : Int) - 1 + (m : Int) * (-1)).toNat]?).toArray = xs.toList.reverse.toArray := by
  have e0 : ∀ (l : List Nat), (∀ m ∈ l, m < xs.size) → l.filterMap (fun (m : Nat) => xs[((xs.size : Int) - 1 + (m : Int) * (-1)).toNat]?) = (l.map fun k => xs.size - 1 - k).filterMap (xs[·]?) := by
    intro l
    induction l with
    | nil => intro _; rfl
    | cons m r ih =>
      intro hm
      have h1 := hm m (List.mem_cons_self ..)
      have h2 := ih fun z hz => hm z (List.mem_cons_of_mem _ hz)
      rw [List.map_cons, List.filterMap_cons, List.filterMap_cons, h2, show ((xs.size : Int) - 1 + (m : Int) * (-1)).toNat = xs.size - 1 - m by omega]
  have e1 := e0 (List.range xs.size) fun m hm => List.mem_range.mp hm
  rw [e1, PySem.W.krv_range, List.filterMap_reverse, PySem.W.krv_all]
section
variable {prog : Program} {w : World} {A : Around} {E : Value → Shared → Prop} {s : Shared}
theorem applied_back {sl : Addr} {vl vu vs : Value} {n : Nat} {Q : Int × Int × Nat → Shared → Prop} (hs : s.heap.IsSliceOf sl vl vu vs) (pl : IsPart vl none) (pu : IsPart vu none) (ps : IsPart vs (some (-1)))
    (k : Q ((n : Int) - 1, -1, n) s) : wpAny (model prog w) A (Builtin.Slice.sliceApplied (.ref sl) (pure (n : Int))) Q E s := by
  obtain ⟨os, o1, o2, o3⟩ := id hs
  unfold Builtin.Slice.sliceApplied Builtin.Slice.sliceFields
  refine wpAny_bind (wpAny_bind (wpAny_field o1 o3 (x := vl) rfl (wpAny_bind (wpAny_field o1 o3 (x := vu) rfl (wpAny_bind (wpAny_field o1 o3 (x := vs) rfl (wpAny_pure ?_)))))))
  refine wpAny_bind (slicePart_ ps ?_)
  show wpAny _ _ (if ((-1 : Int) == 0) = true then _ else _) _ _ s
  rw [if_neg (by decide)]
  refine wpAny_bind (slicePart_ pl (wpAny_bind (slicePart_ pu (wpAny_bind (wpAny_pure ?_)))))
  show wpAny _ _ (pure ((n : Int) - 1, (-1 : Int), Builtin.Slice.slicePlaces ((n : Int) - 1) (-1) (-1))) _ _ s
  rw [back_places]
  exact wpAny_pure k
theorem item_back {t sl : Addr} {items : Array Value} {vl vu vs : Value} {Q : Value → Shared → Prop} (ht : IsTup s.heap t items) (hs : s.heap.IsSliceOf sl vl vu vs) (pl : IsPart vl none) (pu : IsPart vu none) (ps : IsPart vs (some (-1)))
    (k : Q (.ref s.heap.objs.size) { s with heap := s.heap.push { cls := .type "tuple", data := .seq items.toList.reverse.toArray } })
    (hsz : items.size ≤ sizeLine) : wpAny (model prog w) A (getItem (.ref t) (.ref sl)) Q E s := by
  have hok : sizeOk (.seq items.toList.reverse.toArray) := by
    show items.toList.reverse.toArray.size ≤ sizeLine
    simpa using hsz
  obtain ⟨os, o1, o2, o3⟩ := id hs
  have hTs : s.TypeIs (.ref sl) "slice" := ⟨os, o1, o2⟩
  unfold getItem
  try with_reducible refine wpAny_holding ?_
  first | refine wpAny_bind (wpAny_pure ?_) | skip
  refine wpAny_bind (wpAny_sequenceKey ht.typeIs (by decide) ?_)
  refine wpAny_bind (wpAny_callSpecial?_slot (name := Str.ofString "__getitem__") ht.typeIs PyProof.Rows.slot_tuple_getitem (wpAny_call_entry PyProof.Rows.slot_tuple_getitem ht.typeIs entry_tuple_getitem ?_ (args_tuple_getitem _ _)))
  show wpAny _ _ (Builtin.Tuple.tupleItemsOf (.ref t) >>= _) _ _ s
  refine wpAny_bind (tupleItemsOf_ ht (wpAny_bind (wpAny_typeOf hTs ?_)))
  rw [if_pos (by decide)]
  refine wpAny_bind (applied_back hs pl pu ps ?_)
  show wpAny _ _ (if (((items.size : Int) - 1) == 0 && (-1 : Int) == 1 && items.size == items.size) = true then _ else _) _ _ s
  rw [if_neg (by simp), back_pick]
  first
    | exact wpAny_bind (m := Builtin.Tuple.tupleExact _) (wpAny_newObj_type (wpAny_pure ⟨_, rfl, wpAny_pure k⟩) hok)
    | exact wpAny_bind (wpAny_bind (m := Builtin.Tuple.tupleExact _) (wpAny_newObj_type (wpAny_pure (wpAny_pure ⟨_, rfl, wpAny_pure k⟩)) hok))
    | exact wpAny_bind (wpAny_bind (m := Builtin.Tuple.tupleExact _) (wpAny_newObj_type (wpAny_pure ⟨_, rfl, wpAny_pure k⟩) hok))
    | exact wpAny_bind (m := Builtin.Tuple.tupleExact _) (wpAny_newObj_type (wpAny_bind (wpAny_pure (wpAny_pure ⟨_, rfl, wpAny_pure k⟩))) hok)
end
section
variable {X : Cx}
/-- t[::-1] of a tuple -/
def tBackT (K : PySem.W.Frag) (te : TE) : TE := fun σ H Q => te σ H fun x H1 => ∃ a xs, x = .ref a ∧ SqT K H1 a xs ∧ ∀ p, H1 p = none → Q (.ref p) (upd H1 p (.tup xs.reverse))
theorem pe_backT {e : Expr} {te : TE} {k : Nat} {p1 p2 p3 pos : Pos} (he : PE X e te) : PE X (.Subscript e (.Slice none none (some (.UnaryOp .USub (.Constant (.int 1) k p1) p2)) p3) pos) (tBackT X.K te) := by
  refine ⟨fun pins s σ H Q I h => Subscript_ (thn (he.run pins s σ H _ I h) fun v s1 ⟨x, H1, I1, r1, q1⟩ => ?_)⟩
  obtain ⟨a, xs, ex, hx, q⟩ := q1
  subst ex
  cases r1
  have hst : PO X (some (.UnaryOp .USub (.Constant (.int 1) k p1) p2)) (tPart (tUn (rU fun i => .int (-i)) (tC (.int 1)))) := po_some (pe_un un_neg pe_int)
  refine wpAny_Slice (thn (po_none.run pins s1 σ H1 (fun o H2 => o = none ∧ H2 = H1) I1 ⟨rfl, rfl⟩) fun vl s2 ⟨l, H2, I2, pl, el, e2⟩ => ?_)
  subst el e2
  refine thn (po_none.run pins s2 σ H2 (fun o H3 => o = none ∧ H3 = H2) I2 ⟨rfl, rfl⟩) fun vu s3 ⟨u, H3, I3, pu, eu, e3⟩ => ?_
  subst eu e3
  refine thn (hst.run pins s3 σ H3 (fun o H4 => o = some (-1) ∧ H4 = H3) I3 ⟨1, rfl, -1, rfl, rfl, rfl⟩) fun vs s4 ⟨o, H4, I4, ps, eo, e4⟩ => ?_
  subst eo e4
  have I5 : Inv X pins σ H4 { s4 with heap := s4.heap.push { cls := .type "slice", data := .fields #[vl, vu, vs] } } := I4.kept (t' := s4.toks) fun b ob q => Heap.get?_push_of_some _ q
  obtain ⟨its, r, ht, hz⟩ := I5.tuple hx
  have hlen := r.length
  show wpAny (model X.prog X.w) X.A (subscriptTail e _ (.ref a) (.ref s4.heap.objs.size)) (EP X pins σ Q) X.xe { s4 with heap := s4.heap.push { cls := .type "slice", data := .fields #[vl, vu, vs] } }
  refine tail_any (ops := [.ref a, .ref s4.heap.objs.size]) ht.typeIs (PyProof.Rows.slot_tuple_getitem.lookup) ?_ (by with_unfolding_all rfl)
  refine item_back ht (Heap.IsSliceOf.new _ vl vu vs) pl pu ps ?_ (by rw [List.size_toArray]; omega)
  refine ⟨.ref _, _, I5.laid (t' := s4.toks) (o := .tup xs.reverse) (fun b ob q => Heap.get?_push_of_some _ q) (Nat.le_refl _) ?_, rfl, q _ (I5.hok.fresh (Nat.le_refl _))⟩
  exact ⟨by rw [List.length_reverse]; exact hz, its.reverse, r.reverse, IsTup.new _ _⟩
end
end RV
set_option maxHeartbeats 4000000
namespace RV
open PySem PySem.Spec PyProof.Rows L2
/-- as the layer's promise of a def, where no repr runs around -/
structure FnG (P : Program) (w : World) (K : PySem.W.Frag) (mg : Str → Option Value) (base : Heap) (CX : CXT) (k : Nat) (f : Addr) (fd : FuncData) (ps : List Str) (sp : Sp) : Prop where
  many : ∀ vs H Q E, sp vs H Q E → vs.length = ps.length
  goes : ∀ (A : Around) (outer : List Env) (s : Shared) (H : Hp) (args : Args) (us : List Value) (vs : List V) (Q : VK) (E : XK), A.guards = some [] → Room k A → Env0 P w K mg base A outer s H →
    BindsTo s fd args (ps.zip us) → Vals vs us → sp vs H Q E → codeAny (model P w) A (.call (.ref f) args) (CR CX outer P w H s Q E) s
section
variable {P : Program} {w : World} {K : PySem.W.Frag} {mg : Str → Option Value} {base : Heap} {CX : CXT} {k : Nat} {f : Addr} {fd : FuncData} {N ps : List Str} {sp : Sp} {x qual : Str} {st : Stmt}
theorem okG (F : Fun K x qual st f fd) (S : FnScope N ps (defScope st)) (len : ∀ vs H Q E, sp vs H Q E → vs.length = ps.length)
    (body : ∀ (cdv : Value) (A : Around) (outer : List Env) (s : Shared) (H : Hp) (vs : List V) (Q : VK) (E : XK), A.guards = some [] → Room k (A.deeper (envOfC qual (defScope st) s.heap.objs.size f cdv)) → sp vs H Q E →
      ∃ t, PSs (cxOf CX0 P w K mg base N qual (defScope st) f cdv A outer s H E).nox (defBody st) t ∧ t { nx := fun _ H' => Q .non H', rt := Q } (start N vs) H) : FnG P w K mg base CX0 (k + 1) f fd ps sp := by
  obtain ⟨oc, od, kV, doc, pm, an, cdv, ct, osl, rfl, lk, hcd⟩ := F.ex
  refine ⟨len, fun A outer s H args us vs Q E gd hr e0 hb r hsp => ?_⟩
  have KX : K.In s.heap := e0.mod.kin.keeps fun b o z => (e0.bs b o z).1
  have lim : s.heap.NoLimit := e0.mod.nolimit.keeps fun b o z => (e0.bs b o z).1
  have kinds : ∀ y ∈ ps.zip us, (defScope st).names.lookup y.1 = some .local ∨ ((defScope st).names.lookup y.1 = some .cell ∧ ((cellsFrom (s.heap.objs.size + 1) (defScope st).names []).lookup y.1).isSome = true) := by
    rintro ⟨n, v⟩ hy
    exact (S.par n (List.of_mem_zip hy).1).imp id fun q => ⟨q, PySem.W.cellsFrom_some _ _ _ (.inl q)⟩
  refine codeAny_call_function hr.depth (KX _ _ lk) rfl S.co S.gen rfl (PySem.W.codeRec_of KX hcd) (hb _ _ _ _ (wpAny_newFunctionEnv_cells S.kind kinds fun env he s1 z => ?_))
  subst he
  refine ⟨lim.keeps z.toInCall.keep, codeAny_func ?_⟩
  obtain ⟨t, ht, hq⟩ := body cdv A outer s H vs Q E gd (hr.deeper _) hsp
  have I : Inv (cxOf CX0 P w K mg base N qual (defScope st) f cdv A outer s H E) [] (start N vs) H s1 := inv_start S hr.hd e0 (len _ _ _ _ hsp) r z
  refine wpAny_mono (ht.nox.run [] s1 (start N vs) H _ I hq) (fun fl s' hs => ?_) fun e s' hs => hs
  cases fl with
  | ret u =>
    obtain ⟨v, σ', H', J, rv, q⟩ := hs
    exact ⟨v, H', J.os, J.bare, J.base, J.hok, rv, q⟩
  | next =>
    obtain ⟨σ', H', J, q⟩ := hs
    exact ⟨V.non, H', J.os, J.bare, J.base, J.hok, rfl, q⟩
  | brk => exact hs.elim fun _ z => z.elim fun _ y => False.elim y.2
  | cont => exact hs.elim fun _ z => z.elim fun _ y => False.elim y.2
end
section
variable {X : Cx} {CX : CXT} {k : Nat} {f : Addr} {fd : FuncData} {ps : List Str} {sp : Sp} {dvs : List V} {ds : List Value} {E : XK} {x : Str} {p pos : Pos} {e : Expr} {es : List Expr} {t : TA}
/-- f(e, ..) of such a def -/
theorem pe_callG (F : FnG X.prog X.w X.K X.mg X.base CX k f fd ps sp) (gd : X.A.guards = some []) (hr : Room k X.A) (hg : Gl X x) (hm : X.mg x = some (.ref f)) (hk : PySem.W.keepIn X.K (.ref f) = true) (hb : Binds X.K fd ps ds) (hd : Vals dvs ds) (hx : Passes CX X E)
    (ha : PA X (e :: es) t) (hdb : (x == ("__debug__" : Str)) = false := by decide) (he : starEach (e :: es) X.env = (false, eval e X.env) :: starEach es X.env := by rfl) (hpl : (backTo pos (starEach es X.env)).any (·.1) = false := by rfl) :
    PE X (.Call (.Name x p) (e :: es) [] pos) (tCall sp dvs E t) := by
  refine ⟨fun pins s σ H Q I h => wpAny_Call_Name_kw (ld_glob I hg hm ?_ hdb)⟩
  refine PySem.W.callWith_K (h₀ := X.base) I.ok.mod.kin hk (thn (ha.run pos pins s σ H _ I h) fun us s1 ⟨vs, H1, I1, r, q⟩ => ⟨I1.kIn, ?_⟩) he hpl
  have r2 : Vals (vs ++ dvs) (us ++ ds) := r.append hd
  have hl : (us ++ ds).length = ps.length := r2.length ▸ F.many _ _ _ _ q
  refine wpAny_call (codeAny_mono (F.goes X.A X.stack s1 H1 ⟨us, []⟩ (us ++ ds) (vs ++ dvs) Q E gd hr I1.env0 (hb s1 us I1.kIn hl) r2 q) fun rr s' hq => ?_)
  cases rr with
  | error ee => exact hx pins σ H1 s1 ee s' I1 hq
  | ok fl => cases fl <;> first | exact I1.after hq | exact False.elim hq
/-- repr(x), x an object read as data -/
theorem call_reprD (gd : X.A.guards = some []) (hu : X.A.units + 65 < cLine) : CallR X (.builtin "repr") (fun xs H Q => ∃ (a : Addr) (d : PyData), xs = [.ref a] ∧ Dp X.K H (.ref a) d ∧ d.showable = true ∧ d.hasDict = false ∧ d.depth ≤ 64 ∧ d.shown.length ≤ sizeLine ∧ Q (.str d.shown) H) := by
  intro pins s σ H xs us Q I r h
  obtain ⟨a, d, rfl, hd, h1, h2, h3, h4, q⟩ := h
  obtain ⟨u, rfl, ru⟩ := vals1 r
  cases ru
  obtain ⟨as, rd⟩ := Dp.reads I d (.ref a) (.ref a) hd rfl
  refine repr_of_reads' rd h1 (fun z => by rw [h2] at z; cases z) gd (by omega) (fun _ _ z => z) (fun h' uu tk k => ?_) h4
  exact ⟨.str d.shown, H, I.kept k, ⟨uu, rfl⟩, q⟩
end
section
/-- the law's call, from such a promise -/
theorem law_callG {P : Program} {w : World} {K : PySem.W.Frag} {mg mb : Str → Option Value} {k : Nat} {fa a : Addr} {fd : FuncData} {x : Str} {sp : Sp} {st : Shared} {vs : List Value} {ns : List Int}
    (KX : K.In st.heap) (n1 : st.heap.Ns mainGlobals mg) (n2 : st.heap.Ns builtinsNs mb) (n3 : ∀ x : Str, x ≠ "__name__" → mb x = bootBuiltins x) (n4 : st.heap.NoLimit) (n5 : st.gens = #[])
    (ha : st.heap.get? a = some { cls := .type "list", data := .seq vs.toArray }) (hi : IntsAre vs ns) (hl : ns.length ≤ sizeLine) (hr : Room k callerA)
    (F : ∀ base : Heap, K.In base → base.Ns mainGlobals mg → FnG P w K mg base CX0 k fa fd [x] sp) (bnd : ∀ (s : Shared) (u : Value), BindsTo s fd ⟨[u], []⟩ [(x, u)])
    (hsp : ∀ H : Hp, Only H → SqL K H a (ns.map V.int) → sp [.ref a] H (fun v _ => v = .bl true) fun _ _ _ => False) :
    codeAny (model P w) callerA (.call (.ref fa) ⟨[.ref a], []⟩) (fun r s' => r = .ok (.ret (.bool true)) ∧ OldK st.heap s'.heap ∧ s'.os = st.os ∧ AllBare s'.gens) st := by
  have rv := vals_ints hi
  have lv := hi.length
  have key : ∀ H : Hp, Only H → SqL K H a (ns.map V.int) → HOk P w H st.heap → (∀ b, H b ≠ none → b = a) → (H a ≠ none → K.lookup a = none) →
      codeAny (model P w) callerA (.call (.ref fa) ⟨[.ref a], []⟩) (fun r s' => r = .ok (.ret (.bool true)) ∧ OldK st.heap s'.heap ∧ s'.os = st.os ∧ AllBare s'.gens) st := by
    intro H hO hS hok hA hK
    have noA : ∀ {b : Addr} {o : Obj} {es : Array DictEntry} {ep : Nat}, st.heap.get? b = some o → o.data = .dict es ep → H b = none := by
      intro b o es ep e d
      cases q : H b with
      | none => rfl
      | some u =>
        obtain rfl : b = a := hA b (by rw [q]; simp)
        rw [ha] at e
        cases e
        cases (show Data.seq vs.toArray _ = Data.dict es ep from d)
    have nsK : ∀ {b : Addr} {m : Str → Option Value}, st.heap.Ns b m → (hidT st.heap H).Ns b m := fun {b m} ⟨o, es, ep, e, d, r⟩ => ⟨o, es, ep, hidT_get e (noA e d), d, r⟩
    have kb : K.In (hidT st.heap H) := fun b o e => hidT_get (KX b o e) (by
      cases q : H b with
      | none => rfl
      | some u =>
        obtain rfl : b = a := hA b (by rw [q]; simp)
        rw [hK (by rw [q]; simp)] at e
        cases e)
    obtain ⟨mc, l1, l2⟩ := n4
    have e0 : Env0 P w K mg (hidT st.heap H) callerA [] st H :=
      ⟨rfl, ⟨kb, nsK n1, ⟨mb, nsK n2, n3⟩, ⟨mc, nsK l1, l2⟩⟩, fun b o e => of_hidT e, Nat.le_of_eq (hidT_size _ _), trivial, fun b hb => absurd (show b ∈ ([] : List Addr) from hb) (by simp), hok, .of_eq n5⟩
    refine codeAny_mono ((F _ kb (nsK n1)).goes callerA [] st H ⟨[.ref a], []⟩ [.ref a] [.ref a] _ _ rfl hr e0 (bnd st (.ref a)) (.cons rfl .nil) (hsp H hO hS)) fun r s' h => ?_
    cases r with
    | error e => exact False.elim h
    | ok fl =>
      cases fl with
      | next => exact False.elim h
      | brk => exact False.elim h
      | cont => exact False.elim h
      | ret u =>
        obtain ⟨v, H', os, bare, un, hok', r', q⟩ := h
        obtain rfl : v = .bl true := q
        obtain rfl : u = Value.bool true := r'
        refine ⟨rfl, OldK.of_keep fun b o e => ?_, os, bare⟩
        rcases hO b with z | ⟨ob, xs, z⟩
        · exact un.keep b o e z (fun y => absurd (show b ∈ ([] : List Addr) from y) (by simp)) (by simp)
        · have z2 := un.frzs b ob _ z
          obtain ⟨e1, _⟩ := hok b _ z
          obtain ⟨e2, _⟩ := hok' b _ z2
          rw [e] at e1
          cases e1
          exact e2
  cases hk : K.lookup a with
  | some o =>
    have e := KX a o hk
    rw [ha] at e
    cases e
    exact key (fun _ => none) (fun _ => .inl rfl) (.inr ⟨_, vs.toArray, _, hk, rfl, rfl, rfl, by rw [List.size_toArray, lv]; exact hl, by simpa using rv⟩)
      (fun b u z => by cases (show (none : Option HO) = some u from z)) (fun b z => absurd rfl z) fun z => absurd rfl z
  | none =>
    refine key (fun b => if b = a then some (.frz { cls := .type "list", data := .seq vs.toArray } (.lst (ns.map V.int))) else none) (fun b => ?_) (.inl (.inr ⟨{ cls := .type "list", data := .seq vs.toArray }, if_pos rfl⟩)) (fun b u z => ?_) (fun b z => ?_) fun _ => hk
    · by_cases hb : b = a
      · exact .inr ⟨_, _, if_pos hb⟩
      · exact .inl (if_neg hb)
    · by_cases hb : b = a
      · cases (if_pos hb).symm.trans z
        subst hb
        exact ⟨ha, by rw [List.length_map]; exact hl, vs, _, rv, ha⟩
      · cases (if_neg hb).symm.trans z
    · exact Classical.byContradiction fun hb => z (if_neg hb)
theorem walk_G {l : PySem.W.OpenLaw} {n k : Nat} {q : Program} {loose : List Str} {XP : (Str → Option Value) → Heap → Prop} {YP : World → Heap → Prop} {d : DefRec} {K : Params → PySem.W.Frag} {sp : World → Sp} {x : Str}
    (hn : l.most = some n) (hn2 : n ≤ sizeLine) (hdf : d.params.defaults = []) (hr : Room k callerA) (hY : ∀ (w : World) (h : Heap), YP w h → (K w.params).In h)
    (F : ∀ (w : World) (mg : Str → Option Value) (fa : Addr) (h : Heap), (K w.params).In h → h.Ns mainGlobals mg → mg d.name = some (.ref fa) →
      ∃ fd : FuncData, (∀ (s : Shared) (u : Value), BindsTo s fd ⟨[u], []⟩ [(x, u)]) ∧ ∀ base : Heap, (K w.params).In base → base.Ns mainGlobals mg → FnG l.prog w (K w.params) mg base CX0 k fa fd [x] (sp w))
    (hsp : ∀ (w : World) (H : Hp) (a : Addr) (ns : List Int), ns.length ≤ n → Only H → SqL (K w.params) H a (ns.map V.int) → sp w [.ref a] H (fun v _ => v = .bl true) fun _ _ _ => False) :
    PySem.W.WalkO q loose XP YP l.row.toRowW d [] (fun f vs => PySem.call f vs) := by
  refine Att.attach_call hn hdf fun w s₀ st mg mb fa o pm cd doc a vs ns G Y ho hd hcd hmg hobj hints hlen hg => ?_
  obtain ⟨fd, hb, hF⟩ := F w mg fa _ (hY w _ Y) G.T.g hmg
  exact law_callG (hY w _ Y) G.T.g G.T.b G.T.builtins G.T.nolimit hg hobj hints (Nat.le_trans hlen hn2) hr hF hb fun H hO hS => hsp w H a ns hlen hO hS
end
end RV
set_option maxHeartbeats 4000000
namespace RV
open PySem PySem.Spec PyProof.Rows L2 PySem.W
section
variable {prog : Program} {w : World} {A : Around} {E : Value → Shared → Prop} {s : Shared} {K : Frag} {x C L f : Addr} {h₀ : Heap} {m : Str → Option Value} {ox : Obj} {od : Option Obj} {b tb : Value}
theorem ne_bound {Q : Option Value → Shared → Prop} (X : K.In s.heap) (I : InstAt s.heap x ox C od) (hs : findIn K (.ref C) "__ne__" = some (some (.builtin "object.__ne__")))
    (h : wpAny (model prog w) A (call (.builtin "object.__ne__") [.ref x, b]) (fun v => Q (some v)) E s) : wpAny (model prog w) A (callSpecialIfBound? (.ref x) "__ne__" [b]) Q E s := by
  simp only [callSpecialIfBound?, bindSpecialIfBound?]
  refine wpAny_holding (wpAny_bind (wpAny_bind (wpAny_bind (I.type.here ((looks_findIn X hs).here ?_)))))
  refine wpAny_bind (wpAny_askSetting (wpAny_ite ?_))
  have fin : wpAny (model prog w) A (call (.builtin "object.__ne__") ([.ref x] ++ [b]) >>= fun v => pure (some v)) Q E s :=
    wpAny_bind (wpAny_mono h (fun v s' z => wpAny_pure z) fun _ _ z => z)
  split
  · rw [F.cmp_object.ne.bind]
    exact wpAny_bind (wpAny_pure (wpAny_pure fin))
  · rw [F.cmp_object.ne.bind]
    exact wpAny_tryCatch (wpAny_bind (wpAny_pure (wpAny_pure fin)))
theorem obj_ne {Q : Fin → Shared → Prop} (X : K.In s.heap) (hu : A.units < cLine) (I : InstAt s.heap x ox C od) (hs : findIn K (.ref C) "__eq__" = some (some (.ref f))) (hf : isFn K (.ref f) = true)
    (h : wpAny (model prog w) A (call (.ref f) [.ref x, b]) (fun v s' => ∃ c, v = .bool c ∧ Q (.done (.ret (.bool (!c)))) s') E s) :
    wpAny (model prog w) A (Builtin.«object.__ne__» ⟨[.ref x, b], []⟩) Q E s := by
  unfold Builtin.«object.__ne__»
  repeat (first
    | with_reducible refine wpAny_cRoomFor hu ?_
    | (refine wpAny_bind (m := callSpecialIfBound? (.ref x) (Str.ofString "__eq__") [b])
        (ifBound_K X I hs hf (wpAny_mono h (fun r s' hr => by
          obtain ⟨c, rfl, hq⟩ := hr
          repeat (first | exact hq | exact wpAny_pure hq | exact wpAny_truthy_bool hq | (refine wpAny_bind (m := truthy (.bool _)) (wpAny_truthy_bool ?_)) | wp_step)) fun _ _ z => z)))
    | wp_step)
theorem cmp_ne {Q : Value → Shared → Prop} (hu : A.units + 1 < cLine) (F0 : Fr h₀ L s.heap m) (X₀ : K.In h₀) (I : InstAt s.heap x ox C od) (hb : Looks (model prog w) s.heap (typeOf b) (.ref C))
    (hn : findIn K (.ref C) "__ne__" = some (some (.builtin "object.__ne__"))) (hm : mroIn K C (.type "object") = some true)
    (hs : findIn K (.ref C) "__eq__" = some (some (.ref f))) (hf : isFn K (.ref f) = true)
    (h : wpAny (model prog w) A.in1 (call (.ref f) [.ref x, b]) (fun v s' => ∃ c, v = .bool c ∧ Q (.bool (!c)) s') E s) : wpAny (model prog w) A (richCompare .NotEq (.ref x) b) Q E s := by
  have X := X₀.keeps F0.keep
  have one : wpAny (model prog w) A (tryCompare (.ref x) "__ne__" b) (fun r s' => ∃ v, r = some v ∧ Q v s') E s := by
    unfold tryCompare
    refine wpAny_bind (ne_bound X I hn (wpAny_call (codeAny_call_builtin F.cmp_object.ne.plain F.cmpEntry_ne ?_)))
    refine check_slot F.cmpKind_ne F.cmpSplit_ne ?_ (F.cmpArgs_ne _ _) ?_
    · exact I.type.andThen (looks_mroIn X hm)
    · refine obj_ne (A := A.in1) X hu I hs hf (wpAny_mono h (fun v s' hv => ?_) fun _ _ z => z)
      obtain ⟨c, rfl, hq⟩ := hv
      exact ⟨c, rfl, wpAny_pure ⟨_, rfl, hq⟩⟩
  unfold richCompare
  simp only [oneThing_ref]
  refine wpAny_holding (wpAny_bind (wpAny_cRoomFor (Nat.lt_of_succ_lt hu) ?_))
  rw [cmpInfo_NotEq]
  dsimp only
  refine wpAny_bind (I.type.here (wpAny_bind (hb.here ?_)))
  rw [show (Value.ref C != Value.ref C) = false from by simp]
  simp only [Bool.false_eq_true, if_false]
  refine wpAny_bind (wpAny_pure ?_)
  simp only [Bool.false_eq_true, if_false]
  refine wpAny_bind (wpAny_mono one (fun r s' z => ?_) fun _ _ z => z)
  obtain ⟨v, rfl, hq⟩ := z
  exact wpAny_pure hq
end
section
variable {X : Cx} {CX : CXT} {n : Nat} {C f : Addr} {fd : FuncData} {ps : List Str} {sp : Sp} {E : XK}
/-- x != y, instances of the class at C, by the text's own == -/
def rNeI (C : Addr) (sp : Sp) (E : XK) : R2 := fun x y H Q => ∃ a b dx dy fs gs, x = .ref a ∧ y = .ref b ∧ H a = some (.ins C dx fs) ∧ H b = some (.ins C dy gs) ∧ sp [.ref a, .ref b] H (fun v H' => ∃ c, v = .bl c ∧ Q (.bl (!c)) H') E
def rEqI (C : Addr) (sp : Sp) (E : XK) : R2 := fun x y H Q => ∃ a b dx dy fs gs, x = .ref a ∧ y = .ref b ∧ H a = some (.ins C dx fs) ∧ H b = some (.ins C dy gs) ∧ sp [.ref a, .ref b] H (fun v H' => ∃ c, v = .bl c ∧ Q (.bl c) H') E
theorem op_neI (G : FnOk X.prog X.w X.K X.mg X.base CX n f fd ps sp) (hr : Room (n + 1) X.A) (hn : findIn X.K (.ref C) "__ne__" = some (some (.builtin "object.__ne__"))) (hm : mroIn X.K C (.type "object") = some true)
    (hs : findIn X.K (.ref C) "__eq__" = some (some (.ref f))) (hf : isFn X.K (.ref f) = true) (hb : Binds X.K fd ps []) (hx : Passes CX X E) : OpR X (compareOp .NotEq) (rNeI C sp E) := by
  intro pins s σ H x y v u Q I rx ry hq
  obtain ⟨a, b, dx, dy, fs, gs, rfl, rfl, ha, hb', q⟩ := hq
  cases rx
  cases ry
  obtain ⟨mA, J, _⟩ := ins_get I.hok ha
  obtain ⟨mB, J', _⟩ := ins_get I.hok hb'
  obtain ⟨od, J, _⟩ := J.look
  obtain ⟨od', J', _⟩ := J'.look
  obtain ⟨m, hF⟩ := I.fr
  show wpAny (model X.prog X.w) X.A (richCompare .NotEq (.ref a) (.ref b)) (EP X pins σ Q) X.xe s
  refine cmp_ne (by have := hr.un; omega) hF I.ok.mod.kin J J'.type hn hm hs hf ?_
  have hl := G.len _ _ _ _ q
  have r2 : Vals [V.ref a, V.ref b] [Value.ref a, Value.ref b] := .cons rfl (.cons rfl .nil)
  refine wpAny_call (codeAny_mono (G.run X.A.in1 X.stack s H ⟨[.ref a, .ref b], []⟩ [.ref a, .ref b] [.ref a, .ref b] _ E hr.in1 I.env0.in1 (by simpa using hb s [.ref a, .ref b] I.kIn (by simpa using hl)) r2 q) fun r s' hq => ?_)
  cases r with
  | error e => exact hx pins σ H s e s' I hq
  | ok fl =>
    cases fl with
    | ret w =>
      obtain ⟨z, H', I', rz, c, ez, ex⟩ := I.after hq
      subst ez
      cases rz
      exact ⟨c, rfl, .bl (!c), H', I', rfl, ex⟩
    | next => exact False.elim hq
    | brk => exact False.elim hq
    | cont => exact False.elim hq
theorem op_eqI (G : FnOk X.prog X.w X.K X.mg X.base CX n f fd ps sp) (hr : Room n X.A)
    (hs : findIn X.K (.ref C) "__eq__" = some (some (.ref f))) (hf : isFn X.K (.ref f) = true) (hb : Binds X.K fd ps []) (hx : Passes CX X E) : OpR X (compareOp .Eq) (rEqI C sp E) := by
  intro pins s σ H x y v u Q I rx ry hq
  obtain ⟨a, b, dx, dy, fs, gs, rfl, rfl, ha, hb', q⟩ := hq
  cases rx
  cases ry
  obtain ⟨mA, J, _⟩ := ins_get I.hok ha
  obtain ⟨mB, J', _⟩ := ins_get I.hok hb'
  obtain ⟨od, J, _⟩ := J.look
  obtain ⟨od', J', _⟩ := J'.look
  obtain ⟨m, hF⟩ := I.fr
  show wpAny (model X.prog X.w) X.A (richCompare .Eq (.ref a) (.ref b)) (EP X pins σ Q) X.xe s
  refine PySem.W.cmp_K (op := .Eq) (tb := .ref C) hr.units0 hF I.ok.mod.kin J J'.type (by simp [PySem.W.notFirst]) hs hf ?_
  have hl := G.len _ _ _ _ q
  have r2 : Vals [V.ref a, V.ref b] [Value.ref a, Value.ref b] := .cons rfl (.cons rfl .nil)
  refine wpAny_call (codeAny_mono (G.run X.A X.stack s H ⟨[.ref a, .ref b], []⟩ [.ref a, .ref b] [.ref a, .ref b] _ E hr I.env0 (by simpa using hb s [.ref a, .ref b] I.kIn (by simpa using hl)) r2 q) fun r s' hq => ?_)
  cases r with
  | error e => exact hx pins σ H s e s' I hq
  | ok fl =>
    cases fl with
    | ret w =>
      obtain ⟨z, H', I', rz, c, ez, ex⟩ := I.after hq
      subst ez
      cases rz
      exact ⟨.bl c, H', I', rfl, ex⟩
    | next => exact False.elim hq
    | brk => exact False.elim hq
    | cont => exact False.elim hq
end
end RV
set_option maxHeartbeats 4000000
/-! set(xs) of tuples of ints, xs of any length, where few of them are unlike -/
namespace RV
open PySem PySem.Spec PyProof.Rows L2
/-- fewer than 63 unlike ones -/
def FewUnlike (ks : List (Addr × List Int)) : Prop := ∀ L : List (Addr × List Int), (L.map (·.2)).Nodup → (∀ p ∈ L, p ∈ ks) → L.length + 1 < 64
abbrev noneYet (w : World) : Obj := { cls := .type "set", dict := none, data := .set #[] 0 (.fresh 0 0 (!w.params.followText "set-order")) }
section
variable {P : Program} {w : World} {A : Around} {E : Value → Shared → Prop} {s : Shared}
theorem setN_loop {R : Result → Shared → Prop} (hh : A.in1.handled = none) (S l it : Addr) (hSl : S ≠ l) (hSi : S ≠ it) (hli : l ≠ it) (items : Array Value) (ks : List (Addr × List Int)) (few : FewUnlike ks)
    (refs : ∀ (i : Nat) (p : Addr × List Int), ks[i]? = some p → items[i]? = some (Value.ref p.1)) (size : items.size = ks.length) (old : Heap) (tups : ∀ p ∈ ks, IsT P w old p.2 p.1) (o1 : old.get? S = none) (o2 : old.get? it = none) (hu : A.in1.units < cLine) :
    ∀ (k i : Nat) (s : Shared), ks.length - i = k → i ≤ ks.length → s.heap.IsListIter it l i → s.heap.IsList l items → (∀ b o, old.get? b = some o → s.heap.get? b = some o) → (∃ L es ep t, SetTR P w s.heap S L es ep t ∧ Got ks i L) →
      (∀ h' tk L es ep t, SetTR P w h' S L es ep t → Got ks ks.length L → (∀ b o, old.get? b = some o → h'.get? b = some o) → R (.ok (.ret .none)) { s with heap := h', toks := tk }) →
      codeAny (model P w) A (.builtin "set.update.loop" ⟨[.ref S, .ref it], []⟩) R s
  | 0, i, s, hk, hi, hit, hl, keep, ⟨L, es, ep, t, hS, got⟩, fin => by
    obtain rfl : i = ks.length := by omega
    refine codeAny_builtin F.entry_set_update_loop ?_
    rw [Around.under_plainId F.plain_set_update_loop _]
    show wpAny _ A.in1 (pyNext (.ref it) >>= _) _ _ s
    refine wpAny_bind (wpAny_pyNext_list_end hh hit hl (by simp [size]) fun h' ext => ?_)
    have keep' : ∀ b o, old.get? b = some o → h'.get? b = some o := fun b o e => ext b o (fun z => by rw [z, o2] at e; cases e) (keep b o e)
    exact wpAny_pure (fin h' s.toks L es ep t (hS.keep (fun o e => ext S o hSi e) fun p hp => isT_keep (tups p (List.mem_of_mem_take (got.sub p hp))) keep') got keep')
  | k + 1, i, s, hk, hi, hit, hl, keep, ⟨L, es, ep, t, hS, got⟩, fin => by
    obtain ⟨p, hp⟩ : ∃ p, ks[i]? = some p := ⟨_, List.getElem?_eq_getElem (by omega)⟩
    refine codeAny_builtin F.entry_set_update_loop ?_
    rw [Around.under_plainId F.plain_set_update_loop _]
    show wpAny _ A.in1 (pyNext (.ref it) >>= _) _ _ s
    refine wpAny_bind (wpAny_pyNext_list_item hit hl (refs i p hp) fun h1 hit1 sb1 => ?_)
    have keep1 : ∀ b o, old.get? b = some o → h1.get? b = some o := fun b o e => (sb1.2 b fun z => by rw [z, o2] at e; cases e).trans (keep b o e)
    have inKs : ∀ q ∈ L, q ∈ ks := fun q hq => List.mem_of_mem_take (got.sub q hq)
    have hS1 : SetTR P w h1 S L es ep t := hS.keep (fun o e => (sb1.2 S hSi).trans e) fun q hq => isT_keep (tups q (inKs q hq)) keep1
    have hT : IsT P w h1 p.2 p.1 := isT_keep (tups p (List.mem_of_getElem? hp)) keep1
    show wpAny _ A.in1 (holding [Value.ref p.1] (setAdd S (.ref p.1)) >>= _) _ _ _
    refine wpAny_bind (wpAny_holding ?_)
    unfold setAdd
    refine wpAny_holding (wpAny_bind (wpAny_pyHash_tuple hu hT ?_))
    refine add_at (s := { s with heap := h1, toks := s.toks + (p.2.length + 1) }) hS1 hT hu (few L hS1.nd inKs) fun b h2 L2 es2 ep2 t2 sb2 hS2 yes no => ?_
    have got2 : Got ks (i + 1) L2 := by
      by_cases c : p.2 ∈ L.map (·.2)
      · rw [yes c]; exact got.same hp c
      · exact got.more hp (no c)
    have keep2 : ∀ b o, old.get? b = some o → h2.get? b = some o := fun b o e => (sb2.2 b fun z => by rw [z, o1] at e; cases e).trans (keep1 b o e)
    refine wpAny_pure ⟨plainId_quiet F.plain_set_update_loop _, setN_loop hh S l it hSl hSi hli items ks few refs size old tups o1 o2 hu k (i + 1) _ (by omega) (by omega)
      (hit1.at fun o e => (sb2.2 it (Ne.symm hSi)).trans e) ((hl.at fun o e => (sb1.2 l hli).trans e).at fun o e => (sb2.2 l (Ne.symm hSl)).trans e) keep2 ⟨L2, es2, ep2, t2, hS2, got2⟩ fun h' tk L' es' ep' t' z1 z2 z3 => ?_⟩
    exact fin h' tk L' es' ep' t' z1 z2 z3
set_option maxHeartbeats 8000000 in
theorem call_setN {l : Addr} {items : Array Value} (ks : List (Addr × List Int)) {Q : Value → Shared → Prop} (hh : A.handled = none) (hl : s.heap.IsList l items) (refs : items.toList = ks.map fun p => Value.ref p.1)
    (tups : ∀ p ∈ ks, IsT P w s.heap p.2 p.1) (few : FewUnlike ks) (hu : A.units + 3 < cLine)
    (k : ∀ (h' : Heap) (tk : Nat) L es ep t, SetTR P w h' s.heap.objs.size L es ep t → Got ks ks.length L → (∀ b o, s.heap.get? b = some o → h'.get? b = some o) → Q (.ref s.heap.objs.size) { s with heap := h', toks := tk }) :
    wpAny (model P w) A (call (.type "set") [.ref l]) Q E s := by
  have size : items.size = ks.length := by simpa using congrArg List.length refs
  have refs' : ∀ (i : Nat) (p : Addr × List Int), ks[i]? = some p → items[i]? = some (Value.ref p.1) := fun i p e => by
    rw [← Array.getElem?_toList, refs, List.getElem?_map, e]; rfl
  obtain ⟨c, tl, hm⟩ := F.called_set.mro
  have a1 := F.called_set.made
  have a2 := F.called_set.sub
  have a3 := F.called_set.notType
  have a4 := F.called_set.canCreate
  have a5 := F.typeCall_set_1 (.ref l)
  refine wpAny_call (codeAny_of_tree ?_)
  show wpAny _ _ (callAny (.type "set") _) _ _ _
  refine wpAny_pure ⟨Code.quiet_builtin _ (by decide +kernel), codeAny_builtin F.entry_type_call ?_⟩
  rw [Around.under_plain (weight_type_call_type "set" [.ref l] []) rfl]
  repeat (any_goals (first | assumption | wp_step))
  refine codeAny_mono (code_set_led1 (.ref l) (E := E) (Q₁ := fun obj s₁ => obj = .ref s.heap.objs.size ∧ s₁ = { s with heap := s.heap.push (noneYet w) }) ⟨rfl, rfl⟩) fun r s₁ hr => ?_
  match r, hr with
  | .error e, hr => exact hr
  | .ok .next, hr => exact hr.elim
  | .ok .brk, hr => exact hr.elim
  | .ok .cont, hr => exact hr.elim
  | .ok (.ret obj), hr =>
    obtain ⟨rfl, rfl⟩ := hr
    have hS : (s.heap.push (noneYet w)).get? s.heap.objs.size = some (noneYet w) := Heap.get?_push_size _ rfl
    have hT : Shared.TypeIs { s with heap := s.heap.push (noneYet w) } (.ref s.heap.objs.size) "set" := ⟨_, hS, rfl⟩
    have b1 := F.called_set.init.lookup
    have b2 := F.called_set.init.bind (.ref s.heap.objs.size)
    repeat (any_goals (first | assumption | wp_step))
    refine codeAny_mono (codeAny_call_builtin (R := wants (fun r s₂ => r = .none ∧ ∃ h' tk L es ep t, s₂ = { s with heap := h', toks := tk } ∧ SetTR P w h' s.heap.objs.size L es ep t ∧ Got ks ks.length L ∧
        (∀ b o, s.heap.get? b = some o → h'.get? b = some o)) E) F.called_set.init.plain F.entry_set_init (check_set_init_1 hT ?_)) fun r₂ s₂ hr₂ => ?_
    · obtain ⟨⟨oc, od, dt, os⟩, g1, g2, nl, g3⟩ := hl
      simp only at g2 g3
      subst g2 g3
      have g4 : (s.heap.push (noneYet w)).get? l = some { cls := .type "list", dict := od, data := .seq items nl, slots := os } := Heap.get?_push_of_some _ g1
      have c1 := F.sub_list_set
      have c2 := F.sub_list_frozenset
      have c3 : (Value.type "list" == Value.type "dict") = false := by decide
      have isl : (s.heap.push (noneYet w)).IsList l items := ⟨_, g4, rfl, nl, rfl⟩
      unfold Builtin.«set.__init__» noKeywords Builtin.Frozenset.updateFrom
      generalize hpi : pyIter = pI
      wp_walk
      subst hpi
      refine wpAny_pyIter_list isl (wpAny_bind (wpAny_runValue ?_))
      have lt : l < s.heap.objs.size := Heap.lt_size g1
      have z1 : (s.heap.push (noneYet w)).objs.size = s.heap.objs.size + 1 := Heap.size_push ..
      have none1 : ∀ b, s.heap.objs.size ≤ b → s.heap.get? b = none := fun b hb => by
        cases q : s.heap.get? b with
        | none => rfl
        | some o => exact absurd (Nat.lt_of_lt_of_le (Heap.lt_size q) hb) (Nat.lt_irrefl _)
      refine setN_loop (A := A.in1.in1) (by simp [hh]) s.heap.objs.size l (s.heap.push (noneYet w)).objs.size (Nat.ne_of_gt lt) (by rw [z1]; exact Nat.ne_of_lt (Nat.lt_succ_self _)) (by rw [z1]; exact Nat.ne_of_lt (Nat.lt_succ_of_lt lt)) items ks few refs' size s.heap tups (none1 _ (Nat.le_refl _)) (none1 _ (by rw [z1]; exact Nat.le_succ _)) hu (ks.length - 0) 0 _ rfl (Nat.zero_le _)
        ⟨_, Heap.get?_push_size _ rfl, rfl, rfl⟩ (isl.push _) (fun b o e => Heap.get?_push_of_some _ (Heap.get?_push_of_some _ e)) ⟨[], #[], 0, _, setTR_fresh (Heap.get?_push_of_some _ hS), Got.zero ks⟩ fun h' tk L es ep t q1 q2 q3 => ?_
      show wpAny _ _ _ _ _ _
      refine wpAny_pure ?_
      show wpAny _ _ (ret Value.none) _ _ _
      exact wpAny_pure ⟨rfl, h', tk, L, es, ep, t, rfl, q1, q2, q3⟩
    · match r₂, hr₂ with
      | .error e, hr₂ => exact hr₂
      | .ok .next, hr₂ => exact hr₂.elim
      | .ok .brk, hr₂ => exact hr₂.elim
      | .ok .cont, hr₂ => exact hr₂.elim
      | .ok (.ret r), hr₂ =>
        obtain ⟨rfl, h', tk, L, es, ep, t, rfl, q1, q2, q3⟩ := hr₂
        repeat (any_goals (first | assumption | wp_step))
        exact k _ _ _ _ _ _ q1 q2 q3
end
section
variable {X : Cx}
def rSetN (K : PySem.W.Frag) (P : Program) (w : World) : List V → Hp → VK → Prop := fun xs H Q => ∃ (l : Addr) (ks : List (Addr × List Int)), xs = [V.ref l] ∧ SqL K H l (ks.map fun p => V.ref p.1) ∧ (∀ p ∈ ks, SqT K H p.1 (p.2.map V.int)) ∧ FewUnlike ks ∧
  ∀ a L, H a = none → (∀ p ∈ L, p ∈ ks) → (∀ p ∈ ks, p.2 ∈ L.map (·.2)) → Q (.ref a) (upd H a (SetTO P w a L))
theorem cr_setN (hc : X.calm = true) (hu : X.A.units + 64 < cLine) : CallR X (.type "set") (rSetN X.K X.prog X.w) := by
  intro pins s σ H xs us Q I r h
  obtain ⟨l, ks, rfl, hl, hk, few, q⟩ := h
  rw [Vals.ref1 r]
  obtain ⟨its, rv, pl, hz⟩ := I.list hl
  refine call_setN ks (I.ok.hd hc) pl.isList (by simpa using refs_of_vals rv) (fun p hp => I.isT (hk p hp)) few (by omega) fun h' tk L es ep t R g kp => ?_
  refine ⟨.ref s.heap.objs.size, upd H s.heap.objs.size (SetTO X.prog X.w s.heap.objs.size L), I.laid (t' := tk) kp (Nat.le_refl _) (setTO_new R.t0), rfl, ?_⟩
  exact q _ L (I.hok.fresh (Nat.le_refl _)) (fun p hp => List.mem_of_mem_take (g.sub p hp)) fun p hp => g.all p (by rw [List.take_length]; exact hp)
end
end RV
set_option maxHeartbeats 4000000
namespace RV
open PySem PySem.Spec PyProof.Rows L2
/-! ### heaps -/
theorem same_upd {H : Hp} {p : Addr} {o : HO} (h : H p = none) : Same H (upd H p o) := fun b x e => by
  rw [upd_ne (ne_of_none e h)]
  exact e
theorem sqT_same {K : PySem.W.Frag} {H H' : Hp} {a : Addr} {xs : List V} (e : Same H H') (h : SqT K H a xs) : SqT K H' a xs := SqT.ext h e
theorem sqL_same {K : PySem.W.Frag} {H H' : Hp} {a : Addr} {xs : List V} (e : Same H H') (h : SqL K H a xs) : SqL K H' a xs := SqL.ext h e
theorem tyT {K : PySem.W.Frag} {H : Hp} {a : Addr} {xs : List V} (h : SqT K H a xs) : TyX K H (.ref a) (.type "tuple") := by
  rcases h with (h | ⟨o, h⟩) | ⟨o, its, n, h1, h2, _⟩
  · exact .base (.tup h)
  · exact .fTuple h
  · exact .kTuple h1 h2
theorem tupNew {K : PySem.W.Frag} {H : Hp} {a : Addr} {xs : List V} (h : H a = some (.tup xs)) : SqT K H a xs := .inl (.inl h)
theorem lstNew {K : PySem.W.Frag} {H : Hp} {a : Addr} {xs : List V} (h : H a = some (.lst xs)) : SqL K H a xs := .inl (.inl h)
theorem walk_enT {K : PySem.W.Frag} {a : Addr} {xs : List V} : Walk (IteT K a) xs.length (fun H => SqT K H a xs) (YPair (fun i => some (.int (i : Nat))) (fun i => xs[i]?)) := by
  refine ⟨fun i _ hi q => ⟨xs, xs[i], q, by simp [hi]⟩, fun _ q => ⟨xs, q, Nat.le_refl _⟩, fun i H v H' _ q y => ?_⟩
  obtain ⟨T, x, h1, h2, h3, h4⟩ := y
  exact ⟨T, .int (i : Nat), x, h1, h2, h3, rfl, h4 xs q⟩
theorem walk_zipT {K : PySem.W.Frag} {a b : Addr} {xs ys : List V} {n : Nat} (hn : n = min xs.length ys.length) : Walk (RZ.ItzT K a b) n (fun H => SqT K H a xs ∧ SqT K H b ys) (YPair (fun i => xs[i]?) (fun i => ys[i]?)) := by
  subst hn
  refine ⟨fun i _ hi q => ⟨xs, ys, xs[i]'(by omega), ys[i]'(by omega), q.1, q.2, List.getElem?_eq_getElem _, List.getElem?_eq_getElem _⟩, fun _ q => ⟨xs, ys, q.1, q.2, by omega⟩, fun i H v H' _ q y => ?_⟩
  obtain ⟨T, x, z, h1, h2, h3, h4, h5⟩ := y
  exact ⟨T, x, z, h1, h2, h3, h4 xs q.1, h5 ys q.2⟩
/-- a tuple of tuples of ints -/
def Tups (K : PySem.W.Frag) (H : Hp) (a : Addr) (ps : List (List Int)) : Prop := ∃ ks : List (Addr × List Int), ks.map (·.2) = ps ∧ SqT K H a (ks.map fun p => V.ref p.1) ∧ ∀ p ∈ ks, SqT K H p.1 (p.2.map V.int)
/-- a list of tuples of ints -/
def Lots (K : PySem.W.Frag) (H : Hp) (a : Addr) (ps : List (List Int)) : Prop := ∃ ks : List (Addr × List Int), ks.map (·.2) = ps ∧ SqL K H a (ks.map fun p => V.ref p.1) ∧ ∀ p ∈ ks, SqT K H p.1 (p.2.map V.int)
theorem Tups.same {K : PySem.W.Frag} {H H' : Hp} {a : Addr} {ps : List (List Int)} (h : Tups K H a ps) (e : Same H H') : Tups K H' a ps :=
  let ⟨ks, h1, h2, h3⟩ := h; ⟨ks, h1, sqT_same e h2, fun p hp => sqT_same e (h3 p hp)⟩
theorem Lots.same {K : PySem.W.Frag} {H H' : Hp} {a : Addr} {ps : List (List Int)} (h : Lots K H a ps) (e : Same H H') : Lots K H' a ps :=
  let ⟨ks, h1, h2, h3⟩ := h; ⟨ks, h1, sqL_same e h2, fun p hp => sqT_same e (h3 p hp)⟩
theorem dpInts {K : PySem.W.Frag} {H : Hp} : ∀ ns : List Int, DpAll K H (ns.map V.int) (ns.map PyData.int)
  | [] => .nil
  | n :: r => .cons (.int n) (dpInts r)
def dI (ns : List Int) : PyData := .tuple (ns.map PyData.int)
def dTT (ps : List (List Int)) : PyData := .tuple (ps.map dI)
theorem dpT {K : PySem.W.Frag} {H : Hp} {a : Addr} {ns : List Int} (h : SqT K H a (ns.map V.int)) : Dp K H (.ref a) (dI ns) := .tup h (dpInts ns)
theorem dpTs {K : PySem.W.Frag} {H : Hp} : ∀ ks : List (Addr × List Int), (∀ p ∈ ks, SqT K H p.1 (p.2.map V.int)) → DpAll K H (ks.map fun p => V.ref p.1) ((ks.map (·.2)).map dI)
  | [], _ => .nil
  | p :: r, h => .cons (dpT (h p (List.mem_cons_self ..))) (dpTs r fun q hq => h q (List.mem_cons_of_mem _ hq))
theorem Tups.dp {K : PySem.W.Frag} {H : Hp} {a : Addr} {ps : List (List Int)} (h : Tups K H a ps) : Dp K H (.ref a) (dTT ps) := by
  obtain ⟨ks, rfl, h2, h3⟩ := h
  exact .tup h2 (dpTs ks h3)
theorem map_at {α β : Type} {f : α → β} {l : List α} {i : Nat} {y : β} (h : (l.map f)[i]? = some y) : ∃ x, l[i]? = some x ∧ y = f x := by
  rw [List.getElem?_map] at h
  cases e : l[i]? with
  | none => rw [e] at h; cases h
  | some x => rw [e] at h; exact ⟨x, rfl, (Option.some.inj h).symm⟩
theorem all_true : ∀ n : Nat, (List.replicate n true).all id = true
  | 0 => rfl
  | n + 1 => by rw [List.replicate_succ, List.all_cons, all_true n]; rfl
theorem rep_bl (n : Nat) : List.replicate n (V.bl true) = (List.replicate n true).map V.bl := by rw [List.map_replicate]
theorem rep_next {α : Type} (n : Nat) (x : α) : List.replicate n x ++ [x] = List.replicate (n + 1) x := by rw [List.replicate_succ', ]
theorem tt_yes {σ : L2.St} {H : Hp} {A B : Hp → Prop} (h : A H) : tYes σ H (fun b H3 => if b = true then A H3 else B H3) := iteT (A := A H) (B := B H) h
theorem un65 {k : Nat} {A : Around} (r : Room k A) : A.units + 65 < cLine := by have := r.un; omega
theorem few1 {n : Nat} (h : n ≤ 1000) : n < sizeLine := small1000 h
/-! ### data of ints, tuples of these -/
theorem lay_ints : ∀ ns : List Int, PyData.canLayAll0 (ns.map PyData.int) = true
  | [] => by simp [PyData.canLayAll0]
  | n :: r => by simp [PyData.canLayAll0, PyData.canLay0, lay_ints r]
theorem dep_ints : ∀ ns : List Int, PyData.depthAll (ns.map PyData.int) = 0
  | [] => by simp [PyData.depthAll]
  | n :: r => by simp [PyData.depthAll, PyData.depth, dep_ints r]
theorem dI_lay (ns : List Int) : (dI ns).canLay0 = true := by simp only [dI, PyData.canLay0]; exact lay_ints ns
theorem dI_dep (ns : List Int) : (dI ns).depth = 1 := by simp only [dI, PyData.depth, dep_ints]
theorem lay_dI : ∀ ps : List (List Int), PyData.canLayAll0 (ps.map dI) = true
  | [] => by simp [PyData.canLayAll0]
  | n :: r => by simp [PyData.canLayAll0, dI_lay, lay_dI r]
theorem dep_dI : ∀ ps : List (List Int), PyData.depthAll (ps.map dI) ≤ 1
  | [] => by simp [PyData.depthAll]
  | n :: r => by
    have h := dep_dI r
    simp only [List.map_cons, PyData.depthAll, dI_dep]
    omega
theorem shapedI (ns : List Int) : SeqAt.shaped (dI ns) = true := by
  show ((dI ns).canLay0 && decide ((dI ns).depth ≤ 64)) = true
  rw [dI_lay, dI_dep]; rfl
theorem shapedTT (ps : List (List Int)) : SeqAt.shaped (dTT ps) = true := by
  have h := dep_dI ps
  have e : (dTT ps).depth ≤ 64 := by simp only [dTT, PyData.depth]; omega
  show ((dTT ps).canLay0 && decide ((dTT ps).depth ≤ 64)) = true
  rw [decide_eq_true e, Bool.and_true]
  simp only [dTT, PyData.canLay0]; exact lay_dI ps
theorem eqv_ints : ∀ ns ms : List Int, PyData.eqvAll (ns.map PyData.int) (ms.map PyData.int) = decide (ns = ms)
  | [], [] => by simp [PyData.eqvAll]
  | [], m :: r => by simp [PyData.eqvAll]
  | n :: r, [] => by simp [PyData.eqvAll]
  | n :: r, m :: q => by
    have h := eqv_ints r q
    simp only [List.map_cons, PyData.eqvAll, PyData.eqv, h]
    by_cases e : n = m
    · subst e; by_cases e2 : r = q <;> simp [e2]
    · simp [e]
theorem eqvI (ns ms : List Int) : PyData.eqv (dI ns) (dI ms) = decide (ns = ms) := by simp only [dI, PyData.eqv, eqv_ints]
theorem eqv_dIs : ∀ ns ms : List (List Int), PyData.eqvAll (ns.map dI) (ms.map dI) = decide (ns = ms)
  | [], [] => by simp [PyData.eqvAll]
  | [], m :: r => by simp [PyData.eqvAll]
  | n :: r, [] => by simp [PyData.eqvAll]
  | n :: r, m :: q => by
    have h := eqv_dIs r q
    simp only [List.map_cons, PyData.eqvAll, eqvI, h]
    by_cases e : n = m
    · subst e; by_cases e2 : r = q <;> simp [e2]
    · simp [e]
theorem eqvTT (ns ms : List (List Int)) : PyData.eqv (dTT ns) (dTT ms) = decide (ns = ms) := by simp only [dTT, PyData.eqv, eqv_dIs]
theorem any_dI (p : List Int) : ∀ ps : List (List Int), (ps.map dI).any (fun y => PyData.eqv y (dI p)) = decide (p ∈ ps)
  | [] => rfl
  | q :: r => by
    rw [List.map_cons, List.any_cons, any_dI p r, eqvI]
    by_cases e : q = p
    · subst e; simp
    · have e' : ¬ p = q := fun z => e z.symm
      by_cases e2 : p ∈ r <;> simp [e, e', e2]
section
variable {X : Cx}
/-- t in ts, of tuples of ints -/
def rInTs (K : PySem.W.Frag) : R2 := fun x y H Q => ∃ (a b : Addr) (p : List Int) (ps : List (List Int)), x = .ref a ∧ y = .ref b ∧ SqT K H a (p.map V.int) ∧ Tups K H b ps ∧ Q (.bl (decide (p ∈ ps))) H
theorem op_inTs (hu : X.A.units + 65 < cLine) : OpR X (compareOp .In) (rInTs X.K) := by
  intro pins s σ H x y v u Q I rx ry h
  obtain ⟨a, b, p, ps, rfl, rfl, h1, h2, q⟩ := h
  obtain ⟨as, r1⟩ := Dp.reads I (dI p) (.ref a) v (dpT h1) rx
  obtain ⟨bs, r2⟩ := Dp.reads I (dTT ps) (.ref b) u h2.dp ry
  refine SeqAt.in_tuple_reads (xs := ps.map dI) r2 r1 (lay_dI ps) (dI_lay p) ?_ ⟨.bl _, H, I, rfl, ?_⟩
  · have := Nat.min_le_right (PyData.depthAll (ps.map dI)) (dI p).depth
    have e := dI_dep p
    omega
  · rw [any_dI]; exact q
/-- two tuples of ints, two tuples of tuples of ints compared -/
def rEqI1 (K : PySem.W.Frag) : R2 := fun x y H Q => ∃ (a b : Addr) (p q : List Int), x = .ref a ∧ y = .ref b ∧ SqT K H a (p.map V.int) ∧ SqT K H b (q.map V.int) ∧ Q (.bl (decide (p = q))) H
def rEqTs (K : PySem.W.Frag) : R2 := fun x y H Q => ∃ (a b : Addr) (p q : List (List Int)), x = .ref a ∧ y = .ref b ∧ Tups K H a p ∧ Tups K H b q ∧ Q (.bl (decide (p = q))) H
theorem op_eqI1 (hu : X.A.units + 64 < cLine) : OpR X (compareOp .Eq) (rEqI1 X.K) := by
  intro pins s σ H x y v u Q I rx ry h
  obtain ⟨a, b, p, ps, rfl, rfl, h1, h2, q⟩ := h
  refine op_eqD hu pins s σ H _ _ v u Q I rx ry ⟨dI p, dI ps, dpT h1, dpT h2, shapedI p, shapedI ps, ?_⟩
  rw [eqvI]; exact q
theorem op_eqTs (hu : X.A.units + 64 < cLine) : OpR X (compareOp .Eq) (rEqTs X.K) := by
  intro pins s σ H x y v u Q I rx ry h
  obtain ⟨a, b, p, ps, rfl, rfl, h1, h2, q⟩ := h
  refine op_eqD hu pins s σ H _ _ v u Q I rx ry ⟨dTT p, dTT ps, h1.dp, h2.dp, shapedTT p, shapedTT ps, ?_⟩
  rw [eqvTT]; exact q
end
section
variable {X : Cx} {K : PySem.W.Frag}
/-! the rules whose reading names the written part, for a comprehension's block -/
theorem ix_tupK (h : X.K = K) : IxR X (rIxT K) := h ▸ ix_tup
theorem pg_tupK {es : List Expr} {k : Nat} {t : TGs} {n : Nat} {pos : Pos} (h : X.K = K) (hc : X.calm = true) (hg : PGs X es t)
    (hn : (assignEach es X.env).length = n := by rfl) (hst : (assignEach es X.env).findIdx? (·.1) = none := by rfl) : PG X (.Tuple es k pos) (gTup K n t) := h ▸ pg_tup hc hg hn hst
theorem op_inTsK (h : X.K = K) (hu : X.A.units + 65 < cLine) : OpR X (compareOp .In) (rInTs K) := h ▸ op_inTs hu
theorem op_ltTK (h : X.K = K) (hu : X.A.units < cLine) : OpR X (compareOp .Lt) (rLtT K) := h ▸ op_ltT hu
def rLenS (K : PySem.W.Frag) : List V → Hp → VK → Prop := fun xs H Q => ∃ p ys, xs = [.ref p] ∧ (SqL K H p ys ∨ SqT K H p ys) ∧ Q (.int ys.length) H
theorem call_lenK (h : X.K = K) : CallR X (.builtin "len") (rLenS K) := h ▸ call_len_seq
end
end RV
set_option maxHeartbeats 4000000
namespace K9
open PySem PySem.Spec PyProof.Rows L2 RV
/-! ### the text by places -/
def topS (i : Nat) : Stmt := PySem.Challenge.pw_ringvouch_k09_whole_parts_by_any_names.main.body.getD i (.Pass ⟨0, 0, 0, 0⟩)
abbrev sLed : Stmt := topS 1
abbrev sParts : Stmt := topS 2
abbrev sPartOf : Stmt := topS 3
abbrev sMirrorPart : Stmt := topS 4
abbrev sOff : Stmt := topS 6
abbrev sMeasure : Stmt := topS 7
abbrev sPeriod : Stmt := topS 8
abbrev sClasses : Stmt := topS 9
abbrev sClassOf : Stmt := topS 10
abbrev sTurning : Stmt := topS 11
abbrev sWhole : Stmt := topS 17
abbrev sMark : Stmt := topS 18
abbrev sMarks : Stmt := topS 19
abbrev sIsRing : Stmt := topS 22
abbrev sIsRun : Stmt := topS 23
abbrev sNeighb : Stmt := topS 24
abbrev sRunPl : Stmt := topS 25
abbrev sRPlaces : Stmt := topS 26
abbrev sSpot : Stmt := topS 27
abbrev sStretch : Stmt := topS 28
abbrev sMirrored : Stmt := topS 29
abbrev sSpelled : Stmt := topS 30
abbrev sMirrors : Stmt := topS 34
abbrev sSteps : Stmt := topS 35
abbrev sStep : Stmt := topS 36
abbrev sRising : Stmt := topS 37
abbrev sBehind : Stmt := topS 38
abbrev sPail : Stmt := topS 40
abbrev sDraw : Stmt := topS 41
abbrev sOf : Stmt := topS 42
abbrev sDMirrors : Stmt := topS 43
abbrev sDSteps : Stmt := topS 44
abbrev sLOff : Stmt := topS 45
abbrev sLBehind : Stmt := topS 46
abbrev sClosed : Stmt := topS 47
abbrev sNames : Stmt := topS 48
abbrev sRenamed : Stmt := topS 49
abbrev sKnown : Stmt := topS 50
abbrev sShift : Stmt := topS 51
abbrev sNamesR : Stmt := topS 52
abbrev sRingRight : Stmt := topS 53
abbrev sLaw : Stmt := topS 54
abbrev sInit : Stmt := inClass (topS 33) 0
abbrev sEq : Stmt := inClass (topS 33) 4
abbrev sMarksM : Stmt := inClass (topS 33) 1
abbrev sMirrorM : Stmt := inClass (topS 33) 2
abbrev sBehindM : Stmt := inClass (topS 33) 3
/-- a def of the text as the top has left it -/
structure DefAt (K : PySem.W.Frag) (mg : Str → Option Value) (x : Str) (st : Stmt) (ps : List Str) (f : Addr) (fd : FuncData) : Prop where
  fn : Fun K x x st f fd
  bi : Binds K fd ps []
  mg : mg x = some (.ref f)
/-- the names that are the interpreter's own -/
structure Bare (mg : Str → Option Value) : Prop where
  len : mg "len" = none
  sum : mg "sum" = none
  isinstance : mg "isinstance" = none
  int : mg "int" = none
  bool : mg "bool" = none
  tuple : mg "tuple" = none
  all : mg "all" = none
  enumerate : mg "enumerate" = none
  zip : mg "zip" = none
  range : mg "range" = none
  list : mg "list" = none
  set : mg "set" = none
  sorted : mg "sorted" = none
  abs : mg "abs" = none
  max : mg "max" = none
  min : mg "min" = none
  repr : mg "repr" = none
  dict : mg "dict" = none
section
variable {P : Program} {w : World} {K : PySem.W.Frag} {mg : Str → Option Value} {base : Heap}
/-! ### is_whole -/
theorem scWhole : FnScope ["thing"] ["thing"] (defScope sWhole) := ⟨rfl, rfl, rfl, by decide +kernel, rfl, by decide +kernel, by decide +kernel⟩
def spWhole : Sp := fun vs H Q _ => ∃ i : Int, vs = [.int i] ∧ Q (.bl true) H
theorem ok_whole {f : Addr} {fd : FuncData} (F : Fun K "is_whole" "is_whole" sWhole f fd) (B : Bare mg) : FnOk P w K mg base CX0 1 f fd ["thing"] spWhole := by
  refine F.ok scWhole (fun vs H Q E h => ?_) (fun cdv A outer s H vs Q E hr h => ?_)
  · obtain ⟨i, rfl, _⟩ := h
    rfl
  · obtain ⟨i, rfl, q⟩ := h
    refine ⟨_, pss_one (ps_ret (pe_and (pe_callB call_isi (by rfl) B.isinstance (by decide +kernel) (pa_cons (pv 0) (pa_cons (pe_bltn (v := .ty "int") (by rfl) B.int boot_int rfl) pa_nil)))
      (pe_one (pe_not (pe_callB call_isi (by rfl) B.isinstance (by decide +kernel) (pa_cons (pv 0) (pa_cons (pe_bltn (v := .ty "bool") (by rfl) B.bool (by decide +kernel) rfl) pa_nil))))))), ?_⟩
    refine ⟨.int i, rfl, .int i, .ty "int", _, _, true, rfl, .ty "int", .base (.int i), kit_ty (by decide +kernel), true, rfl, iteT ?_⟩
    exact ⟨.int i, rfl, .int i, .ty "bool", _, _, false, rfl, .ty "bool", .base (.int i), kit_ty (by decide +kernel), false, rfl, q⟩
/-! ### is_below -/
theorem scMark : FnScope ["thing", "many"] ["thing", "many"] (defScope sMark) := ⟨rfl, rfl, rfl, by decide +kernel, rfl, by decide +kernel, by decide +kernel⟩
def spMark : Sp := fun vs H Q _ => ∃ i n : Int, vs = [.int i, .int n] ∧ 0 ≤ i ∧ i < n ∧ Q (.bl true) H
theorem ok_mark {f fW : Addr} {fd fdW : FuncData} (F : Fun K "is_below" "is_below" sMark f fd) (D : DefAt K mg "is_whole" sWhole ["thing"] fW fdW) (B : Bare mg) : FnOk P w K mg base CX0 2 f fd ["thing", "many"] spMark := by
  have GW : FnOk P w K mg base CX0 1 fW fdW ["thing"] spWhole := ok_whole D.fn B
  refine F.ok scMark (fun vs H Q E h => ?_) (fun cdv A outer s H vs Q E hr h => ?_)
  · obtain ⟨i, n, rfl, _⟩ := h
    rfl
  · obtain ⟨i, n, rfl, h1, h2, q⟩ := h
    refine ⟨_, pss_one (ps_ret (pe_and (pe_call GW hr (by rfl) D.mg D.fn.kp D.bi .nil pass0 (pa_cons (pv 0) pa_nil)) (pe_one (pe_chain op_le op_lt pe_int (pv 0) (pv 1))))), ?_⟩
    refine ⟨.int i, rfl, i, rfl, true, rfl, iteT ?_⟩
    refine ⟨.int i, rfl, 0, i, rfl, rfl, _, rfl, ?_⟩
    rw [decide_eq_true h1]
    refine iteT ⟨.int n, rfl, i, n, rfl, rfl, ?_⟩
    show Q (.bl (decide (i < n))) H
    rw [decide_eq_true h2]
    exact q
/-! ### are_marks -/
theorem scMarks : FnScope ["thing", "many", "mark"] ["thing", "many"] (defScope sMarks) := ⟨rfl, rfl, rfl, by decide +kernel, rfl, by decide +kernel, by decide +kernel⟩
def spMarks (K : PySem.W.Frag) : Sp := fun vs H Q _ => ∃ (a : Addr) (ns : List Int) (n : Int), vs = [.ref a, .int n] ∧ SqT K H a (ns.map V.int) ∧ 0 < ns.length ∧ ns.length ≤ 1000 ∧ (∀ i ∈ ns, 0 ≤ i ∧ i < n) ∧ ∀ H', Same H H' → Q (.bl true) H'
theorem ok_marks {f fM fW : Addr} {fd fdM fdW : FuncData} (F : Fun K "are_marks" "are_marks" sMarks f fd) (DM : DefAt K mg "is_below" sMark ["thing", "many"] fM fdM) (DW : DefAt K mg "is_whole" sWhole ["thing"] fW fdW) (B : Bare mg) :
    FnOk P w K mg base CX0 3 f fd ["thing", "many"] (spMarks K) := by
  have GM : FnOk P w K mg base CX0 2 fM fdM ["thing", "many"] spMark := ok_mark DM.fn DW B
  refine F.ok scMarks (fun vs H Q E h => ?_) (fun cdv A outer s H vs Q E hr h => ?_)
  · obtain ⟨a, ns, n, rfl, _⟩ := h
    rfl
  · obtain ⟨a, ns, n, rfl, hT, h0, hm, hin, q⟩ := h
    refine ⟨_, pss_one (ps_ret (pe_and (pe_callB call_isi (by rfl) B.isinstance (by decide +kernel) (pa_cons (pv 0) (pa_cons (pe_bltn (v := .ty "tuple") (by rfl) B.tuple (by decide +kernel) rfl) pa_nil)))
      (pe_and (pe_cmpR op_gt (pe_callB call_len_seq (by rfl) B.len PySem.boot_len (pa_cons (pv 0) pa_nil)) pe_int (nomark _))
      (pe_one (pe_callB (cr_all rfl) (by rfl) B.all (by decide +kernel) (pa_cons
        (pe_lc (own := [("mark", 2)]) (g := gName 2) (tt := tYes) rfl scMarks.nd (pi_tup (pv 0)) (blkOk_by (N := ["thing", "many", "mark"]) (sc := defScope sMarks) (by decide +kernel)) (fun _ _ _ _ _ => pg_name (i := 2) scMarks.nd rfl (Or.inl rfl)) (fun _ _ _ _ _ => pts_nil)
          (fun _ _ _ _ _ => pe_call GM hr (by rfl) DM.mg DM.fn.kp DM.bi .nil pass0 (pa_cons (pv 2) (pa_cons (pv 1) pa_nil)))) pa_nil)))))), ?_⟩
    refine ⟨.ref a, rfl, .ref a, .ty "tuple", _, _, true, rfl, .ty "tuple", tyT hT, kit_ty (by decide +kernel), true, rfl, iteT ?_⟩
    refine ⟨.ref a, rfl, a, _, rfl, .inr hT, _, _, rfl, rfl, decide (((ns.map V.int).length : Int) > 0), rfl, ?_⟩
    rw [decide_eq_true (show ((ns.map V.int).length : Int) > 0 by rw [List.length_map]; omega)]
    refine iteT ⟨.ref a, rfl, a, rfl, ⟨_, hT⟩, fun D nD => ?_⟩
    refine lc_tup (K := K) (a := a) (xs := ns.map V.int) (fun i H' => Same H H' ∧ H' D = some (.lst (List.replicate i (V.bl true)))) ⟨same_upd nD, upd_same⟩ (fun i H' _ p => sqT_same p.1 hT) (fun i x H' hx p => ?_) fun H' p => ?_
    · obtain ⟨m, hm', rfl⟩ := map_at hx
      have hi : i < ns.length := (List.getElem?_eq_some_iff.mp hm').1
      have hr' := hin m (List.mem_of_getElem? hm')
      refine ⟨rfl, tt_yes ⟨.int m, rfl, .int n, rfl, m, n, rfl, hr'.1, hr'.2, _, p.2, ?_, ?_, ?_⟩⟩
      · rw [List.length_replicate]; exact few1 (by omega)
      · exact fun b o e => by rw [upd_ne (ne_of_none e nD)]; exact p.1 b o e
      · rw [upd_same, rep_next]
    · rw [List.length_map, rep_bl] at p
      refine ⟨D, _, rfl, lstNew p.2, ?_⟩
      rw [all_true]
      exact q H' p.1
end
end K9
set_option maxHeartbeats 4000000
namespace K9
open PySem PySem.Spec PyProof.Rows L2 RV
/-- mirrors of one to eight marks -/
structure Mir (ns : List Int) : Prop where
  pos : 0 < ns.length
  few : ns.length ≤ 8
  inn : ∀ i ∈ ns, 0 ≤ i ∧ i < (ns.length : Int)
  back : ∀ (k : Nat) (m : Int), ns[k]? = some m → ns[m.toNat]? = some (k : Int)
/-- a rising tuple of steps, with their mirror steps -/
structure Stp (ns : List Int) (ps : List (List Int)) : Prop where
  few : ps.length ≤ 64
  pair : ∀ p ∈ ps, ∃ x y : Int, p = [x, y] ∧ (0 ≤ x ∧ x < (ns.length : Int)) ∧ (0 ≤ y ∧ y < (ns.length : Int))
  rise : ∀ (i : Nat) (p q : List Int), ps[i]? = some p → ps[i + 1]? = some q → HT.lexLt p q = true
  mirr : ∀ x y mx my : Int, [x, y] ∈ ps → ns[x.toNat]? = some mx → ns[y.toNat]? = some my → [my, mx] ∈ ps
  nd : ps.Nodup
section
variable {P : Program} {w : World} {K : PySem.W.Frag} {mg : Str → Option Value} {base : Heap}
/-! ### are_mirrors -/
theorem scMirrors : FnScope ["thing", "mark", "mirror"] ["thing"] (defScope sMirrors) := ⟨rfl, rfl, rfl, by decide +kernel, rfl, by decide +kernel, by decide +kernel⟩
def spMirrors (K : PySem.W.Frag) : Sp := fun vs H Q _ => ∃ (a : Addr) (ns : List Int), vs = [.ref a] ∧ SqT K H a (ns.map V.int) ∧ Mir ns ∧ ∀ H', Same H H' → Q (.bl true) H'
theorem ok_mirrors {f fA : Addr} {fd fdA : FuncData} {t : Tok} (F : Fun K "are_mirrors" "are_mirrors" sMirrors f fd) (DA : DefAt K mg "are_marks" sMarks ["thing", "many"] fA fdA) (GA : FnOk P w K mg base CX0 3 fA fdA ["thing", "many"] (spMarks K)) (B : Bare mg)
    (mM : mg "MOST_MARKS" = some (.int 8 t)) : FnOk P w K mg base CX0 4 f fd ["thing"] (spMirrors K) := by
  refine F.ok scMirrors (fun vs H Q E h => ?_) (fun cdv A outer s H vs Q E hr h => ?_)
  · obtain ⟨a, ns, rfl, _⟩ := h
    rfl
  · obtain ⟨a, ns, rfl, hT, hM, q⟩ := h
    refine ⟨_, pss_cons (ps_if (PW.pt (pw_or (pt_not (pt_val (pe_callB call_isi (by rfl) B.isinstance (by decide +kernel) (pa_cons (pv 0) (pa_cons (pe_bltn (v := .ty "tuple") (by rfl) B.tuple (by decide +kernel) rfl) pa_nil)))))
        (pw_or1 (pt_cmpR op_gt (pe_callB call_len_seq (by rfl) B.len PySem.boot_len (pa_cons (pv 0) pa_nil)) (pe_glob (v := .int 8) rfl mM ⟨_, rfl⟩) (nomark _))))) (pss_one (ps_ret pe_bl)) pss_nil)
      (pss_cons (ps_if (pt_not (pt_val (pe_call GA hr (by rfl) DA.mg DA.fn.kp DA.bi .nil pass0 (pa_cons (pv 0) (pa_cons (pe_callB call_len_seq (by rfl) B.len PySem.boot_len (pa_cons (pv 0) pa_nil)) pa_nil))))) (pss_one (ps_ret pe_bl)) pss_nil)
      (pss_one (ps_ret (pe_callB (cr_all rfl) (by rfl) B.all (by decide +kernel) (pa_cons
        (pe_lc (own := [("mark", 1), ("mirror", 2)]) (g := gTup K 2 (gCons (gName 1) (gCons (gName 2) gNil))) (tt := tYes) rfl scMirrors.nd (pi_enT (by rfl) B.enumerate (pa_cons (pv 0) pa_nil)) (blkOk_by (N := ["thing", "mark", "mirror"]) (sc := defScope sMirrors) (by decide +kernel))
          (fun _ _ _ _ _ => pg_tupK rfl rfl (pgs_cons (pg_name (i := 1) scMirrors.nd rfl (Or.inl rfl)) (pgs_cons (pg_name (i := 2) scMirrors.nd rfl (Or.inl rfl)) pgs_nil))) (fun _ _ _ _ _ => pts_nil)
          (fun _ _ _ _ _ => pe_cmpR op_eq (pe_ix (ix_tupK (K := K) rfl) (pv 0) (pv 2) (fun _ _ => rfl)) (pv 1) (nomark _))) pa_nil))))), ?_⟩
    refine ⟨.ref a, rfl, .ref a, .ty "tuple", _, _, true, rfl, .ty "tuple", tyT hT, kit_ty (by decide +kernel), true, rfl, iteF ?_⟩
    refine ⟨.ref a, rfl, a, _, rfl, .inr hT, _, _, rfl, rfl, decide (((ns.map V.int).length : Int) > 8), rfl, ?_⟩
    have h8 := hM.few
    rw [decide_eq_false (show ¬ ((ns.map V.int).length : Int) > 8 by rw [List.length_map]; omega)]
    refine iteF ?_
    refine ⟨.ref a, rfl, .ref a, rfl, a, _, rfl, .inr hT, a, ns, _, rfl, hT, hM.pos, by omega, fun i hi => ?_, fun H1 s1 => ⟨true, rfl, iteF ?_⟩⟩
    · rw [List.length_map]; exact hM.inn i hi
    · refine ⟨.ref a, rfl, a, _, rfl, sqT_same s1 hT, fun D nD => ?_⟩
      refine lc_it (walk_enT (K := K) (a := a) (xs := ns.map V.int)) (fun i H' => Same H1 H' ∧ H' D = some (.lst (List.replicate i (V.bl true)))) ⟨same_upd nD, upd_same⟩ (fun i H' _ p => sqT_same p.1 (sqT_same s1 hT)) (fun i x H2 H3 hi p y => ?_) fun H' p => ?_
      · obtain ⟨T, x1, x2, rfl, nT, rfl, e1, e2⟩ := y
        have e1' : x1 = .int (i : Nat) := (Option.some.inj e1).symm
        subst e1'
        obtain ⟨m, hm, rfl⟩ := map_at e2
        have hin := hM.inn m (List.mem_of_getElem? hm)
        have hil : i < ns.length := (List.getElem?_eq_some_iff.mp hm).1
        have hDT : D ≠ T := ne_of_none p.2 nT
        have sT : Same H2 (upd H2 T (.tup [.int (i : Nat), .int m])) := same_upd nT
        have hA : SqT K (upd H2 T (.tup [.int (i : Nat), .int m])) a (ns.map V.int) := sqT_same sT (sqT_same p.1 (sqT_same s1 hT))
        have gm : (ns.map V.int)[m.toNat]? = some (.int (i : Nat)) := by
          rw [List.getElem?_map, hM.back i m hm]; rfl
        refine ⟨T, _, rfl, tupNew upd_same, rfl, _, _, rfl, _, _, rfl, rfl, rfl, tt_yes ⟨.ref a, rfl, .int m, rfl, a, _, m, .int (i : Nat), rfl, rfl, hA, ?_, .int (i : Nat), rfl, rfl, _, (sT _ _ p.2), ?_, ?_, ?_⟩⟩
        · have e : m = ((m.toNat : Nat) : Int) := by omega
          rw [e]; exact atI_nat gm
        · rw [List.length_replicate]; exact few1 (by omega)
        · exact fun b o e => by rw [upd_ne (ne_of_none e nD)]; exact sT b o (p.1 b o e)
        · rw [upd_same, decide_eq_true rfl, rep_next]
      · rw [List.length_map, rep_bl] at p
        refine ⟨D, _, rfl, lstNew p.2, ?_⟩
        rw [all_true]
        exact q H' (s1.trans p.1)
end
end K9
set_option maxHeartbeats 4000000
namespace K9
open PySem PySem.Spec PyProof.Rows L2 RV
section
variable {P : Program} {w : World} {K : PySem.W.Frag} {mg : Str → Option Value} {base : Heap}
/-! ### is_step -/
theorem scStep : FnScope ["thing", "many"] ["thing", "many"] (defScope sStep) := ⟨rfl, rfl, rfl, by decide +kernel, rfl, by decide +kernel, by decide +kernel⟩
def spStep (K : PySem.W.Frag) : Sp := fun vs H Q _ => ∃ (a : Addr) (x y n : Int), vs = [.ref a, .int n] ∧ SqT K H a ([x, y].map V.int) ∧ (0 ≤ x ∧ x < n) ∧ (0 ≤ y ∧ y < n) ∧ ∀ H', Same H H' → Q (.bl true) H'
theorem ok_step {f fA : Addr} {fd fdA : FuncData} (F : Fun K "is_step" "is_step" sStep f fd) (DA : DefAt K mg "are_marks" sMarks ["thing", "many"] fA fdA) (GA : FnOk P w K mg base CX0 3 fA fdA ["thing", "many"] (spMarks K)) (B : Bare mg) :
    FnOk P w K mg base CX0 4 f fd ["thing", "many"] (spStep K) := by
  refine F.ok scStep (fun vs H Q E h => ?_) (fun cdv A outer s H vs Q E hr h => ?_)
  · obtain ⟨a, x, y, n, rfl, _⟩ := h
    rfl
  · obtain ⟨a, x, y, n, rfl, hT, hx, hy, q⟩ := h
    refine ⟨_, pss_one (ps_ret (pe_and (pe_call GA hr (by rfl) DA.mg DA.fn.kp DA.bi .nil pass0 (pa_cons (pv 0) (pa_cons (pv 1) pa_nil))) (pe_one (pe_cmpR op_eq (pe_callB call_len_seq (by rfl) B.len PySem.boot_len (pa_cons (pv 0) pa_nil)) pe_int (nomark _))))), ?_⟩
    refine ⟨.ref a, rfl, .int n, rfl, a, [x, y], n, rfl, hT, by simp, by simp, fun i hi => ?_, fun H1 s1 => ⟨true, rfl, iteT ?_⟩⟩
    · simp only [List.mem_cons, List.mem_nil_iff, or_false, List.not_mem_nil] at hi
      rcases hi with rfl | rfl
      · exact hx
      · exact hy
    · refine ⟨.ref a, rfl, a, _, rfl, .inr (sqT_same s1 hT), rfl, ?_⟩
      exact q H1 s1
/-! ### is_rising -/
theorem scRising : FnScope ["pairs", "one", "other"] ["pairs"] (defScope sRising) := ⟨rfl, rfl, rfl, by decide +kernel, rfl, by decide +kernel, by decide +kernel⟩
def spRising (K : PySem.W.Frag) : Sp := fun vs H Q _ => ∃ (a : Addr) (ps : List (List Int)), vs = [.ref a] ∧ Tups K H a ps ∧ ps.length ≤ 1000 ∧ (∀ (i : Nat) (p q : List Int), ps[i]? = some p → ps[i + 1]? = some q → HT.lexLt p q = true) ∧ ∀ H', Same H H' → Q (.bl true) H'
theorem cut1 (xs : List V) : cutV xs (some 1) none = xs.drop 1 := by
  unfold cutV
  rw [show HT.sIx xs.length 0 (some 1) = min 1 xs.length from HT.sIx_nat xs.length 0 1, HT.sIx_none]
  cases xs with
  | nil => rfl
  | cons x r =>
    rw [show min 1 (x :: r).length = 1 by rw [List.length_cons]; omega]
    show (List.take ((x :: r).length - 1) r) = r
    rw [List.length_cons, Nat.add_sub_cancel]
    exact List.take_length
theorem ok_rising {f : Addr} {fd : FuncData} (F : Fun K "is_rising" "is_rising" sRising f fd) (B : Bare mg) : FnOk P w K mg base CX0 1 f fd ["pairs"] (spRising K) := by
  refine F.ok scRising (fun vs H Q E h => ?_) (fun cdv A outer s H vs Q E hr h => ?_)
  · obtain ⟨a, ps, rfl, _⟩ := h
    rfl
  · obtain ⟨a, ps, rfl, hTT, hl, hrise, q⟩ := h
    obtain ⟨ks, rfl, hT, hks⟩ := hTT
    refine ⟨_, pss_one (ps_ret (pe_callB (cr_all rfl) (by rfl) B.all (by decide +kernel) (pa_cons
        (pe_lc (own := [("one", 1), ("other", 2)]) (g := gTup K 2 (gCons (gName 1) (gCons (gName 2) gNil))) (tt := tYes) rfl scRising.nd (RZ.pi_zipA (by rfl) B.zip (pa_cons (pv 0) (pa_cons (pe_slice sl_tupA (pv 0) (po_some pe_int) po_none) pa_nil))) (blkOk_by (N := ["pairs", "one", "other"]) (sc := defScope sRising) (by decide +kernel))
          (fun _ _ _ _ _ => pg_tupK rfl rfl (pgs_cons (pg_name (i := 1) scRising.nd rfl (Or.inl rfl)) (pgs_cons (pg_name (i := 2) scRising.nd rfl (Or.inl rfl)) pgs_nil))) (fun _ _ _ _ _ => pts_nil)
          (fun _ _ _ _ _ => pe_cmpR (op_ltTK (K := K) rfl hr.units0) (pv 1) (pv 2) (nomark _))) pa_nil))), ?_⟩
    have go : ∀ (b : Addr) (H1 : Hp) (Qc : VK), Same H H1 → SqT K H1 b ((ks.map fun p => V.ref p.1).drop 1) → (∀ D H', Same H1 H' → H' D = some (.lst (List.replicate (ks.length - 1) (V.bl true))) → Qc (.ref D) H') →
        tLc (fun _ H2 R => R (RZ.ItzT K a b) H2) (gTup K 2 (gCons (gName 1) (gCons (gName 2) gNil))) tYes (tOp (rLtT K) (tVar 1) (tVar 2)) [1, 2] (start ["pairs", "one", "other"] [.ref a]) H1 Qc := by
      intro b H1 Qc s1 hb fin D nD
      refine lc_it (walk_zipT (K := K) (a := a) (b := b) (xs := ks.map fun p => V.ref p.1) (ys := (ks.map fun p => V.ref p.1).drop 1) (n := ks.length - 1) (by rw [List.length_drop, List.length_map]; omega))
        (fun i H' => Same H1 H' ∧ H' D = some (.lst (List.replicate i (V.bl true)))) ⟨same_upd nD, upd_same⟩ (fun i H' _ p => ⟨sqT_same p.1 (sqT_same s1 hT), sqT_same p.1 hb⟩) (fun i x H2 H3 hi p y => ?_) fun H' p => fin D H' p.1 p.2
      obtain ⟨T, x1, x2, rfl, nT, rfl, e1, e2⟩ := y
      have e3 : ((ks.map fun p => V.ref p.1).drop 1)[i]? = some x2 := e2
      rw [List.getElem?_drop] at e3
      obtain ⟨k1, g1, rfl⟩ := map_at e1
      obtain ⟨k2, g2, rfl⟩ := map_at e3
      have sT : Same H2 (upd H2 T (.tup [V.ref k1.1, V.ref k2.1])) := same_upd nT
      have sA : Same H (upd H2 T (.tup [V.ref k1.1, V.ref k2.1])) := (s1.trans p.1).trans sT
      have lt : HT.lexLt k1.2 k2.2 = true := by
        refine hrise i k1.2 k2.2 ?_ ?_
        · rw [List.getElem?_map, g1]; rfl
        · rw [Nat.add_comm, List.getElem?_map, g2]; rfl
      refine ⟨T, _, rfl, tupNew upd_same, rfl, _, _, rfl, _, _, rfl, rfl, rfl, tt_yes ⟨.ref k1.1, rfl, .ref k2.1, rfl, k1.1, k2.1, k1.2, k2.2, rfl, rfl, sqT_same sA (hks k1 (List.mem_of_getElem? g1)), sqT_same sA (hks k2 (List.mem_of_getElem? g2)), _, sT _ _ p.2, ?_, ?_, ?_⟩⟩
      · rw [List.length_replicate]; rw [List.length_map] at hl; exact few1 (by omega)
      · exact fun b o e => by rw [upd_ne (ne_of_none e nD)]; exact sT b o (p.1 b o e)
      · rw [upd_same, lt, rep_next]
    have fin : ∀ (H1 : Hp), Same H H1 → ∀ D H', Same H1 H' → H' D = some (.lst (List.replicate (ks.length - 1) (V.bl true))) → ∃ (a : Addr) (bs : List Bool), [V.ref D] = [V.ref a] ∧ SqL K H' a (bs.map V.bl) ∧ Q (.bl (bs.all id)) H' := by
      intro H1 s1 D H' s2 e
      refine ⟨D, List.replicate (ks.length - 1) true, rfl, lstNew (by rw [e, rep_bl]), ?_⟩
      rw [all_true]
      exact q H' (s1.trans s2)
    refine ⟨.ref a, rfl, .ref a, rfl, 1, rfl, a, _, rfl, hT, fun hw => ?_, fun hw c nc => ?_⟩
    · have e0 : ks.map (fun p => V.ref p.1) = [] := by
        cases hk : ks.map (fun p => V.ref p.1) with
        | nil => rfl
        | cons x r =>
          rw [hk] at hw
          have h1 := hw.1
          rw [show HT.sIx (x :: r).length 0 (some 1) = min 1 (x :: r).length from HT.sIx_nat _ 0 1, List.length_cons] at h1
          omega
      refine ⟨a, a, _, _, rfl, .inr ⟨hT, hT, ?_⟩⟩
      refine go a H (fun v H2 => ∃ (a : Addr) (bs : List Bool), [v] = [V.ref a] ∧ SqL K H2 a (bs.map V.bl) ∧ Q (.bl (bs.all id)) H2) (Same.refl H) ?_ ?_
      · rw [e0]; rw [e0] at hT; exact hT
      · exact fin H (Same.refl H)
    · have s1 : Same H (upd H c (.tup (cutV (ks.map fun p => V.ref p.1) (some 1) none))) := same_upd nc
      refine ⟨a, c, _, _, rfl, .inr ⟨sqT_same s1 hT, tupNew upd_same, ?_⟩⟩
      refine go c _ (fun v H2 => ∃ (a : Addr) (bs : List Bool), [v] = [V.ref a] ∧ SqL K H2 a (bs.map V.bl) ∧ Q (.bl (bs.all id)) H2) s1 ?_ ?_
      · exact tupNew (by rw [upd_same, cut1])
      · exact fin _ s1
end
end K9
set_option maxHeartbeats 4000000
namespace K9
open PySem PySem.Spec PyProof.Rows L2 RV
/-- the marks behind m by the steps ps -/
def behindOf (ps : List (List Int)) (m : Int) : List Int := (ps.filter fun p => decide (p.getD 0 0 = m)).map fun p => p.getD 1 0
section
variable {P : Program} {w : World} {K : PySem.W.Frag} {mg : Str → Option Value} {base : Heap}
/-! ### marks_behind -/
theorem scBehind : FnScope ["steps", "mark", "a", "b"] ["steps", "mark"] (defScope sBehind) := ⟨rfl, rfl, rfl, by decide +kernel, rfl, by decide +kernel, by decide +kernel⟩
def spBehind (K : PySem.W.Frag) : Sp := fun vs H Q _ => ∃ (a : Addr) (ps : List (List Int)) (m : Int), vs = [.ref a, .int m] ∧ Tups K H a ps ∧ ps.length ≤ 1000 ∧ (∀ p ∈ ps, ∃ x y : Int, p = [x, y]) ∧
  ∀ H' t, Same H H' → H t = none → H' t = some (.tup ((behindOf ps m).map V.int)) → Q (.ref t) H'
theorem behind_next {ps : List (List Int)} {m : Int} {i : Nat} {x y : Int} (h : ps[i]? = some [x, y]) : behindOf (ps.take (i + 1)) m = behindOf (ps.take i) m ++ (if x = m then [y] else []) := by
  unfold behindOf
  rw [List.take_add_one, h]
  show List.map _ (List.filter _ (ps.take i ++ [[x, y]])) = _
  rw [List.filter_append, List.map_append]
  by_cases e : x = m
  · simp [e]
  · simp [e]
theorem behind_len (ps : List (List Int)) (m : Int) : (behindOf ps m).length ≤ ps.length := by
  unfold behindOf
  rw [List.length_map]
  exact List.length_filter_le _ _
theorem ok_behind {f : Addr} {fd : FuncData} (F : Fun K "marks_behind" "marks_behind" sBehind f fd) (B : Bare mg) : FnOk P w K mg base CX0 1 f fd ["steps", "mark"] (spBehind K) := by
  refine F.ok scBehind (fun vs H Q E h => ?_) (fun cdv A outer s H vs Q E hr h => ?_)
  · obtain ⟨a, ps, m, rfl, _⟩ := h
    rfl
  · obtain ⟨a, ps, m, rfl, hTT, hl, hp, q⟩ := h
    obtain ⟨ks, rfl, hT, hks⟩ := hTT
    refine ⟨_, pss_one (ps_ret (pe_tupleOf (by rfl) B.tuple
        (pe_lc (own := [("a", 2), ("b", 3)]) (g := gTup K 2 (gCons (gName 2) (gCons (gName 3) gNil))) rfl scBehind.nd (pi_tup (pv 0)) (blkOk_by (N := ["steps", "mark", "a", "b"]) (sc := defScope sBehind) (by decide +kernel))
          (fun _ _ _ _ _ => pg_tupK rfl rfl (pgs_cons (pg_name (i := 2) scBehind.nd rfl (Or.inl rfl)) (pgs_cons (pg_name (i := 3) scBehind.nd rfl (Or.inl rfl)) pgs_nil))) (fun _ _ _ _ _ => pts_one (pt_cmpR op_eq (pv 2) (pv 1) (nomark _)))
          (fun _ _ _ _ _ => pv 3)))), ?_⟩
    refine ⟨.ref a, rfl, a, rfl, ⟨_, hT⟩, fun D nD => ?_⟩
    refine lc_tup (K := K) (a := a) (xs := ks.map fun p => V.ref p.1) (fun i H' => Same H H' ∧ H' D = some (.lst ((behindOf ((ks.map (·.2)).take i) m).map V.int))) ⟨same_upd nD, by rw [upd_same]; rfl⟩ (fun i H' _ p => sqT_same p.1 hT) (fun i x H' hx p => ?_) fun H' p => ?_
    · obtain ⟨k, g, rfl⟩ := map_at hx
      have hk : k ∈ ks := List.mem_of_getElem? g
      obtain ⟨x, y, e⟩ := hp k.2 (List.mem_map_of_mem hk)
      have hkT : SqT K H' k.1 ([x, y].map V.int) := by rw [← e]; exact sqT_same p.1 (hks k hk)
      have gi : (ks.map (·.2))[i]? = some [x, y] := by rw [List.getElem?_map, g, ← e]; rfl
      refine ⟨k.1, _, rfl, hkT, rfl, _, _, rfl, _, _, rfl, rfl, rfl, .int x, rfl, .int m, rfl, rfl, _, rfl, ?_⟩
      have hle := behind_len ((ks.map (·.2)).take i) m
      rw [List.length_take] at hle
      by_cases e : x = m
      · subst e
        rw [decide_eq_true rfl]
        refine iteT ⟨.int y, rfl, _, p.2, ?_, ?_, ?_⟩
        · rw [List.length_map]; exact few1 (by omega)
        · exact fun b o z => by rw [upd_ne (ne_of_none z nD)]; exact p.1 b o z
        · rw [upd_same, behind_next gi, if_pos rfl, List.map_append]; rfl
      · rw [decide_eq_false (fun z => e (V.int.inj z))]
        refine iteF ⟨p.1, ?_⟩
        rw [p.2, behind_next gi, if_neg e, List.append_nil]
    · rw [List.length_map] at p
      have e : (ks.map (·.2)).take ks.length = ks.map (·.2) := List.take_of_length_le (by rw [List.length_map]; exact Nat.le_refl _)
      rw [e] at p
      refine .inl ⟨D, _, rfl, lstNew p.2, fun t nt => ?_⟩
      exact q _ t (p.1.trans (same_upd nt)) (p.1.free nt) upd_same
/-! ### are_steps -/
theorem scSteps : FnScope ["mirrors", "thing", "pair", "a", "b"] ["mirrors", "thing"] (defScope sSteps) := ⟨rfl, rfl, rfl, by decide +kernel, rfl, by decide +kernel, by decide +kernel⟩
def spSteps (K : PySem.W.Frag) : Sp := fun vs H Q _ => ∃ (a b : Addr) (ns : List Int) (ps : List (List Int)), vs = [.ref a, .ref b] ∧ SqT K H a (ns.map V.int) ∧ Tups K H b ps ∧ Mir ns ∧ Stp ns ps ∧ ∀ H', Same H H' → Q (.bl true) H'
theorem ok_steps {f fS fR : Addr} {fd fdS fdR : FuncData} (F : Fun K "are_steps" "are_steps" sSteps f fd) (DS : DefAt K mg "is_step" sStep ["thing", "many"] fS fdS) (GS : FnOk P w K mg base CX0 4 fS fdS ["thing", "many"] (spStep K))
    (DR : DefAt K mg "is_rising" sRising ["pairs"] fR fdR) (B : Bare mg) : FnOk P w K mg base CX0 5 f fd ["mirrors", "thing"] (spSteps K) := by
  have GR : FnOk P w K mg base CX0 1 fR fdR ["pairs"] (spRising K) := ok_rising DR.fn B
  refine F.ok scSteps (fun vs H Q E h => ?_) (fun cdv A outer s H vs Q E hr h => ?_)
  · obtain ⟨a, b, ns, ps, rfl, _⟩ := h
    rfl
  · obtain ⟨a, b, ns, ps, rfl, hA, hTT, hM, hS, q⟩ := h
    have hTT0 := hTT
    obtain ⟨ks, rfl, hT, hks⟩ := hTT
    have h64 := hS.few
    rw [List.length_map] at h64
    refine ⟨_, pss_cons (ps_if (pt_not (pt_val (pe_callB call_isi (by rfl) B.isinstance (by decide +kernel) (pa_cons (pv 1) (pa_cons (pe_bltn (v := .ty "tuple") (by rfl) B.tuple (by decide +kernel) rfl) pa_nil))))) (pss_one (ps_ret pe_bl)) pss_nil)
      (pss_cons (ps_if (pt_not (pt_val (pe_callB (cr_all rfl) (by rfl) B.all (by decide +kernel) (pa_cons
        (pe_lc (own := [("pair", 2)]) (g := gName 2) (tt := tYes) rfl scSteps.nd (pi_tup (pv 1)) (blkOk_by (N := ["mirrors", "thing", "pair", "a", "b"]) (sc := defScope sSteps) (by decide +kernel)) (fun _ _ _ _ _ => pg_name (i := 2) scSteps.nd rfl (Or.inl rfl)) (fun _ _ _ _ _ => pts_nil)
          (fun _ _ _ _ _ => pe_call GS hr (by rfl) DS.mg DS.fn.kp DS.bi .nil pass0 (pa_cons (pv 2) (pa_cons (pe_callB (call_lenK (K := K) rfl) (by rfl) B.len PySem.boot_len (pa_cons (pv 0) pa_nil)) pa_nil)))) pa_nil)))) (pss_one (ps_ret pe_bl)) pss_nil)
      (pss_cons (ps_if (pt_not (pt_val (pe_call GR (hr.mono (by decide)) (by rfl) DR.mg DR.fn.kp DR.bi .nil pass0 (pa_cons (pv 1) pa_nil)))) (pss_one (ps_ret pe_bl)) pss_nil)
      (pss_one (ps_ret (pe_callB (cr_all rfl) (by rfl) B.all (by decide +kernel) (pa_cons
        (pe_lc (own := [("a", 3), ("b", 4)]) (g := gTup K 2 (gCons (gName 3) (gCons (gName 4) gNil))) (tt := tYes) rfl scSteps.nd (pi_tup (pv 1)) (blkOk_by (N := ["mirrors", "thing", "pair", "a", "b"]) (sc := defScope sSteps) (by decide +kernel))
          (fun _ _ _ _ _ => pg_tupK rfl rfl (pgs_cons (pg_name (i := 3) scSteps.nd rfl (Or.inl rfl)) (pgs_cons (pg_name (i := 4) scSteps.nd rfl (Or.inl rfl)) pgs_nil))) (fun _ _ _ _ _ => pts_nil)
          (fun _ _ _ _ _ => pe_cmpR (op_inTsK (K := K) rfl (un65 hr)) (pe_tup (pa_cons (pe_ix (ix_tupK (K := K) rfl) (pv 0) (pv 4) (fun _ _ => rfl)) (pa_cons (pe_ix (ix_tupK (K := K) rfl) (pv 0) (pv 3) (fun _ _ => rfl)) pa_nil))) (pv 1) (by rfl))) pa_nil)))))), ?_⟩
    -- isinstance(thing, tuple)
    refine ⟨.ref b, rfl, .ref b, .ty "tuple", _, _, true, rfl, .ty "tuple", tyT hT, kit_ty (by decide +kernel), true, rfl, iteF ?_⟩
    -- all of them are steps
    refine ⟨.ref b, rfl, b, rfl, ⟨_, hT⟩, fun D nD => ?_⟩
    refine lc_tup (K := K) (a := b) (xs := ks.map fun p => V.ref p.1) (fun i H' => Same H H' ∧ H' D = some (.lst (List.replicate i (V.bl true)))) ⟨same_upd nD, upd_same⟩ (fun i H' _ p => sqT_same p.1 hT) (fun i x H' hx p => ?_) fun H1 p => ?_
    · obtain ⟨k, g, rfl⟩ := map_at hx
      have hk : k ∈ ks := List.mem_of_getElem? g
      have hi : i < ks.length := (List.getElem?_eq_some_iff.mp g).1
      obtain ⟨x, y, e, hx1, hy1⟩ := hS.pair k.2 (List.mem_map_of_mem hk)
      have hkT : SqT K H' k.1 ([x, y].map V.int) := by rw [← e]; exact sqT_same p.1 (hks k hk)
      refine ⟨rfl, tt_yes ⟨.ref k.1, rfl, .ref a, rfl, a, _, rfl, .inr (sqT_same p.1 hA), k.1, x, y, _, rfl, hkT, ?_, ?_, fun H2 s2 => ⟨_, s2 _ _ p.2, ?_, ?_, ?_⟩⟩⟩
      · rw [List.length_map]; exact hx1
      · rw [List.length_map]; exact hy1
      · rw [List.length_replicate]; exact few1 (by omega)
      · exact fun c o z => by rw [upd_ne (ne_of_none z nD)]; exact s2 c o (p.1 c o z)
      · rw [upd_same, rep_next]
    · rw [rep_bl] at p
      refine ⟨D, _, rfl, lstNew p.2, ?_⟩
      rw [all_true]
      refine ⟨true, rfl, iteF ?_⟩
      -- they rise
      refine ⟨.ref b, rfl, b, _, rfl, hTT0.same p.1, by rw [List.length_map]; omega, hS.rise, fun H2 s2 => ⟨true, rfl, iteF ?_⟩⟩
      have s02 : Same H H2 := p.1.trans s2
      -- their mirror steps
      refine ⟨.ref b, rfl, b, rfl, ⟨_, sqT_same s02 hT⟩, fun D2 nD2 => ?_⟩
      refine lc_tup (K := K) (a := b) (xs := ks.map fun p => V.ref p.1) (fun i H' => Same H2 H' ∧ H' D2 = some (.lst (List.replicate i (V.bl true)))) ⟨same_upd nD2, upd_same⟩ (fun i H' _ p => sqT_same p.1 (sqT_same s02 hT)) (fun i x H' hx p => ?_) fun H3 p => ?_
      · obtain ⟨k, g, rfl⟩ := map_at hx
        have hk : k ∈ ks := List.mem_of_getElem? g
        have hi : i < ks.length := (List.getElem?_eq_some_iff.mp g).1
        obtain ⟨x, y, e, hx1, hy1⟩ := hS.pair k.2 (List.mem_map_of_mem hk)
        have s0' : Same H H' := s02.trans p.1
        have hkT : SqT K H' k.1 ([x, y].map V.int) := by rw [← e]; exact sqT_same s0' (hks k hk)
        obtain ⟨mx, gx⟩ : ∃ mx, ns[x.toNat]? = some mx := ⟨_, List.getElem?_eq_getElem (by omega)⟩
        obtain ⟨my, gy⟩ : ∃ my, ns[y.toNat]? = some my := ⟨_, List.getElem?_eq_getElem (by omega)⟩
        have hin : [my, mx] ∈ ks.map (·.2) := hS.mirr x y mx my (by rw [← e]; exact List.mem_map_of_mem hk) gx gy
        have ax : atI (ns.map V.int) x = some (.int mx) := by
          rw [show x = ((x.toNat : Nat) : Int) by omega]; exact atI_nat (by rw [List.getElem?_map, gx]; rfl)
        have ay : atI (ns.map V.int) y = some (.int my) := by
          rw [show y = ((y.toNat : Nat) : Int) by omega]; exact atI_nat (by rw [List.getElem?_map, gy]; rfl)
        refine ⟨k.1, _, rfl, hkT, rfl, _, _, rfl, _, _, rfl, rfl, rfl, tt_yes ⟨.ref a, rfl, .int y, rfl, a, _, y, _, rfl, rfl, sqT_same s0' hA, ay, .ref a, rfl, .int x, rfl, a, _, x, _, rfl, rfl, sqT_same s0' hA, ax, (by show 2 ≤ sizeLine; decide), fun T nT => ?_⟩⟩
        have sT : Same H' (upd H' T (.tup [.int my, .int mx])) := same_upd nT
        refine ⟨.ref b, rfl, T, b, [my, mx], _, rfl, rfl, tupNew upd_same, (hTT0.same s0').same sT, _, sT _ _ p.2, ?_, ?_, ?_⟩
        · rw [List.length_replicate]; exact few1 (by omega)
        · exact fun c o z => by rw [upd_ne (ne_of_none z nD2)]; exact sT c o (p.1 c o z)
        · rw [upd_same, decide_eq_true hin, rep_next]
      · rw [rep_bl] at p
        refine ⟨D2, _, rfl, lstNew p.2, ?_⟩
        rw [all_true]
        exact q H3 (s02.trans p.1)
end
end K9
set_option maxHeartbeats 4000000
namespace K9
open PySem PySem.Spec PyProof.Rows L2 RV
/-! ### a Rule's fields -/
theorem n1 : ¬ (("mirrors" : Str) = "steps") := by decide +kernel
theorem n2 : ¬ (("mirrors" : Str) = "followers") := by decide +kernel
theorem n3 : ¬ (("steps" : Str) = "followers") := by decide +kernel
def flds (a b t : Addr) : List (Str × V) := putF "followers" (.ref t) (putF "steps" (.ref b) (putF "mirrors" (.ref a) []))
theorem flds_m (a b t : Addr) : (flds a b t).lookup ("mirrors" : Str) = some (.ref a) := by
  unfold flds
  rw [lookup_putF, if_neg n2, lookup_putF, if_neg n1, lookup_putF, if_pos rfl]
theorem flds_s (a b t : Addr) : (flds a b t).lookup ("steps" : Str) = some (.ref b) := by
  unfold flds
  rw [lookup_putF, if_neg n3, lookup_putF, if_pos rfl]
/-- all that a mark is followed by, mark by mark -/
def follow (n : Nat) (ps : List (List Int)) : List (List Int) := (List.range n).map fun (i : Nat) => behindOf ps (i : Int)
/-- a Rule stands at p -/
structure RuleAt (K : PySem.W.Frag) (C : Addr) (H : Hp) (p : Addr) (ns : List Int) (ps : List (List Int)) : Prop where
  ex : ∃ dx a b t, H p = some (.ins C dx (flds a b t)) ∧ SqT K H a (ns.map V.int) ∧ Tups K H b ps ∧ Tups K H t (follow ns.length ps)
theorem RuleAt.same {K : PySem.W.Frag} {C : Addr} {H H' : Hp} {p : Addr} {ns : List Int} {ps : List (List Int)} (r : RuleAt K C H p ns ps) (s : Same H H') : RuleAt K C H' p ns ps := by
  obtain ⟨dx, a, b, t, h1, h2, h3, h4⟩ := r.ex
  exact ⟨dx, a, b, t, s _ _ h1, sqT_same s h2, h3.same s, h4.same s⟩
/-- what the class is, behind the top -/
structure Txt (K : PySem.W.Frag) (mg : Str → Option Value) (C : Addr) : Prop where
  cl : Cls K C
  nM : NoAttr K C "mirrors"
  nS : NoAttr K C "steps"
  nF : NoAttr K C "followers"
  mgC : mg "Rule" = some (.ref C)
  c1 : PySem.W.findIn K (.ref C) "__class__" = some (some (.builtin "object.__class__"))
  c2 : PySem.W.specialIn K (.builtin "object.__class__") "__get__" = some (some (.builtin "getset_descriptor.__get__"))
  c3 : PySem.W.takesIn K (.builtin "object.__class__") = some true
  c4 : PySem.W.mroIn K C (.type "object") = some true
  c5 : PySem.W.kitOne K (.ref C) (.ref C) = some true
section
variable {P : Program} {w : World} {K : PySem.W.Frag} {mg : Str → Option Value} {base : Heap}
/-! ### __init__ -/
theorem scInit : FnScope ["self", "mirrors", "steps", "mark"] ["self", "mirrors", "steps"] (defScope sInit) := ⟨rfl, rfl, rfl, by decide +kernel, rfl, by decide +kernel, by decide +kernel⟩
def spInit (K : PySem.W.Frag) (C : Addr) : Sp := fun vs H Q _ => ∃ (p dx a b : Addr) (ns : List Int) (ps : List (List Int)), vs = [.ref p, .ref a, .ref b] ∧ H p = some (.ins C dx []) ∧ SqT K H a (ns.map V.int) ∧ Tups K H b ps ∧ Mir ns ∧ Stp ns ps ∧
  ∀ H' t, (∀ c o, H c = some o → c ≠ p → H' c = some o) → H' p = some (.ins C dx (flds a b t)) → Tups K H' t (follow ns.length ps) → Q .non H'
theorem sqT_but {H H' : Hp} {p C dx : Addr} {fs : List (Str × V)} (hp : H p = some (.ins C dx fs)) (k : ∀ c o, H c = some o → c ≠ p → H' c = some o) {a : Addr} {xs : List V} (h : SqT K H a xs) : SqT K H' a xs := by
  rcases h with (h | ⟨o, h⟩) | h
  · exact .inl (.inl (k _ _ h fun z => by rw [z, hp] at h; cases h))
  · exact .inl (.inr ⟨o, k _ _ h fun z => by rw [z, hp] at h; cases h⟩)
  · exact .inr h
theorem tups_but {H H' : Hp} {p C dx : Addr} {fs : List (Str × V)} (hp : H p = some (.ins C dx fs)) (k : ∀ c o, H c = some o → c ≠ p → H' c = some o) {a : Addr} {ps : List (List Int)} (h : Tups K H a ps) : Tups K H' a ps := by
  obtain ⟨ks, h1, h2, h3⟩ := h
  exact ⟨ks, h1, sqT_but hp k h2, fun q hq => sqT_but hp k (h3 q hq)⟩
theorem follow_next (i : Nat) (ps : List (List Int)) : follow (i + 1) ps = follow i ps ++ [behindOf ps (i : Int)] := by
  unfold follow
  rw [List.range_succ, List.map_append]; rfl
theorem ok_init {f fM fS fB C : Addr} {fd fdM fdS fdB : FuncData} (F : Fun K "__init__" "Rule.__init__" sInit f fd) (T : Txt K mg C)
    (DM : DefAt K mg "are_mirrors" sMirrors ["thing"] fM fdM) (GM : FnOk P w K mg base CX0 4 fM fdM ["thing"] (spMirrors K)) (DS : DefAt K mg "are_steps" sSteps ["mirrors", "thing"] fS fdS) (GS : FnOk P w K mg base CX0 5 fS fdS ["mirrors", "thing"] (spSteps K))
    (DB : DefAt K mg "marks_behind" sBehind ["steps", "mark"] fB fdB) (B : Bare mg) : FnOk P w K mg base CX0 6 f fd ["self", "mirrors", "steps"] (spInit K C) := by
  have GB : FnOk P w K mg base CX0 1 fB fdB ["steps", "mark"] (spBehind K) := ok_behind DB.fn B
  refine F.ok scInit (fun vs H Q E h => ?_) (fun cdv A outer s H vs Q E hr h => ?_)
  · obtain ⟨p, dx, a, b, ns, ps, rfl, _⟩ := h
    rfl
  · obtain ⟨p, dx, a, b, ns, ps, rfl, hp, hA, hB, hM, hS, q⟩ := h
    refine ⟨_, pss_cons (ps_if (pt_not (pt_val (pe_call GM (hr.mono (by decide)) (by rfl) DM.mg DM.fn.kp DM.bi .nil pass0 (pa_cons (pv 1) pa_nil)))) (pss_one ps_never) pss_nil)
      (pss_cons (ps_if (pt_not (pt_val (pe_call GS hr (by rfl) DS.mg DS.fn.kp DS.bi .nil pass0 (pa_cons (pv 1) (pa_cons (pv 2) pa_nil))))) (pss_one ps_never) pss_nil)
      (pss_cons (ps_fld (pv 0) (pv 1) rfl)
      (pss_cons (ps_fld (pv 0) (pv 2) rfl)
      (pss_one (ps_fld (pv 0) (pe_tupleOf (by rfl) B.tuple
        (pe_lc (own := [("mark", 3)]) (g := gName 3) (tt := tYes) rfl scInit.nd (pi_range1 (by rfl) B.range (pa_cons (pe_callB call_len_seq (by rfl) B.len PySem.boot_len (pa_cons (pv 1) pa_nil)) pa_nil)) (blkOk_by (N := ["self", "mirrors", "steps", "mark"]) (sc := defScope sInit) (by decide +kernel))
          (fun _ _ _ _ _ => pg_name (i := 3) scInit.nd rfl (Or.inl rfl)) (fun _ _ _ _ _ => pts_nil)
          (fun _ _ _ _ _ => pe_call GB (hr.mono (by decide)) (by rfl) DB.mg DB.fn.kp DB.bi .nil pass0 (pa_cons (pv 2) (pa_cons (pv 3) pa_nil))))) rfl))))), ?_⟩
    refine ⟨.ref a, rfl, a, ns, rfl, hA, hM, fun H1 s1 => ⟨true, rfl, iteF ?_⟩⟩
    refine ⟨.ref a, rfl, .ref b, rfl, a, b, ns, ps, rfl, sqT_same s1 hA, hB.same s1, hM, hS, fun H2 s2 => ⟨true, rfl, iteF ?_⟩⟩
    have s02 : Same H H2 := s1.trans s2
    have hp2 := s02 _ _ hp
    refine ⟨.ref a, rfl, .ref p, rfl, p, C, dx, [], rfl, hp2, T.cl, T.nM, (by show 0 < 1000; decide), ?_⟩
    refine ⟨.ref b, rfl, .ref p, rfl, p, C, dx, _, rfl, upd_same, T.cl, T.nS, (by show 1 < 1000; decide), ?_⟩
    -- the heap behind both stores
    have k4 : ∀ c o, H2 c = some o → c ≠ p → (upd (upd H2 p (.ins C dx (putF "mirrors" (.ref a) []))) p (.ins C dx (putF "steps" (.ref b) (putF "mirrors" (.ref a) [])))) c = some o := fun c o e z => by
      rw [upd_ne z, upd_ne z]; exact e
    generalize e4 : upd (upd H2 p (.ins C dx (putF "mirrors" (.ref a) []))) p (.ins C dx (putF "steps" (.ref b) (putF "mirrors" (.ref a) []))) = H4 at k4 ⊢
    have hp4 : H4 p = some (.ins C dx (putF "steps" (.ref b) (putF "mirrors" (.ref a) []))) := by rw [← e4, upd_same]
    have hA4 : SqT K H4 a (ns.map V.int) := sqT_but hp2 k4 (sqT_same s02 hA)
    have hB4 : Tups K H4 b ps := tups_but hp2 k4 (hB.same s02)
    have h8 := hM.few
    refine ⟨.ref a, rfl, a, _, rfl, .inr hA4, _, rfl, ?_, ?_, fun D nD => ?_⟩
    · rw [List.length_map]; omega
    · rw [List.length_map]; omega
    rw [List.length_map, Int.toNat_natCast]
    refine lc_range (lo := 0) (n := ns.length) (fun i H' => Same H4 H' ∧ ∃ ks : List (Addr × List Int), ks.map (·.2) = follow i ps ∧ H' D = some (.lst (ks.map fun p => V.ref p.1)) ∧ ∀ q ∈ ks, SqT K H' q.1 (q.2.map V.int)) ⟨same_upd nD, [], rfl, upd_same, fun _ z => nomatch z⟩ (fun i H' hi z => ?_) fun H' z => ?_
    · obtain ⟨s5, ks, e1, e2, e3⟩ := z
      have hkl : ks.length = i := by
        have := congrArg List.length e1
        rw [List.length_map] at this
        rw [this]; unfold follow; rw [List.length_map, List.length_range]
      refine ⟨rfl, tt_yes ⟨.ref b, rfl, .int (0 + (i : Nat)), rfl, b, ps, _, rfl, hB4.same s5, by have := hS.few; omega, fun q hq => ?_, fun H6 t s6 nt et => ⟨_, s6 _ _ e2, ?_, ?_, ?_⟩⟩⟩
      · obtain ⟨x, y, e, _⟩ := hS.pair q hq
        exact ⟨x, y, e⟩
      · rw [List.length_map]; exact few1 (by omega)
      · exact fun c o e => by rw [upd_ne (ne_of_none e nD)]; exact s6 c o (s5 c o e)
      · have hk6 : ∀ c o, H6 c = some o → c ≠ D → (upd H6 D (.lst ((ks.map fun p => V.ref p.1) ++ [V.ref t]))) c = some o := fun c o e z => by rw [upd_ne z]; exact e
        have tk : ∀ {c : Addr} {xs : List V}, SqT K H6 c xs → SqT K (upd H6 D (.lst ((ks.map fun p => V.ref p.1) ++ [V.ref t]))) c xs := by
          intro c xs h
          have eD := s6 _ _ e2
          rcases h with (h | ⟨o, h⟩) | h
          · exact .inl (.inl (hk6 _ _ h fun z => by rw [z, eD] at h; cases h))
          · exact .inl (.inr ⟨o, hk6 _ _ h fun z => by rw [z, eD] at h; cases h⟩)
          · exact .inr h
        refine ⟨ks ++ [(t, behindOf ps (i : Int))], ?_, ?_, fun q hq => ?_⟩
        · rw [List.map_append, e1, follow_next]; rfl
        · rw [upd_same, List.map_append]; rfl
        · rcases List.mem_append.mp hq with z | z
          · exact tk (sqT_same s6 (e3 q z))
          · rw [List.mem_singleton.mp z]
            refine tk (tupNew ?_)
            rw [et, show (0 + ((i : Nat) : Int)) = (i : Int) by omega]
    · obtain ⟨s5, ks, e1, e2, e3⟩ := z
      refine .inl ⟨D, _, rfl, lstNew e2, fun t nt => ?_⟩
      have sT : Same H' (upd H' t (.tup (ks.map fun p => V.ref p.1))) := same_upd nt
      have hpT := sT _ _ (s5 _ _ hp4)
      refine ⟨.ref p, rfl, p, C, dx, _, rfl, hpT, T.cl, T.nF, (by
        show (putF "steps" (V.ref b) (putF "mirrors" (V.ref a) [])).length < 1000
        show (if ("mirrors" : Str) = "steps" then [(("mirrors" : Str), V.ref b)] else (("mirrors" : Str), V.ref a) :: putF "steps" (V.ref b) []).length < 1000
        rw [if_neg n1]; show 2 < 1000; decide), ?_⟩
      refine q _ t (fun c o e z => ?_) upd_same ?_
      · rw [upd_ne z]
        exact sT _ _ (s5 _ _ (k4 _ _ (s02 _ _ e) z))
      · have tt : Tups K (upd H' t (.tup (ks.map fun p => V.ref p.1))) t (follow ns.length ps) := ⟨ks, e1, tupNew upd_same, fun q hq => sqT_same sT (e3 q hq)⟩
        exact tups_but hpT (fun c o e z => by rw [upd_ne z]; exact e) tt
end
end K9
namespace RV
open PySem L2
/-! ### lists that rise -/
theorem sorted_eq {α : Type} {f : α → Int} : ∀ {l l' : List α}, l.Pairwise (fun a b => f a < f b) → l'.Pairwise (fun a b => f a < f b) → (∀ x, x ∈ l ↔ x ∈ l') → l = l'
  | [], [], _, _, _ => rfl
  | [], y :: r, _, _, h => nomatch (h y).mpr (List.mem_cons_self ..)
  | x :: r, [], _, _, h => nomatch (h x).mp (List.mem_cons_self ..)
  | x :: l, y :: l', h1, h2, h => by
    rw [List.pairwise_cons] at h1 h2
    have exy : x = y := by
      rcases List.mem_cons.mp ((h x).mp (List.mem_cons_self ..)) with e | e
      · exact e
      · rcases List.mem_cons.mp ((h y).mpr (List.mem_cons_self ..)) with e' | e'
        · exact e'.symm
        · have := h2.1 x e
          have := h1.1 y e'
          omega
    subst exy
    rw [sorted_eq h1.2 h2.2 fun z => ⟨fun hz => ?_, fun hz => ?_⟩]
    · rcases List.mem_cons.mp ((h z).mp (List.mem_cons_of_mem _ hz)) with e | e
      · have := h1.1 z hz
        rw [e] at this; omega
      · exact e
    · rcases List.mem_cons.mp ((h z).mpr (List.mem_cons_of_mem _ hz)) with e | e
      · have := h2.1 z hz
        rw [e] at this; omega
      · exact e
theorem nodup_le {α : Type} [DecidableEq α] : ∀ {l us : List α}, l.Nodup → (∀ x ∈ l, x ∈ us) → l.length ≤ us.length
  | [], _, _, _ => Nat.zero_le _
  | x :: l, us, h, hs => by
    rw [List.nodup_cons] at h
    have hx := hs x (List.mem_cons_self ..)
    have ih : l.length ≤ (us.erase x).length := nodup_le h.2 fun z hz => by
      refine (List.mem_erase_of_ne fun e => ?_).mpr (hs z (List.mem_cons_of_mem _ hz))
      subst e; exact h.1 hz
    have hl := List.length_erase_of_mem hx
    have hp : 0 < us.length := List.length_pos_of_mem hx
    rw [List.length_cons]; omega
/-! ### pairs -/
/-- a pair of marks below b -/
def Pr (b : Int) (p : List Int) : Prop := ∃ x y : Int, p = [x, y] ∧ (0 ≤ x ∧ x < b) ∧ (0 ≤ y ∧ y < b)
abbrev cd (p : List Int) : Int := TS.code 64 p
theorem cd_pair (x y : Int) : cd [x, y] = x * 64 + y := code_pair x y
theorem lt_lex {p q : List Int} (hp : Pr 64 p) (hq : Pr 64 q) (h : cd p < cd q) : HT.lexLt p q = true := by
  obtain ⟨x, y, rfl, hx, hy⟩ := hp
  obtain ⟨x', y', rfl, hx', hy'⟩ := hq
  rw [cd_pair, cd_pair] at h
  rw [HT.lexLt_cons, HT.lexLt_cons, HT.lexLt_nil_nil]
  by_cases e : x = x'
  · rw [if_pos e]
    have : y < y' := by omega
    rw [if_neg (by omega)]; exact decide_eq_true this
  · rw [if_neg e]; exact decide_eq_true (by omega)
theorem lt_of {p q : List Int} (hp : Pr 64 p) (hq : Pr 64 q) (h : cd p ≤ cd q) (ne : p ≠ q) : cd p < cd q := by
  obtain ⟨x, y, rfl, hx, hy⟩ := hp
  obtain ⟨x', y', rfl, hx', hy'⟩ := hq
  have z := pair_lt h ne hx hy hx' hy'
  rw [cd_pair, cd_pair]
  omega
theorem Pr.mono {b c : Int} {p : List Int} (h : Pr b p) (hbc : b ≤ c) : Pr c p := by
  obtain ⟨x, y, e, hx, hy⟩ := h
  exact ⟨x, y, e, by omega, by omega⟩
theorem sorted_lt {l : List (List Int)} (hb : ∀ p ∈ l, Pr 64 p) (nd : l.Nodup) (h : l.Pairwise fun p q => cd p ≤ cd q) : l.Pairwise fun p q => cd p < cd q := by
  have h2 := List.Pairwise.and h nd
  exact List.Pairwise.imp_of_mem (fun {p q} hp hq z => lt_of (hb p hp) (hb q hq) z.1 z.2) h2
theorem adj_rise {l : List (List Int)} (hb : ∀ p ∈ l, Pr 64 p) (h : l.Pairwise fun p q => cd p < cd q) (i : Nat) (p q : List Int) (h1 : l[i]? = some p) (h2 : l[i + 1]? = some q) : HT.lexLt p q = true := by
  obtain ⟨l1, e1⟩ := List.getElem?_eq_some_iff.mp h1
  obtain ⟨l2, e2⟩ := List.getElem?_eq_some_iff.mp h2
  have := List.pairwise_iff_getElem.mp h i (i + 1) l1 l2 (Nat.lt_succ_self _)
  rw [e1, e2] at this
  exact lt_lex (hb p (List.mem_of_getElem? h1)) (hb q (List.mem_of_getElem? h2)) this
/-! ### all pairs, row by row -/
def rowOf (d : Int) (Pd : Int → Int → Bool) (i n : Nat) : List (List Int) := ((List.range n).filter fun (j : Nat) => Pd (i : Int) (j : Int)).map fun (j : Nat) => [d + (i : Int), d + (j : Int)]
def gridOf (d : Int) (Pd : Int → Int → Bool) (m n : Nat) : List (List Int) := (List.range n).flatMap fun (i : Nat) => rowOf d Pd i m
theorem row_next (d : Int) (Pd : Int → Int → Bool) (i n : Nat) : rowOf d Pd i (n + 1) = rowOf d Pd i n ++ (if Pd (i : Int) (n : Int) = true then [[d + (i : Int), d + (n : Int)]] else []) := by
  unfold rowOf
  rw [List.range_succ, List.filter_append, List.map_append]
  by_cases h : Pd (i : Int) (n : Int) = true <;> simp [h]
theorem grid_next (d : Int) (Pd : Int → Int → Bool) (m n : Nat) : gridOf d Pd m (n + 1) = gridOf d Pd m n ++ rowOf d Pd n m := by
  unfold gridOf
  rw [List.range_succ, List.flatMap_append]; simp
theorem row_len (d : Int) (Pd : Int → Int → Bool) (i n : Nat) : (rowOf d Pd i n).length ≤ n := by
  unfold rowOf
  rw [List.length_map]
  exact Nat.le_trans (List.length_filter_le _ _) (by rw [List.length_range]; exact Nat.le_refl _)
theorem grid_len (d : Int) (Pd : Int → Int → Bool) (m : Nat) : ∀ n, (gridOf d Pd m n).length ≤ n * m
  | 0 => by simp [gridOf]
  | n + 1 => by
    have h := grid_len d Pd m n
    have h2 := row_len d Pd n m
    rw [grid_next, List.length_append, Nat.succ_mul]; omega
theorem mem_row {d : Int} {Pd : Int → Int → Bool} {i n : Nat} {p : List Int} : p ∈ rowOf d Pd i n ↔ ∃ j : Nat, j < n ∧ Pd (i : Int) (j : Int) = true ∧ p = [d + (i : Int), d + (j : Int)] := by
  unfold rowOf
  rw [List.mem_map]
  constructor
  · rintro ⟨j, hj, e⟩
    rw [List.mem_filter, List.mem_range] at hj
    exact ⟨j, hj.1, hj.2, e.symm⟩
  · rintro ⟨j, h1, h2, e⟩
    exact ⟨j, List.mem_filter.mpr ⟨List.mem_range.mpr h1, h2⟩, e.symm⟩
theorem mem_grid {d : Int} {Pd : Int → Int → Bool} {m n : Nat} {p : List Int} : p ∈ gridOf d Pd m n ↔ ∃ i j : Nat, i < n ∧ j < m ∧ Pd (i : Int) (j : Int) = true ∧ p = [d + (i : Int), d + (j : Int)] := by
  unfold gridOf
  rw [List.mem_flatMap]
  constructor
  · rintro ⟨i, hi, hp⟩
    obtain ⟨j, h1, h2, h3⟩ := mem_row.mp hp
    exact ⟨i, j, List.mem_range.mp hi, h1, h2, h3⟩
  · rintro ⟨i, j, h1, h2, h3, h4⟩
    exact ⟨i, List.mem_range.mpr h1, mem_row.mpr ⟨j, h2, h3, h4⟩⟩
theorem grid_rise {d : Int} {Pd : Int → Int → Bool} {m n : Nat} (hd : 0 ≤ d) (hm : d + (m : Int) ≤ 64) : (gridOf d Pd m n).Pairwise fun p q => cd p < cd q := by
  unfold gridOf
  rw [List.pairwise_flatMap]
  refine ⟨fun i _ => ?_, ?_⟩
  · unfold rowOf
    rw [List.pairwise_map]
    refine List.Pairwise.imp (fun {a b} (h : a < b) => ?_) (List.Pairwise.filter _ List.pairwise_lt_range)
    rw [cd_pair, cd_pair]; omega
  · refine List.Pairwise.imp (fun {a b} (h : a < b) x hx y hy => ?_) List.pairwise_lt_range
    obtain ⟨j, h1, _, rfl⟩ := mem_row.mp hx
    obtain ⟨k, h2, _, rfl⟩ := mem_row.mp hy
    rw [cd_pair, cd_pair]; omega
theorem grid_pr {d : Int} {Pd : Int → Int → Bool} {m n : Nat} {b : Int} (hd : 0 ≤ d) (hm : d + (m : Int) ≤ b) (hn : d + (n : Int) ≤ b) : ∀ p ∈ gridOf d Pd m n, Pr b p := by
  intro p hp
  obtain ⟨i, j, h1, h2, _, rfl⟩ := mem_grid.mp hp
  exact ⟨_, _, rfl, by omega, by omega⟩
end RV
namespace K9
open PySem PySem.Spec PyProof.Rows L2 RV
def rgI (a b : Int) : List Int := (List.range (b - a).toNat).map fun (i : Nat) => a + (i : Int)
theorem rgV_rgI (a b : Int) : rgV a b = (rgI a b).map V.int := by
  unfold rgV rgI
  rw [List.map_map]; rfl
theorem rgI_len (a b : Int) : (rgI a b).length = (b - a).toNat := by unfold rgI; rw [List.length_map, List.length_range]
theorem rgI_get {a b : Int} {k : Nat} {m : Int} : (rgI a b)[k]? = some m ↔ k < (b - a).toNat ∧ m = a + (k : Int) := by
  unfold rgI
  rw [List.getElem?_map]
  by_cases h : k < (b - a).toNat
  · rw [List.getElem?_range h]
    simp [h, eq_comm]
  · rw [List.getElem?_eq_none (by rw [List.length_range]; omega)]
    simp [h]
/-! ### mirrors drawn: fs so far, ls the marks left -/
structure Half (m : Nat) (fs ls : List Int) : Prop where
  len : fs.length = m
  inn : ∀ (k : Nat) (x : Int), fs[k]? = some x → 0 ≤ x ∧ x < (m : Int)
  back : ∀ (k : Nat) (x : Int), fs[k]? = some x → fs[x.toNat]? = some (k : Int)
  nd : ls.Nodup
  lin : ∀ x ∈ ls, 0 ≤ x ∧ x < (m : Int)
  self : ∀ x ∈ ls, fs[x.toNat]? = some x
theorem half_start (m : Nat) : Half m (rgI 0 (m : Int)) (rgI 0 (m : Int)) := by
  have mem : ∀ x ∈ rgI 0 (m : Int), 0 ≤ x ∧ x < (m : Int) := fun x hx => by
    obtain ⟨k, hk, e⟩ := List.getElem_of_mem hx
    have z : (rgI 0 (m : Int))[k]? = some x := by rw [List.getElem?_eq_getElem hk, e]
    rw [rgI_get] at z; omega
  refine ⟨by rw [rgI_len]; omega, fun k x h => ?_, fun k x h => ?_, ?_, mem, fun x hx => ?_⟩
  · rw [rgI_get] at h; omega
  · rw [rgI_get] at h ⊢; omega
  · unfold rgI
    refine List.Pairwise.map _ (fun a b (h : a < b) => ?_) List.pairwise_lt_range
    omega
  · have := mem x hx
    rw [rgI_get]; omega
theorem half_drop {m : Nat} {fs ls : List Int} {x : Int} (h : Half m fs (x :: ls)) : Half m fs ls :=
  ⟨h.len, h.inn, h.back, (List.nodup_cons.mp h.nd).2, fun y hy => h.lin y (List.mem_cons_of_mem _ hy), fun y hy => h.self y (List.mem_cons_of_mem _ hy)⟩
theorem not_in_erase : ∀ {ls : List Int} {r : Nat} {z : Int}, ls.Nodup → ls[r]? = some z → z ∉ ls.eraseIdx r
  | [], _, _, _, h => by simp at h
  | a :: l, 0, z, nd, h => by
    have e : a = z := Option.some.inj h
    subst e
    exact (List.nodup_cons.mp nd).1
  | a :: l, r + 1, z, nd, h => by
    have h' : l[r]? = some z := h
    intro hz
    rcases List.mem_cons.mp (show z ∈ a :: l.eraseIdx r from hz) with e | e
    · exact (List.nodup_cons.mp nd).1 (e ▸ List.mem_of_getElem? h')
    · exact not_in_erase (List.nodup_cons.mp nd).2 h' e
theorem half_pair {m : Nat} {fs ls : List Int} {x y : Int} {r : Nat} (h : Half m fs (x :: ls)) (hy : ls[r]? = some y) : Half m ((fs.set x.toNat y).set y.toNat x) (ls.eraseIdx r) := by
  have hx := h.lin x (List.mem_cons_self ..)
  have hyl : y ∈ ls := List.mem_of_getElem? hy
  have hy1 := h.lin y (List.mem_cons_of_mem _ hyl)
  have hxy : x ≠ y := fun e => (List.nodup_cons.mp h.nd).1 (e ▸ hyl)
  have sx := h.self x (List.mem_cons_self ..)
  have sy := h.self y (List.mem_cons_of_mem _ hyl)
  have hl := h.len
  have nxy : x.toNat ≠ y.toNat := by omega
  have get : ∀ k : Nat, ((fs.set x.toNat y).set y.toNat x)[k]? = if y.toNat = k then (if k < m then some x else none) else if x.toNat = k then (if k < m then some y else none) else fs[k]? := fun k => by
    rw [List.getElem?_set, List.getElem?_set, List.length_set, hl]
    by_cases e1 : y.toNat = k
    · simp [e1]
    · by_cases e2 : x.toNat = k
      · simp [e1, e2]
      · simp [e1, e2]
  have sub : ∀ z ∈ ls.eraseIdx r, z ∈ ls := fun z hz => List.mem_of_mem_eraseIdx hz
  refine ⟨by rw [List.length_set, List.length_set]; exact hl, fun k z hz => ?_, fun k z hz => ?_, ?_, fun z hz => h.lin z (List.mem_cons_of_mem _ (sub z hz)), fun z hz => ?_⟩
  · rw [get] at hz
    split at hz
    · split at hz
      · cases hz; exact hx
      · cases hz
    · split at hz
      · split at hz
        · cases hz; exact hy1
        · cases hz
      · exact h.inn k z hz
  · rw [get] at hz
    split at hz
    · rename_i e1
      split at hz
      · cases hz
        rw [get, if_neg (by omega), if_pos rfl, if_pos (by omega)]
        congr 1; omega
      · cases hz
    · rename_i e1
      split at hz
      · rename_i e2
        split at hz
        · cases hz
          rw [get, if_pos rfl, if_pos (by omega)]
          congr 1; omega
        · cases hz
      · rename_i e2
        have b1 := h.back k z hz
        have i1 := h.inn k z hz
        have n1 : y.toNat ≠ z.toNat := fun e => by
          have : z = y := by omega
          subst this
          rw [sy] at b1
          have := Option.some.inj b1
          omega
        have n2 : x.toNat ≠ z.toNat := fun e => by
          have : z = x := by omega
          subst this
          rw [sx] at b1
          have := Option.some.inj b1
          omega
        rw [get, if_neg n1, if_neg n2]; exact b1
  · exact List.Nodup.sublist (List.eraseIdx_sublist ls r) (List.nodup_cons.mp h.nd).2
  · have hzl := sub z hz
    have z1 := h.lin z (List.mem_cons_of_mem _ hzl)
    have zx : z ≠ x := fun e => (List.nodup_cons.mp h.nd).1 (e ▸ hzl)
    have zy : z ≠ y := fun e => by
      subst e
      exact not_in_erase (List.nodup_cons.mp h.nd).2 hy hz
    rw [get, if_neg (by omega), if_neg (by omega)]
    exact h.self z (List.mem_cons_of_mem _ hzl)
theorem half_mir {m : Nat} {fs : List Int} (h : Half m fs []) (h1 : 1 ≤ m) (h8 : m ≤ 8) : Mir fs := by
  have hl := h.len
  refine ⟨by omega, by omega, fun x hx => ?_, h.back⟩
  obtain ⟨k, hk, e⟩ := List.getElem_of_mem hx
  have := h.inn k x (by rw [List.getElem?_eq_getElem hk, e])
  omega
end K9
set_option maxHeartbeats 4000000
namespace K9
open PySem PySem.Spec PyProof.Rows L2 RV
/-- a pail of numbers stands at p, t have been mixed -/
def PailAt (H : Hp) (p : Addr) (t : Nat) : Prop := ∃ x y : Int, H p = some (.lst [.int x, .int y, .int (t : Int)]) ∧ 0 ≤ x ∧ 0 ≤ y ∧ y < 2147483629
/-- all stands but what is at p -/
def But (p : Addr) (H H' : Hp) : Prop := ∀ c o, H c = some o → c ≠ p → H' c = some o
theorem But.refl (p : Addr) (H : Hp) : But p H H := fun _ _ e _ => e
theorem But.trans {p : Addr} {H H1 H2 : Hp} (a : But p H H1) (b : But p H1 H2) : But p H H2 := fun c o e z => b c o (a c o e z) z
theorem But.of {p : Addr} {H H' : Hp} (s : Same H H') : But p H H' := fun c o e _ => s c o e
section
variable {P : Program} {w : World} {K : PySem.W.Frag} {mg : Str → Option Value} {base : Heap}
/-! ### _law_pail -/
theorem scPail : FnScope ["_law_script", "_law_at", "_law_cell", "_law_own"] ["_law_script", "_law_at"] (defScope sPail) := ⟨rfl, rfl, rfl, by decide +kernel, rfl, by decide +kernel, by decide +kernel⟩
def spPail (K : PySem.W.Frag) : Sp := fun vs H Q _ => ∃ (a : Addr) (ns : List Int) (k : Nat), vs = [.ref a, .int (k : Int)] ∧ SqL K H a (ns.map V.int) ∧ k < 64 ∧ ∀ H' p, Same H H' → H p = none → PailAt H' p 0 → Q (.ref p) H'
theorem flag01 (b : Bool) : -(2 ^ 64) < (if b = true then (1 : Int) else 0) ∧ (if b = true then (1 : Int) else 0) < 2 ^ 64 := by cases b <;> decide
theorem mul_flag {x : Int} (h : 0 ≤ x) (b : Bool) : 0 ≤ x * (if b = true then (1 : Int) else 0) := by
  cases b
  · show 0 ≤ x * 0
    rw [Int.mul_zero]; exact Int.le_refl _
  · show 0 ≤ x * 1
    rw [Int.mul_one]; exact h
theorem pow60 : ((10 : Int) ^ (60 : Int).toNat).natAbs < 2 ^ 200 := by decide +kernel
theorem pow120 : ((10 : Int) ^ (60 : Int).toNat * (10 : Int) ^ (60 : Int).toNat).natAbs < 2 ^ 400 := by decide +kernel
theorem pow180 : (0 : Int) < (10 : Int) ^ (60 : Int).toNat * (10 : Int) ^ (60 : Int).toNat * (10 : Int) ^ (60 : Int).toNat := by decide +kernel
theorem ok_pail {f : Addr} {fd : FuncData} (F : Fun K "_law_pail" "_law_pail" sPail f fd) (B : Bare mg) : FnOk P w K mg base CX0 1 f fd ["_law_script", "_law_at"] (spPail K) := by
  refine F.ok scPail (fun vs H Q E h => ?_) (fun cdv A outer s H vs Q E hr h => ?_)
  · obtain ⟨a, ns, k, rfl, _⟩ := h
    rfl
  · obtain ⟨a, ns, k, rfl, hS, hk, q⟩ := h
    refine ⟨_, pss_cons (ps_set (i := 2) scPail.nd rfl (Or.inl rfl) (pe_ifExp (pt_cmpR op_lt (pv 1) (pe_callB call_len_seq (by rfl) B.len PySem.boot_len (pa_cons (pv 0) pa_nil)) (nomark _)) (pe_ix ix_list (pv 0) (pv 1) (fun _ _ => rfl)) (pe_op op_add (pe_op op_mul pe_int (pv 1)) pe_int)))
      (pss_cons (ps_set (i := 3) scPail.nd rfl (Or.inl rfl) (pe_op op_mod (pe_callB call_abs (by rfl) B.abs (by decide +kernel) (pa_cons (pv 2) pa_nil)) (pe_op op_mulW (pe_op op_mulW (pe_op op_pow pe_int pe_int) (pe_op op_pow pe_int pe_int)) (pe_op op_pow pe_int pe_int))))
      (pss_one (ps_ret (pe_lst (pa_cons (pe_op op_mul (pv 3) (pe_callTy call_int1 (by rfl) B.int boot_int (pa_cons (pe_cmpR op_ge (pe_callB call_abs (by rfl) B.abs (by decide +kernel) (pa_cons (pv 2) pa_nil)) (pe_op op_pow pe_int pe_int) (nomark _)) pa_nil)))
        (pa_cons (pe_op op_mod (pe_op op_mul (pe_op op_add (pe_op op_add (pe_op op_mod (pv 2) pe_int) (pe_op op_mul pe_int (pv 1))) pe_int) pe_int) pe_int) (pa_cons pe_int pa_nil))))))), ?_⟩
    refine ⟨.int (k : Int), rfl, .ref a, rfl, a, _, rfl, .inl hS, (k : Int), _, rfl, rfl, _, rfl, ?_⟩
    refine ite2 (fun hlt => ?_) (fun _ => ?_)
    · have hkl : k < ns.length := by
        have z := of_decide_eq_true hlt
        rw [List.length_map] at z; omega
      refine ⟨.ref a, rfl, .int (k : Int), rfl, a, _, (k : Int), .int ns[k], rfl, rfl, hS, atI_nat (by rw [List.getElem?_map, List.getElem?_eq_getElem hkl]; rfl), ?_⟩
      refine ⟨_, rfl, ns[k], rfl, 10, 60, rfl, rfl, ⟨by decide, by decide, by decide⟩, 10, 60, rfl, rfl, ⟨by decide, by decide, by decide⟩, _, _, rfl, rfl, wide_mul pow60 pow60 (by decide) (by decide) (by decide), 10, 60, rfl, rfl, ⟨by decide, by decide, by decide⟩, _, _, rfl, rfl, wide_mul pow120 pow60 (by decide) (by decide) (by decide), _, _, rfl, rfl, pow180, ?_⟩
      have own0 := Int.emod_nonneg (if ns[k] < 0 then -ns[k] else ns[k]) (Int.ne_of_gt pow180)
      refine ⟨_, rfl, _, rfl, ns[k], rfl, 10, 18, rfl, rfl, ⟨by decide, by decide, by decide⟩, _, _, rfl, rfl, .inr ⟨_, rfl, _, _, rfl, rfl, .inr ?_, _, rfl, ns[k], 2305843009213693951, rfl, rfl, (show (0 : Int) < 2305843009213693951 by decide), .int (k : Int), rfl, 7877, (k : Int), rfl, rfl, .inl ⟨by decide, by decide⟩, _, _, rfl, rfl, _, 29, rfl, rfl, _, 39373, rfl, rfl, .inr ⟨by decide, by decide⟩, _, 2147483629, rfl, rfl, (show (0 : Int) < 2147483629 by decide), ?_, fun p np => ?_⟩⟩
      · exact flag01 _
      · show 3 ≤ sizeLine; decide
      · refine q _ p (same_upd np) np ⟨_, _, upd_same, ?_, Int.emod_nonneg _ (by decide), Int.emod_lt_of_pos _ (by decide)⟩
        exact mul_flag own0 _
    · refine ⟨.int (k : Int), rfl, 11, (k : Int), rfl, rfl, .inl ⟨by decide, by decide⟩, _, 5, rfl, rfl, ?_⟩
      refine ⟨_, rfl, (11 * (k : Int) + 5), rfl, 10, 60, rfl, rfl, ⟨by decide, by decide, by decide⟩, 10, 60, rfl, rfl, ⟨by decide, by decide, by decide⟩, _, _, rfl, rfl, wide_mul pow60 pow60 (by decide) (by decide) (by decide), 10, 60, rfl, rfl, ⟨by decide, by decide, by decide⟩, _, _, rfl, rfl, wide_mul pow120 pow60 (by decide) (by decide) (by decide), _, _, rfl, rfl, pow180, ?_⟩
      have own0 := Int.emod_nonneg (if (11 * (k : Int) + 5) < 0 then -(11 * (k : Int) + 5) else (11 * (k : Int) + 5)) (Int.ne_of_gt pow180)
      refine ⟨_, rfl, _, rfl, (11 * (k : Int) + 5), rfl, 10, 18, rfl, rfl, ⟨by decide, by decide, by decide⟩, _, _, rfl, rfl, .inr ⟨_, rfl, _, _, rfl, rfl, .inr ?_, _, rfl, (11 * (k : Int) + 5), 2305843009213693951, rfl, rfl, (show (0 : Int) < 2305843009213693951 by decide), .int (k : Int), rfl, 7877, (k : Int), rfl, rfl, .inl ⟨by decide, by decide⟩, _, _, rfl, rfl, _, 29, rfl, rfl, _, 39373, rfl, rfl, .inr ⟨by decide, by decide⟩, _, 2147483629, rfl, rfl, (show (0 : Int) < 2147483629 by decide), ?_, fun p np => ?_⟩⟩
      · exact flag01 _
      · show 3 ≤ sizeLine; decide
      · refine q _ p (same_upd np) np ⟨_, _, upd_same, ?_, Int.emod_nonneg _ (by decide), Int.emod_lt_of_pos _ (by decide)⟩
        exact mul_flag own0 _
end
end K9
set_option maxHeartbeats 4000000
namespace K9
open PySem PySem.Spec PyProof.Rows L2 RV
section
variable {P : Program} {w : World} {K : PySem.W.Frag} {mg : Str → Option Value} {base : Heap}
/-! ### _law_draw -/
theorem scDraw : FnScope ["_law_pail_here", "_law_many", "_law_told", "_law_turn", "_law_prime", "_law_mixed"] ["_law_pail_here", "_law_many"] (defScope sDraw) := ⟨rfl, rfl, rfl, by decide +kernel, rfl, by decide +kernel, by decide +kernel⟩
def spDraw : Sp := fun vs H Q _ => ∃ (p : Addr) (t : Nat) (m : Int), vs = [.ref p, .int m] ∧ PailAt H p t ∧ t ≤ 2000 ∧ 1 ≤ m ∧ m ≤ 1000 ∧
  ∀ (r : Int) (t' : Nat) (H' : Hp), 0 ≤ r → r < m → t' ≤ t + 1 → PailAt H' p t' → But p H H' → Q (.int r) H'
theorem primes_at (t : Int) (h : 0 ≤ t) : ∃ v : Int, atI [V.int 2147483587, V.int 2147483579, V.int 2147483563, V.int 2147483549, V.int 2147483543] (t % 5) = some (.int v) ∧ 0 < v ∧ v < 2147483648 := by
  have h5 : t % 5 = 0 ∨ t % 5 = 1 ∨ t % 5 = 2 ∨ t % 5 = 3 ∨ t % 5 = 4 := by omega
  rcases h5 with e | e | e | e | e <;> rw [e] <;> exact ⟨_, rfl, by decide, by decide⟩
theorem ix3 (j : Nat) (h : j < 3) : ixN 3 (j : Int) = some j := by
  rcases (show j = 0 ∨ j = 1 ∨ j = 2 by omega) with e | e | e <;> subst e <;> rfl
theorem ok_draw {f : Addr} {fd : FuncData} (F : Fun K "_law_draw" "_law_draw" sDraw f fd) : FnOk P w K mg base CX0 1 f fd ["_law_pail_here", "_law_many"] spDraw := by
  refine F.ok scDraw (fun vs H Q E h => ?_) (fun cdv A outer s H vs Q E hr h => ?_)
  · obtain ⟨p, t, m, rfl, _⟩ := h
    rfl
  · obtain ⟨p, t, m, rfl, ⟨x, y, hp, hx, hy0, hy1⟩, ht, hm1, hm2, q⟩ := h
    refine ⟨_, pss_cons (ps_if (pt_cmpR op_gt (pe_ix ix_list (pv 0) pe_int (fun _ _ => rfl)) pe_int (nomark _))
        (pss_cons (ps_set (i := 2) scDraw.nd rfl (Or.inl rfl) (pe_op op_mod (pe_ix ix_list (pv 0) pe_int (fun _ _ => rfl)) (pv 1)))
        (pss_cons (ps_asg (pe_op op_fdiv (pe_ix ix_list (pv 0) pe_int (fun _ _ => rfl)) (pv 1)) (pg_sub (pv 0) pe_int set_list))
        (pss_one (ps_ret (pv 2))))) pss_nil)
      (pss_cons (ps_asg (pe_op op_add (pe_ix ix_list (pv 0) pe_int (fun _ _ => rfl)) pe_int) (pg_sub (pv 0) pe_int set_list))
      (pss_cons (ps_set (i := 3) scDraw.nd rfl (Or.inl rfl) (pe_ix ix_list (pv 0) pe_int (fun _ _ => rfl)))
      (pss_cons (ps_set (i := 4) scDraw.nd rfl (Or.inl rfl) (pe_ix ix_list (pe_lst (pa_cons pe_int (pa_cons pe_int (pa_cons pe_int (pa_cons pe_int (pa_cons pe_int pa_nil)))))) (pe_op op_mod (pv 3) pe_int) (fun _ _ => rfl)))
      (pss_cons (ps_set (i := 5) scDraw.nd rfl (Or.inl rfl) (pe_op op_mod (pe_op op_pow (pe_op op_add (pe_op op_add (pe_ix ix_list (pv 0) pe_int (fun _ _ => rfl)) (pe_op op_mul (pe_op op_mul pe_int (pv 3)) (pv 3))) (pe_op op_mul pe_int (pv 3))) pe_int) (pv 4)))
      (pss_one (ps_ret (pe_op op_mod (pe_op op_fdiv (pe_op op_mod (pe_op op_mul (pv 5) (pe_op op_add (pe_op op_add (pe_op op_mod (pv 5) pe_int) (pv 3)) pe_int)) (pv 4)) pe_int) (pv 1)))))))), ?_⟩
    refine ⟨.ref p, rfl, p, _, 0, .int x, rfl, rfl, lstNew hp, rfl, x, 0, rfl, rfl, _, rfl, ite2 (fun hx0 => ?_) (fun _ => ?_)⟩
    · refine ⟨.ref p, rfl, p, _, 0, .int x, rfl, rfl, lstNew hp, rfl, .int m, rfl, x, m, rfl, rfl, (show 0 < m by omega), ?_⟩
      refine ⟨.ref p, rfl, p, _, 0, .int x, rfl, rfl, lstNew hp, rfl, .int m, rfl, x, m, rfl, rfl, ⟨by omega, by omega⟩, .ref p, rfl, p, _, 0, 0, rfl, rfl, hp, rfl, ?_⟩
      refine ⟨_, rfl, ?_⟩
      exact q (x % m) t _ (Int.emod_nonneg _ (by omega)) (Int.emod_lt_of_pos _ (by omega)) (by omega) ⟨x / m, y, upd_same, Int.ediv_nonneg hx (by omega), hy0, hy1⟩ fun c o e z => by rw [upd_ne z]; exact e
    · refine ⟨.ref p, rfl, p, _, 2, .int (t : Int), rfl, rfl, lstNew hp, rfl, (t : Int), 1, rfl, rfl, .ref p, rfl, p, _, 2, 2, rfl, rfl, hp, rfl, ?_⟩
      have hp1 : (upd H p (.lst [.int x, .int y, .int ((t : Int) + 1)])) p = some (.lst [.int x, .int y, .int ((t : Int) + 1)]) := upd_same
      have b1 : But p H (upd H p (.lst [.int x, .int y, .int ((t : Int) + 1)])) := fun c o e z => by rw [upd_ne z]; exact e
      refine ⟨.ref p, rfl, p, _, 2, .int ((t : Int) + 1), rfl, rfl, lstNew upd_same, rfl, ?_⟩
      obtain ⟨v, hv, v0, v1⟩ := primes_at ((t : Int) + 1) (by omega)
      refine ⟨(by show 5 ≤ sizeLine; decide), fun l nl => ⟨.int ((t : Int) + 1), rfl, (t : Int) + 1, 5, rfl, rfl, (show (0 : Int) < 5 by decide), l, _, _, .int v, rfl, rfl, lstNew upd_same, hv, ?_⟩⟩
      have s2 := same_upd (H := upd H p (.lst [.int x, .int y, .int ((t : Int) + 1)])) (o := .lst [.int 2147483587, .int 2147483579, .int 2147483563, .int 2147483549, .int 2147483543]) nl
      have hp2 := s2 _ _ hp1
      have tt : 0 ≤ ((t : Int) + 1) ∧ ((t : Int) + 1) ≤ 2001 := by omega
      have sq : 6151 * ((t : Int) + 1) * ((t : Int) + 1) ≤ 6151 * 2001 * 2001 := by
        have h1 : 6151 * ((t : Int) + 1) ≤ 6151 * 2001 := by omega
        exact Int.mul_le_mul h1 tt.2 tt.1 (by decide)
      have sq0 : 0 ≤ 6151 * ((t : Int) + 1) * ((t : Int) + 1) := Int.mul_nonneg (by omega) tt.1
      refine ⟨.ref p, rfl, p, _, 1, .int y, rfl, rfl, lstNew hp2, rfl, .int ((t : Int) + 1), rfl, 6151, _, rfl, rfl, .inl ⟨by decide, by decide⟩, .int ((t : Int) + 1), rfl, _, _, rfl, rfl, .inl ⟨by omega, by omega⟩, y, _, rfl, rfl, .int ((t : Int) + 1), rfl, 17, _, rfl, rfl, .inl ⟨by decide, by decide⟩, _, _, rfl, rfl, _, 3, rfl, rfl, ⟨by decide, by decide, ?_⟩, .int v, rfl, _, v, rfl, rfl, v0, ?_⟩
      · show (y + 6151 * ((t : Int) + 1) * ((t : Int) + 1) + 17 * ((t : Int) + 1)).natAbs < 2 ^ 64
        omega
      have z0 := Int.emod_nonneg ((y + 6151 * ((t : Int) + 1) * ((t : Int) + 1) + 17 * ((t : Int) + 1)) ^ (3 : Int).toNat) (show v ≠ 0 by omega)
      have z1 := Int.emod_lt_of_pos ((y + 6151 * ((t : Int) + 1) * ((t : Int) + 1) + 17 * ((t : Int) + 1)) ^ (3 : Int).toNat) v0
      refine ⟨_, rfl, _, rfl, _, 1009, rfl, rfl, (show (0 : Int) < 1009 by decide), .int ((t : Int) + 1), rfl, _, _, rfl, rfl, _, 1, rfl, rfl, _, _, rfl, rfl, .inl ?_, .int v, rfl, _, v, rfl, rfl, v0, _, 19, rfl, rfl, ⟨by decide, by decide⟩, .int m, rfl, _, m, rfl, rfl, (show 0 < m by omega), ?_⟩
      · exact ⟨by omega, by omega⟩
      · exact q _ (t + 1) _ (Int.emod_nonneg _ (by omega)) (Int.emod_lt_of_pos _ (by omega)) (Nat.le_refl _) ⟨x, y, hp2, hx, hy0, hy1⟩ (b1.trans (But.of s2))
end
end K9
set_option maxHeartbeats 4000000
namespace K9
open PySem PySem.Spec PyProof.Rows L2 RV
/-! ### what a draw leaves -/
theorem sqT_pail {K : PySem.W.Frag} {H H' : Hp} {p : Addr} {t : Nat} (hp : PailAt H p t) (b : But p H H') {a : Addr} {xs : List V} (h : SqT K H a xs) : SqT K H' a xs := by
  obtain ⟨x, y, e, _⟩ := hp
  rcases h with (h | ⟨o, h⟩) | h
  · exact .inl (.inl (b _ _ h fun z => by rw [z, e] at h; cases h))
  · exact .inl (.inr ⟨o, b _ _ h fun z => by rw [z, e] at h; cases h⟩)
  · exact .inr h
theorem sqL_but {K : PySem.W.Frag} {H H' : Hp} {p a : Addr} (b : But p H H') (n : a ≠ p) {xs : List V} (h : SqL K H a xs) : SqL K H' a xs := by
  rcases h with (h | ⟨o, h⟩) | h
  · exact .inl (.inl (b _ _ h n))
  · exact .inl (.inr ⟨o, b _ _ h n⟩)
  · exact .inr h
theorem tups_pail {K : PySem.W.Frag} {H H' : Hp} {p : Addr} {t : Nat} (hp : PailAt H p t) (b : But p H H') {a : Addr} {ps : List (List Int)} (h : Tups K H a ps) : Tups K H' a ps := by
  obtain ⟨ks, h1, h2, h3⟩ := h
  exact ⟨ks, h1, sqT_pail hp b h2, fun q hq => sqT_pail hp b (h3 q hq)⟩
theorem same_but {p : Addr} {H H1 H2 : Hp} (s : Same H H1) (n : H p = none) (b : But p H1 H2) : Same H H2 := fun c o e => b c o (s c o e) (ne_of_none e n)
theorem pail_same {p : Addr} {H H' : Hp} {t : Nat} (h : PailAt H p t) (s : Same H H') : PailAt H' p t := by
  obtain ⟨x, y, e, r⟩ := h
  exact ⟨x, y, s _ _ e, r⟩
theorem pail_new {p a : Addr} {H : Hp} {o : HO} {t : Nat} (h : PailAt H p t) (n : H a = none) : PailAt (upd H a o) p t := pail_same h (same_upd n)
theorem pail_set {p l : Addr} {H : Hp} {o : HO} {t : Nat} (h : PailAt H p t) (n : l ≠ p) : PailAt (upd H l o) p t := by
  obtain ⟨x, y, e, r⟩ := h
  exact ⟨x, y, by rw [upd_ne n.symm]; exact e, r⟩
theorem pail_ne {p a : Addr} {H : Hp} {t : Nat} (h : PailAt H p t) (n : H a = none) : a ≠ p := by
  obtain ⟨x, y, e, r⟩ := h
  exact (ne_of_none e n).symm
section
variable {P : Program} {w : World} {K : PySem.W.Frag} {mg : Str → Option Value} {base : Heap}
/-! ### _law_of -/
theorem scOf : FnScope ["_law_pail_here", "_law_some"] ["_law_pail_here", "_law_some"] (defScope sOf) := ⟨rfl, rfl, rfl, by decide +kernel, rfl, by decide +kernel, by decide +kernel⟩
def spOf (K : PySem.W.Frag) : Sp := fun vs H Q _ => ∃ (p a : Addr) (t : Nat) (xs : List V), vs = [.ref p, .ref a] ∧ PailAt H p t ∧ t ≤ 2000 ∧ SqL K H a xs ∧ a ≠ p ∧ 0 < xs.length ∧ xs.length ≤ 1000 ∧
  ∀ (j : Nat) (v : V) (t' : Nat) (H' : Hp), xs[j]? = some v → t' ≤ t + 1 → PailAt H' p t' → But p H H' → Q v H'
theorem ok_of {f fD : Addr} {fd fdD : FuncData} (F : Fun K "_law_of" "_law_of" sOf f fd) (DD : DefAt K mg "_law_draw" sDraw ["_law_pail_here", "_law_many"] fD fdD) (B : Bare mg) : FnOk P w K mg base CX0 2 f fd ["_law_pail_here", "_law_some"] (spOf K) := by
  have GD : FnOk P w K mg base CX0 1 fD fdD ["_law_pail_here", "_law_many"] spDraw := ok_draw DD.fn
  refine F.ok scOf (fun vs H Q E h => ?_) (fun cdv A outer s H vs Q E hr h => ?_)
  · obtain ⟨p, a, t, xs, rfl, _⟩ := h
    rfl
  · obtain ⟨p, a, t, xs, rfl, hp, ht, hS, hne, h0, h1, q⟩ := h
    refine ⟨_, pss_one (ps_ret (pe_ix ix_list (pv 1) (pe_call GD hr (by rfl) DD.mg DD.fn.kp DD.bi .nil pass0 (pa_cons (pv 0) (pa_cons (pe_callB call_len_seq (by rfl) B.len PySem.boot_len (pa_cons (pv 1) pa_nil)) pa_nil))) (fun _ _ => rfl))), ?_⟩
    refine ⟨.ref a, rfl, .ref p, rfl, .ref a, rfl, a, xs, rfl, .inl hS, p, t, (xs.length : Int), rfl, hp, ht, by omega, by omega, fun r t1 H1 r0 r1 ht1 hp1 b1 => ?_⟩
    obtain ⟨v, hv⟩ : ∃ v, xs[r.toNat]? = some v := ⟨_, List.getElem?_eq_getElem (by omega)⟩
    refine ⟨a, xs, r, v, rfl, rfl, sqL_but b1 hne hS, ?_, q r.toNat v t1 H1 hv ht1 hp1 b1⟩
    rw [show r = ((r.toNat : Nat) : Int) by omega]
    exact atI_nat hv
theorem erase_map {α β : Type} (f : α → β) : ∀ (l : List α) (i : Nat), (l.map f).eraseIdx i = (l.eraseIdx i).map f
  | [], _ => rfl
  | a :: l, 0 => rfl
  | a :: l, i + 1 => by
    show f a :: (l.map f).eraseIdx i = f a :: (l.eraseIdx i).map f
    rw [erase_map f l i]
theorem ix_at {n : Nat} {i : Int} (h1 : i < (n : Int)) (h0 : 0 ≤ i) : ixN n i = some i.toNat := by
  unfold ixN
  rw [if_pos h0, if_pos h1]
/-! ### _law_mirrors -/
theorem scDMirrors : FnScope ["_law_pail_here", "_law_many", "_law_left", "_law_found", "_law_mark", "_law_other"] ["_law_pail_here", "_law_many"] (defScope sDMirrors) := ⟨rfl, rfl, rfl, by decide +kernel, rfl, by decide +kernel, by decide +kernel⟩
def spDMirrors (K : PySem.W.Frag) : Sp := fun vs H Q _ => ∃ (p : Addr) (t m : Nat), vs = [.ref p, .int (m : Int)] ∧ PailAt H p t ∧ t ≤ 1500 ∧ 1 ≤ m ∧ m ≤ 8 ∧
  ∀ (H' : Hp) (u : Addr) (t' : Nat) (ns : List Int), PailAt H' p t' → t' ≤ t + 20 → But p H H' → SqT K H' u (ns.map V.int) → Mir ns → Q (.ref u) H'
def lenAt (H : Hp) (a : Addr) : Nat := match H a with
  | some (.lst xs) => xs.length
  | _ => 0
theorem lenAt_eq {H : Hp} {a : Addr} {xs : List V} (h : H a = some (.lst xs)) : lenAt H a = xs.length := by unfold lenAt; rw [h]
theorem shapedL (ns : List Int) : SeqAt.shaped (.list (ns.map PyData.int)) = true := by
  have h1 : (PyData.list (ns.map PyData.int)).canLay0 = true := by simp only [PyData.canLay0]; exact lay_ints ns
  have h2 : (PyData.list (ns.map PyData.int)).depth ≤ 64 := by simp only [PyData.depth, dep_ints]; omega
  show ((PyData.list (ns.map PyData.int)).canLay0 && decide ((PyData.list (ns.map PyData.int)).depth ≤ 64)) = true
  rw [h1, decide_eq_true h2]; rfl
theorem eqvL (ns ms : List Int) : PyData.eqv (.list (ns.map PyData.int)) (.list (ms.map PyData.int)) = decide (ns = ms) := by simp only [PyData.eqv, eqv_ints]
theorem ok_dmirrors {f fD : Addr} {fd fdD : FuncData} (F : Fun K "_law_mirrors" "_law_mirrors" sDMirrors f fd) (DD : DefAt K mg "_law_draw" sDraw ["_law_pail_here", "_law_many"] fD fdD) (B : Bare mg) : FnOk P w K mg base CX0 2 f fd ["_law_pail_here", "_law_many"] (spDMirrors K) := by
  have GD : FnOk P w K mg base CX0 1 fD fdD ["_law_pail_here", "_law_many"] spDraw := ok_draw DD.fn
  refine F.ok scDMirrors (fun vs H Q E h => ?_) (fun cdv A outer s H vs Q E hr h => ?_)
  · obtain ⟨p, t, m, rfl, _⟩ := h
    rfl
  · obtain ⟨p, t, m, rfl, hp, ht, m1, m8, q⟩ := h
    refine ⟨_, pss_cons (ps_par (i := 2) (j := 3) (by rfl) scDMirrors.nd rfl rfl (by decide) rfl rfl (pa_cons (pe_listRg rfl (by rfl) B.list (prg_1 (by rfl) B.range (pv 1))) (pa_cons (pe_listRg rfl (by rfl) B.list (prg_1 (by rfl) B.range (pv 1))) pa_nil)) (by rfl))
      (pss_cons (ps_while PassesOwn.never (pt_cmpR (op_neD hr.units) (pv 2) (pe_lst pa_nil) (nomark _))
        (pss_cons (ps_set (i := 4) scDMirrors.nd rfl (Or.inl rfl) (pe_bm PySem.F.plainAttrs_list PySem.F.slot_list_pop PySem.F.type_list_pop mt_popAt (pv 2) (pa_cons pe_int pa_nil)))
        (pss_one (ps_if (PW.pt (pw_and (pt_cmpR (op_neD hr.units) (pv 2) (pe_lst pa_nil) (nomark _)) (pw_and1 (pt_cmpR op_eq (pe_call GD hr (by rfl) DD.mg DD.fn.kp DD.bi .nil pass0 (pa_cons (pv 0) (pa_cons pe_int pa_nil))) pe_int (nomark _)))))
          (pss_cons (ps_set (i := 5) scDMirrors.nd rfl (Or.inl rfl) (pe_bm PySem.F.plainAttrs_list PySem.F.slot_list_pop PySem.F.type_list_pop mt_popAt (pv 2) (pa_cons (pe_call GD hr (by rfl) DD.mg DD.fn.kp DD.bi .nil pass0 (pa_cons (pv 0) (pa_cons (pe_callB call_len_seq (by rfl) B.len PySem.boot_len (pa_cons (pv 2) pa_nil)) pa_nil))) pa_nil)))
          (pss_cons (ps_asg (pv 5) (pg_sub (pv 3) (pv 4) set_list))
          (pss_one (ps_asg (pv 4) (pg_sub (pv 3) (pv 5) set_list))))) pss_nil))))
      (pss_one (ps_ret (pe_tupleOf (by rfl) B.tuple (pv 3))))), ?_⟩
    refine ⟨.int (m : Int), rfl, (m : Int), rfl, RgOk.of_le (by omega) (by omega) (by omega) (by omega), fun a na => ?_⟩
    refine ⟨.int (m : Int), rfl, (m : Int), rfl, RgOk.of_le (by omega) (by omega) (by omega) (by omega), fun b nb => ⟨.ref a, .ref b, rfl, ?_⟩⟩
    have hab : a ≠ b := ne_of_none upd_same nb
    have hap : a ≠ p := pail_ne hp na
    have hbp : b ≠ p := pail_ne (pail_new hp na) nb
    have nbH : H b = none := (same_upd na).free nb
    have s0 := (same_upd (o := .lst (rgV 0 (m : Int))) na).trans (same_upd (o := .lst (rgV 0 (m : Int))) nb)
    refine while_by (fun σ H' => ∃ (y4 y5 : Option V) (t' : Nat) (fs ls : List Int), σ = [some (.ref p), some (.int (m : Int)), some (.ref a), some (.ref b), y4, y5] ∧ But p H H' ∧ PailAt H' p t' ∧ t' + 2 * ls.length ≤ t + 16 ∧ H' a = some (.lst (ls.map V.int)) ∧ H' b = some (.lst (fs.map V.int)) ∧ Half m fs ls)
      (fun σ H' => lenAt H' a) ?_ ?_ ?_
    · refine ⟨none, none, t, rgI 0 (m : Int), rgI 0 (m : Int), rfl, But.of s0, pail_same hp s0, by rw [rgI_len]; omega, ?_, ?_, half_start m⟩
      · rw [upd_ne hab, upd_same, rgV_rgI]
      · rw [upd_same, rgV_rgI]
    · rintro σ H1 ⟨y4, y5, t1, fs, ls, rfl, b1, hp1, ht1, ea, eb, hh⟩
      refine ⟨.ref a, rfl, Nat.zero_le _, fun c nc => ?_⟩
      have sc := same_upd (o := .lst []) nc
      have ea2 := sc _ _ ea
      have eb2 := sc _ _ eb
      have hp2 := pail_same hp1 sc
      have b2 := b1.trans (But.of (p := p) sc)
      have ec : (upd H1 c (.lst [])) c = some (.lst []) := upd_same
      refine ⟨.list (ls.map PyData.int), .list (([] : List Int).map PyData.int), .lst (lstNew ea2) (dpInts ls), .lst (lstNew ec) .nil, shapedL ls, shapedL [], _, rfl, ?_⟩
      rw [eqvL]
      have lt1 : lenAt H1 a = ls.length := by rw [lenAt_eq ea, List.length_map]
      generalize upd H1 c (.lst []) = H2 at ea2 eb2 hp2 b2 ⊢
      clear ea eb sc nc ec
      cases ls with
      | nil =>
        rw [decide_eq_true rfl]
        refine iteF ?_
        refine ⟨.ref b, rfl, .inl ⟨b, _, rfl, lstNew eb2, fun u nu => ?_⟩⟩
        exact q _ u t1 fs (pail_new hp2 nu) (by omega) (b2.trans (But.of (same_upd nu))) (tupNew upd_same) (half_mir hh m1 m8)
      | cons x l =>
        rw [decide_eq_false (by simp)]
        refine iteT ?_
        -- mark = left.pop(0)
        refine ⟨.ref a, rfl, .inl ⟨rfl, _, lstNew ea2⟩, a, _, 0, 0, .int x, rfl, rfl, ea2, by decide, by decide, by simp [seqIndex?], rfl, ?_⟩
        have ea3 : (upd H2 a (.lst (((x :: l).map V.int).eraseIdx 0))) a = some (.lst (l.map V.int)) := upd_same
        have eb3 : (upd H2 a (.lst (((x :: l).map V.int).eraseIdx 0))) b = some (.lst (fs.map V.int)) := by rw [upd_ne hab.symm]; exact eb2
        have hp3 := pail_set (o := .lst (((x :: l).map V.int).eraseIdx 0)) hp2 hap
        have b3 : But p H (upd H2 a (.lst (((x :: l).map V.int).eraseIdx 0))) := fun k o e z => by rw [upd_ne (ne_of_none e na)]; exact b2 k o e z
        generalize upd H2 a (.lst (((x :: l).map V.int).eraseIdx 0)) = H3 at ea3 eb3 hp3 b3 ⊢
        -- left != []
        refine ⟨.ref a, rfl, Nat.zero_le _, fun c2 nc2 => ?_⟩
        have sc2 := same_upd (o := .lst []) nc2
        have ea4 := sc2 _ _ ea3
        have eb4 := sc2 _ _ eb3
        have hp4 := pail_same hp3 sc2
        have b4 := b3.trans (But.of (p := p) sc2)
        have ec2 : (upd H3 c2 (.lst [])) c2 = some (.lst []) := upd_same
        refine ⟨.list (l.map PyData.int), .list (([] : List Int).map PyData.int), .lst (lstNew ea4) (dpInts l), .lst (lstNew ec2) .nil, shapedL l, shapedL [], _, rfl, ?_⟩
        rw [eqvL]
        generalize upd H3 c2 (.lst []) = H4 at ea4 eb4 hp4 b4 ⊢
        clear ea3 eb3 hp3 b3 sc2 nc2 ec2 ea2 eb2 hp2 b2 b1 hp1
        rw [List.length_cons] at lt1 ht1
        have hxl := hh.lin x (List.mem_cons_self ..)
        cases l with
        | nil =>
          rw [decide_eq_true rfl]
          refine iteF (iteF ?_)
          refine ⟨⟨_, _, t1, fs, [], rfl, b4, hp4, by simp only [List.length_nil]; omega, ea4, eb4, half_drop hh⟩, ?_⟩
          rw [lenAt_eq ea4, lt1]; simp
        | cons y0 l =>
          rw [decide_eq_false (by simp)]
          refine iteT ?_
          rw [List.length_cons] at lt1 ht1
          have hl8 : (y0 :: l).length ≤ 8 := by
            have := nodup_le (us := rgI 0 (m : Int)) (half_drop hh).nd fun z hz => by
              have h1 := (half_drop hh).lin z hz
              exact List.mem_of_getElem? (i := z.toNat) (rgI_get.mpr ⟨by omega, by omega⟩)
            rw [rgI_len] at this; omega
          rw [List.length_cons] at hl8
          refine ⟨.ref p, rfl, p, t1, 2, rfl, hp4, by omega, by decide, by decide, fun r t5 H5 r0 r1 ht5 hp5 b5 => ⟨rfl, _, rfl, ite2 (fun _ => ?_) (fun _ => ?_)⟩⟩
          · have ea5 := b5 _ _ ea4 hap
            have eb5 := b5 _ _ eb4 hbp
            refine ⟨.ref a, rfl, .inl ⟨rfl, _, lstNew ea5⟩, .ref p, rfl, .ref a, rfl, a, _, rfl, .inl (lstNew ea5), p, t5, _, rfl, hp5, by omega, by simp; omega, by simp; omega, fun r2 t6 H6 r20 r21 ht6 hp6 b6 => ?_⟩
            have ea6 := b6 _ _ ea5 hap
            have eb6 := b6 _ _ eb5 hbp
            rw [List.length_map, List.length_cons] at r21
            obtain ⟨y, hy⟩ : ∃ y, (y0 :: l)[r2.toNat]? = some y := ⟨_, List.getElem?_eq_getElem (by rw [List.length_cons]; omega)⟩
            refine ⟨a, _, r2, r2.toNat, .int y, rfl, rfl, ea6, by omega, by omega, ?_, by rw [List.getElem?_map, hy]; rfl, ?_⟩
            · rw [List.length_map]
              unfold seqIndex?
              simp only [if_neg (show ¬ r2 < 0 by omega)]
              rw [if_pos]
              simp only [Bool.and_eq_true, decide_eq_true_eq]
              exact ⟨r20, by rw [List.length_cons]; omega⟩
            have hyl := (half_drop hh).lin y (List.mem_of_getElem? hy)
            have hfl := hh.len
            have b06 : But p H H6 := (b4.trans b5).trans b6
            have ea7 : (upd H6 a (.lst (((y0 :: l).map V.int).eraseIdx r2.toNat))) a = some (.lst (((y0 :: l).eraseIdx r2.toNat).map V.int)) := by rw [upd_same, erase_map]
            have eb7 : (upd H6 a (.lst (((y0 :: l).map V.int).eraseIdx r2.toNat))) b = some (.lst (fs.map V.int)) := by rw [upd_ne hab.symm]; exact eb6
            have hp7 := pail_set (o := .lst (((y0 :: l).map V.int).eraseIdx r2.toNat)) hp6 hap
            have b7 : But p H (upd H6 a (.lst (((y0 :: l).map V.int).eraseIdx r2.toNat))) := fun k o e z => by rw [upd_ne (ne_of_none e na)]; exact b06 k o e z
            generalize upd H6 a (.lst (((y0 :: l).map V.int).eraseIdx r2.toNat)) = H7 at ea7 eb7 hp7 b7 ⊢
            -- found[mark] = other; found[other] = mark
            refine ⟨.int y, rfl, .ref b, rfl, .int x, rfl, b, _, x, x.toNat, rfl, rfl, eb7, ix_at (by rw [List.length_map]; omega) hxl.1, ?_⟩
            refine ⟨.int x, rfl, .ref b, rfl, .int y, rfl, b, _, y, y.toNat, rfl, rfl, upd_same, ix_at (by rw [List.length_set, List.length_map]; omega) hyl.1, ?_⟩
            have hlen : ((y0 :: l).eraseIdx r2.toNat).length = l.length := by rw [List.length_eraseIdx_of_lt (by rw [List.length_cons]; omega)]; rfl
            refine ⟨⟨_, _, t6, (fs.set x.toNat y).set y.toNat x, (y0 :: l).eraseIdx r2.toNat, rfl, fun k o e z => ?_, pail_set (pail_set hp7 hbp) hbp, by rw [hlen]; omega, ?_, ?_, half_pair hh hy⟩, ?_⟩
            · rw [upd_ne (ne_of_none e nbH), upd_ne (ne_of_none e nbH)]; exact b7 k o e z
            · rw [upd_ne hab, upd_ne hab]; exact ea7
            · rw [upd_same, List.map_set, List.map_set]
            · rw [lenAt_eq (xs := ((y0 :: l).eraseIdx r2.toNat).map V.int) (by rw [upd_ne hab, upd_ne hab]; exact ea7), lt1, List.length_map, hlen]; omega
          · refine ⟨⟨_, _, t5, fs, y0 :: l, rfl, b4.trans b5, hp5, by rw [List.length_cons]; omega, b5 _ _ ea4 hap, b5 _ _ eb4 hbp, half_drop hh⟩, ?_⟩
            rw [lenAt_eq (b5 _ _ ea4 hap), lt1, List.length_map, List.length_cons]; omega
    · intro σ H1 Q1 Q2 hq h
      obtain ⟨v, e, z, h⟩ := h
      refine ⟨v, e, z, fun c nc => ?_⟩
      obtain ⟨d, e', h1, h2, h3, h4, k, h5, h6⟩ := h c nc
      exact ⟨d, e', h1, h2, h3, h4, k, h5, hq _ _ h6⟩
end
end K9
set_option maxHeartbeats 4000000
/-! sorted(d), d a dict whose keys are pairs of ints -/
namespace RV
open PySem PySem.Spec PyProof.Rows L2
/-- a pair of ints as a key, and back -/
def keyP (p : List Int) : List L2.Key := p.map Sum.inl
def pairOf (k : List L2.Key) : List Int := k.map fun x => match x with | .inl i => i | .inr _ => 0
theorem pairOf_keyP (p : List Int) : pairOf (keyP p) = p := by
  unfold pairOf keyP
  rw [List.map_map]
  exact List.map_id p
theorem kV_keyP (p : List Int) : (keyP p).map kV = p.map V.int := by
  unfold keyP
  rw [List.map_map]; rfl
abbrev two (p : List Int) : Int × Int := (p.getD 0 0, p.getD 1 0)
open Classical in
noncomputable def readP (h : Heap) (v : Value) : Int × Int := if e : ∃ p : Int × Int, Srt.IsPair h v p.1 p.2 then Classical.choose e else (0, 0)
theorem readP_eq {h : Heap} {v : Value} {x y : Int} (e : Srt.IsPair h v x y) : readP h v = (x, y) := by
  have ex : ∃ p : Int × Int, Srt.IsPair h v p.1 p.2 := ⟨(x, y), e⟩
  unfold readP
  rw [dif_pos ex]
  have c := Classical.choose_spec ex
  generalize Classical.choose ex = p at c
  obtain ⟨a, o, t, u, n, e1, e2, e3, e4⟩ := c
  obtain ⟨a', o', t', u', n', f1, f2, f3, f4⟩ := e
  rw [e1] at f1
  cases f1
  rw [e2] at f2
  cases f2
  rw [e4] at f4
  injection f4 with g1 g2
  have g3 : [Value.int p.1 t, Value.int p.2 u] = [Value.int x t', Value.int y u'] := by
    have := congrArg Array.toList g1
    simpa using this
  injection g3 with g4 g5
  injection g5 with g5 _
  injection g4 with g4 _
  injection g5 with g5 _
  obtain ⟨p1, p2⟩ := p
  simp only at g4 g5
  rw [g4, g5]
theorem paired_mem {α β : Type} {F : α → β → Prop} : ∀ {l : List α} {m : List β}, Paired F l m → ∀ y ∈ m, ∃ x ∈ l, F x y
  | _, _, .nil, y, h => nomatch h
  | _, _, .cons f t, y, h => by
    rcases List.mem_cons.mp h with e | e
    · rw [e]; exact ⟨_, List.mem_cons_self .., f⟩
    · obtain ⟨x, hx, fx⟩ := paired_mem t y e
      exact ⟨x, List.mem_cons_of_mem _ hx, fx⟩
theorem paired_map {α β γ : Type} {F : α → β → Prop} {f : α → γ} {g : β → γ} (h : ∀ a b, F a b → f a = g b) : ∀ {l : List α} {m : List β}, Paired F l m → l.map f = m.map g
  | _, _, .nil => rfl
  | _, _, .cons e t => by rw [List.map_cons, List.map_cons, h _ _ e, paired_map h t]
section
variable {X : Cx}
/-- sorted(d) -/
def rSortDT : List V → Hp → VK → Prop := fun xs H Q => ∃ (d : Addr) (kvs : List (List L2.Key × V)) (ps : List (List Int)), xs = [.ref d] ∧ Rd H d (.dT kvs) ∧ kvs.map (·.1) = ps.map keyP ∧ (∀ p ∈ ps, ∃ x y : Int, p = [x, y]) ∧ kvs.length ≤ 1000 ∧
  ∀ (L : List (Addr × List Int)) (q : Addr), H q = none → (L.map (·.2)).Perm ps → L.Pairwise (fun a b => SrtO.lexB (two b.2) (two a.2) = false) → (∀ a ∈ L, H a.1 = some (.tup (a.2.map V.int))) → Q (.ref q) (upd H q (.lst (L.map fun a => V.ref a.1)))
theorem cr_sortedDT (hc : X.calm = true) : CallR X (.builtin "sorted") rSortDT := by
  intro pins s σ H xs us Q I r h
  obtain ⟨d, kvs, ps, rfl, hd, hks, hpr, h1000, q⟩ := h
  obtain ⟨u, rfl, rx⟩ := vals1 r
  cases rx
  obtain ⟨z, hs, ks, pr, o, es, ep, ho, hx, hdt, he, hn⟩ := (show ObjOk X.prog X.w H s.heap d (.dT kvs) from hd.ok I.hok)
  have l1 : es.size = ks.length := size_of_entries he
  have l2 : kvs.length = ks.length := Paired.length pr
  refine Calls.call_function_entry kind_sorted plain_sorted entry_sorted (args_sorted1 _) ?_
  unfold Builtin.«sorted»
  refine wpAny_bind (m := checkCount "sorted" 1 1 _) (wpAny_pure ?_)
  refine wpAny_bind (PySem.W.kdu_collect (A := X.A.in1) (kdl_raw hs hx hdt) (I.ok.hd hc) ho (by rw [l1, ← l2]; exact Nat.le_of_lt (small1000 h1000)) fun h' tk acc kp it => ?_)
  -- what was collected
  have ea : acc.toList = ks.map fun x => Value.ref x.2.1 := by
    have hl : acc.toList.length = ks.length := by rw [Array.length_toList, it.1, l1]
    refine List.ext_getElem (by rw [hl, List.length_map]) fun j j1 j2 => ?_
    have ja : acc.toList[j]? = some acc.toList[j] := List.getElem?_eq_getElem j1
    obtain ⟨en, hen, hv⟩ := it.2 j _ (by rw [← Array.getElem?_toList]; exact ja)
    have qe := entry_at he j
    have jk : j < ks.length := by rw [List.length_map] at j2; exact j2
    rw [hen, List.getElem?_eq_getElem jk] at qe
    have e2 : en = entryOfKey (tupleKind (mixKind X.prog X.w)) ks[j] := Option.some.inj qe
    rw [hv, e2, List.getElem_map]; rfl
  have I1 : Inv X pins σ H { s with heap := h', toks := tk } := I.kept kp
  have hal : acc.toList.length = ks.length := by rw [ea, List.length_map]
  refine wpAny_bind (wpAny_newList ?_ (by rw [hal, ← l2]; exact Nat.le_of_lt (small1000 h1000)))
  have hoL : (h'.push (seqObj "list" acc.toList.toArray 0)).get? h'.objs.size = some (seqObj "list" acc.toList.toArray 0) := Heap.get?_push_size _ rfl
  show wpAny _ _ _ _ _ { s with heap := h'.push (seqObj "list" acc.toList.toArray 0), toks := tk }
  -- each is a pair
  have ent : ∀ v ∈ acc.toList, ∃ (b : Addr) (p : List Int), v = .ref b ∧ p ∈ ps ∧ H b = some (.tup (p.map V.int)) ∧ ∃ x y : Int, p = [x, y] ∧ Srt.IsPair h' v x y := by
    intro v hv
    rw [ea] at hv
    obtain ⟨x, hx1, rfl⟩ := List.mem_map.mp hv
    obtain ⟨kv, hkv, q1, q2, _⟩ := paired_mem pr x hx1
    have hk2 : kv.1 ∈ ps.map keyP := by rw [← hks]; exact List.mem_map_of_mem hkv
    obtain ⟨p, hp, ep⟩ := List.mem_map.mp hk2
    have hb : H x.2.1 = some (.tup (p.map V.int)) := by rw [q2, ← ep, kV_keyP]
    obtain ⟨x', y', e'⟩ := hpr p hp
    refine ⟨x.2.1, p, rfl, hp, hb, x', y', e', ?_⟩
    obtain ⟨_, its2, r2, oo, ho2, hc2, n2, hd2⟩ := (show ObjOk X.prog X.w H s.heap x.2.1 (.tup (p.map V.int)) from I.hok _ _ hb)
    rw [e'] at r2
    obtain ⟨u1, u2, rfl, ri, rj⟩ := vals2 r2
    obtain ⟨t1, rfl⟩ := ri
    obtain ⟨t2, rfl⟩ := rj
    exact ⟨x.2.1, oo, t1, t2, n2, rfl, kp _ _ ho2, hc2, hd2⟩
  have isp : ∀ v ∈ acc.toList, Srt.IsPair h' v (readP h' v).1 (readP h' v).2 := fun v hv => by
    obtain ⟨b, p, _, _, _, x, y, _, e⟩ := ent v hv
    rw [readP_eq e]; exact e
  refine wpAny_bind (wpAny_holding (wpAny_call_entry slot_list_sort ⟨_, hoL, rfl⟩ entry_list_sort (SrtO.list_sort_ord (s := { s with heap := h'.push (seqObj "list" acc.toList.toArray 0), toks := tk }) (ltv := fun v u => SrtO.lexB (readP h' v) (readP h' u)) (SrtO.swo_lex (readP h')) hoL
    (by rw [hal, ← l2]; exact Nat.le_of_lt (small1000 h1000)) (fun h2 => ?_) fun out g1 g2 => ⟨_, rfl, ?_⟩) (args_list_sort _)))
  · refine SrtO.pairs_sortableO (k := readP h') (s := { s with heap := h'.push (seqObj "list" acc.toList.toArray 0), toks := tk }) (by omega) (fun v hm => (isp v hm).keeps fun b o e _ => Heap.get?_push_of_some _ e) fun o e => ?_
    have e' : some o = some (seqObj "list" acc.toList.toArray 0) := e.symm.trans hoL
    cases e'
    intro c
    exact absurd (Value.type.inj c) (by decide)
  · obtain ⟨e', he'⟩ := sortedHeap_at (vs := acc.toList) (out := out.toArray) hoL
    -- as addresses with their ints
    have inV : ∀ v ∈ out, v ∈ acc.toList := fun v hv => g2.perm.mem_iff.mp hv
    let ad : Value → Addr := fun v => match v with | .ref b => b | _ => 0
    let L : List (Addr × List Int) := out.map fun v => (ad v, [(readP h' v).1, (readP h' v).2])
    have tell : ∀ v ∈ out, v = .ref (ad v) ∧ [(readP h' v).1, (readP h' v).2] ∈ ps ∧ H (ad v) = some (.tup (([(readP h' v).1, (readP h' v).2] : List Int).map V.int)) := fun v hv => by
      obtain ⟨b, p, rfl, hp, hb, x, y, rfl, e⟩ := ent v (inV v hv)
      rw [readP_eq e]
      exact ⟨rfl, hp, hb⟩
    have eo : out = L.map fun a => Value.ref a.1 := by
      show out = (out.map _).map _
      rw [List.map_map]
      conv => lhs; rw [← List.map_id out]
      exact List.map_congr_left fun v hv => (tell v hv).1
    have eks : ∀ v ∈ acc.toList, True := fun _ _ => trivial
    have hLlen : (L.map fun a => V.ref a.1).length ≤ sizeLine := by
      rw [List.length_map, List.length_map, g2.len, hal, ← l2]; exact Nat.le_of_lt (small1000 h1000)
    have rv : Vals (L.map fun a => V.ref a.1) out := by
      rw [eo]
      have : ∀ M : List (Addr × List Int), Vals (M.map fun a => V.ref a.1) (M.map fun a => Value.ref a.1) := fun M => by
        induction M with
        | nil => exact .nil
        | cons m r ih => exact .cons rfl ih
      exact this L
    have e2 : L.map (·.2) = out.map fun v => [(readP h' v).1, (readP h' v).2] := by
      show (out.map _).map _ = _
      rw [List.map_map]; rfl
    have e3 : (acc.toList.map fun v => [(readP h' v).1, (readP h' v).2]) = ps := by
      have w1 : ks.map (fun x => pairOf x.1) = ps := by
        rw [← paired_map (f := fun (a : List L2.Key × V) => pairOf a.1) (g := fun (b : List L2.Key × Addr × Value) => pairOf b.1) (fun a b f => by rw [f.1]) pr]
        have w2 : kvs.map (fun a => pairOf a.1) = (kvs.map (·.1)).map pairOf := by rw [List.map_map]; rfl
        rw [w2, hks, List.map_map]
        conv => rhs; rw [← List.map_id ps]
        exact List.map_congr_left fun p _ => pairOf_keyP p
      rw [← w1, ea, List.map_map]
      refine List.map_congr_left fun x hx1 => ?_
      obtain ⟨kv, hkv, q1, q2, _⟩ := paired_mem pr x hx1
      obtain ⟨b, p, eb, hp, hb, x', y', e', isP⟩ := ent (.ref x.2.1) (by rw [ea]; exact List.mem_map.mpr ⟨x, hx1, rfl⟩)
      cases eb
      show [(readP h' (.ref x.2.1)).1, (readP h' (.ref x.2.1)).2] = pairOf x.1
      rw [readP_eq isP, ← q1]
      have hk2 : kv.1 ∈ ps.map keyP := by rw [← hks]; exact List.mem_map_of_mem hkv
      obtain ⟨p2, hp2, ep2⟩ := List.mem_map.mp hk2
      rw [← ep2, pairOf_keyP]
      rw [hb, ← ep2, kV_keyP] at q2
      have q3 : p.map V.int = p2.map V.int := by
        injection q2 with q2
        injection q2
      have q4 : p = p2 := by
        have inj : ∀ l m : List Int, l.map V.int = m.map V.int → l = m := fun l => by
          induction l with
          | nil => intro m e; cases m with | nil => rfl | cons => cases e
          | cons a r ih =>
            intro m e
            cases m with
            | nil => cases e
            | cons b t =>
              rw [List.map_cons, List.map_cons] at e
              injection e with e1 e2
              injection e1 with e1
              rw [e1, ih t e2]
        exact inj p p2 q3
      rw [← q4, e']
    refine wpAny_pure ⟨_, rfl, .ref h'.objs.size, upd H h'.objs.size (.lst (L.map fun a => V.ref a.1)), I1.laid (t' := tk) (fun b u e => ?_) (Nat.le_refl _)
      (show ObjOk X.prog X.w _ _ _ (.lst (L.map fun a => V.ref a.1)) from ⟨hLlen, out, e', rv, he'⟩), rfl, q L _ (I1.hok.fresh (Nat.le_refl _)) ?_ ?_ fun a ha => ?_⟩
    · have hb : b < h'.objs.size := Heap.lt_size e
      rw [sortedHeap_old (Nat.ne_of_lt hb) (by rw [size_push']; exact Nat.lt_succ_of_lt hb)]
      exact Heap.get?_push_of_some _ e
    · rw [e2, ← e3]
      exact g2.perm.map _
    · show (out.map _).Pairwise _
      rw [List.pairwise_map]
      exact g1
    · obtain ⟨v, hv, rfl⟩ := List.mem_map.mp ha
      exact (tell v hv).2.2
end
end RV
set_option maxHeartbeats 4000000
namespace K9
open PySem PySem.Spec PyProof.Rows L2 RV
/-! ### a dict of pairs, by its keys -/
def addP (ps : List (List Int)) (p : List Int) : List (List Int) := if p ∈ ps then ps else ps ++ [p]
theorem keyP_inj {p q : List Int} (h : keyP p = keyP q) : p = q := by
  have := congrArg pairOf h
  rwa [pairOf_keyP, pairOf_keyP] at this
theorem key_mem {p : List Int} {ps : List (List Int)} : keyP p ∈ ps.map keyP ↔ p ∈ ps := by
  constructor
  · intro h
    obtain ⟨q, hq, e⟩ := List.mem_map.mp h
    rw [← keyP_inj e]; exact hq
  · exact fun h => List.mem_map_of_mem h
theorem put_keys {kvs : List (List L2.Key × V)} {ps : List (List Int)} {p : List Int} {v : V} (h : kvs.map (·.1) = ps.map keyP) : (putK kvs (keyP p) v).map (·.1) = (addP ps p).map keyP := by
  unfold addP
  cases e : valV kvs (keyP p) with
  | none =>
    have n : p ∉ ps := fun z => valV_not e (by rw [h]; exact key_mem.mpr z)
    rw [putK_new v e, if_neg n, List.map_append, List.map_append, h]; rfl
  | some x =>
    have y : p ∈ ps := key_mem.mp (by rw [← h]; exact valV_in e)
    rw [if_pos y, ← h]
    unfold putK
    rw [valV_any, e]
    show (kvs.map fun kv => if kv.1 = keyP p then (kv.1, v) else kv).map (·.1) = kvs.map (·.1)
    rw [List.map_map]
    refine List.map_congr_left fun kv _ => ?_
    show (if kv.1 = keyP p then (kv.1, v) else kv).1 = kv.1
    split <;> rfl
theorem mem_addP {ps : List (List Int)} {p q : List Int} : q ∈ addP ps p ↔ q ∈ ps ∨ q = p := by
  unfold addP
  split
  · rename_i h
    constructor
    · exact .inl
    · rintro (z | rfl)
      · exact z
      · exact h
  · rw [List.mem_append, List.mem_singleton]
theorem nd_addP {ps : List (List Int)} {p : List Int} (h : ps.Nodup) : (addP ps p).Nodup := by
  unfold addP
  split
  · exact h
  · rename_i n
    rw [List.nodup_append]
    exact ⟨h, by simp, fun a ha b hb e => n (by rw [← List.mem_singleton.mp hb, ← e]; exact ha)⟩
/-- a tuple of tuples of ints, all of them seen -/
def TupsH (H : Hp) (a : Addr) (ps : List (List Int)) : Prop := ∃ ks : List (Addr × List Int), ks.map (·.2) = ps ∧ H a = some (.tup (ks.map fun p => V.ref p.1)) ∧ ∀ p ∈ ks, H p.1 = some (.tup (p.2.map V.int))
theorem TupsH.tups {K : PySem.W.Frag} {H : Hp} {a : Addr} {ps : List (List Int)} (h : TupsH H a ps) : Tups K H a ps :=
  let ⟨ks, h1, h2, h3⟩ := h; ⟨ks, h1, tupNew h2, fun p hp => tupNew (h3 p hp)⟩
theorem TupsH.same {H H' : Hp} {a : Addr} {ps : List (List Int)} (h : TupsH H a ps) (e : Same H H') : TupsH H' a ps :=
  let ⟨ks, h1, h2, h3⟩ := h; ⟨ks, h1, e _ _ h2, fun p hp => e _ _ (h3 p hp)⟩
theorem TupsH.but {H H' : Hp} {p a : Addr} {t : Nat} {ps : List (List Int)} (h : TupsH H a ps) (hp : PailAt H p t) (b : But p H H') : TupsH H' a ps := by
  obtain ⟨ks, h1, h2, h3⟩ := h
  obtain ⟨x, y, e, _⟩ := hp
  exact ⟨ks, h1, b _ _ h2 fun z => (by rw [z, e] at h2; cases h2), fun q hq => b _ _ (h3 q hq) fun z => (by have h := h3 q hq; rw [z, e] at h; cases h)⟩
/-- steps drawn so far -/
structure Part (ns : List Int) (ps : List (List Int)) : Prop where
  nd : ps.Nodup
  pr : ∀ p ∈ ps, Pr (ns.length : Int) p
  mi : ∀ x y mx my : Int, [x, y] ∈ ps → ns[x.toNat]? = some mx → ns[y.toNat]? = some my → [my, mx] ∈ ps
theorem Part.nil (ns : List Int) : Part ns [] := ⟨List.nodup_nil, (fun _ h => nomatch h), fun _ _ _ _ h => nomatch h⟩
theorem Part.add {ns : List Int} {ps : List (List Int)} {x y mx my : Int} (M : Mir ns) (h : Part ns ps) (hx : 0 ≤ x ∧ x < (ns.length : Int)) (hy : 0 ≤ y ∧ y < (ns.length : Int)) (ex : ns[x.toNat]? = some mx) (ey : ns[y.toNat]? = some my) :
    Part ns (addP (addP ps [x, y]) [my, mx]) := by
  have bx := M.back _ _ ex
  have bY := M.back _ _ ey
  have ix := M.inn mx (List.mem_of_getElem? ex)
  have iy := M.inn my (List.mem_of_getElem? ey)
  refine ⟨nd_addP (nd_addP h.nd), fun p hp => ?_, fun a b ma mb hab ha hb => ?_⟩
  · rcases mem_addP.mp hp with z | rfl
    · rcases mem_addP.mp z with z | rfl
      · exact h.pr p z
      · exact ⟨x, y, rfl, hx, hy⟩
    · exact ⟨my, mx, rfl, iy, ix⟩
  · rw [mem_addP, mem_addP] at hab ⊢
    rcases hab with (z | z) | z
    · exact .inl (.inl (h.mi a b ma mb z ha hb))
    · injection z with z1 z2
      injection z2 with z2 _
      subst z1 z2
      rw [ex] at ha
      rw [ey] at hb
      cases ha
      cases hb
      exact .inr rfl
    · injection z with z1 z2
      injection z2 with z2 _
      subst z1 z2
      rw [bY] at ha
      rw [bx] at hb
      cases ha
      cases hb
      refine .inl (.inr ?_)
      rw [show ((x.toNat : Nat) : Int) = x by omega, show ((y.toNat : Nat) : Int) = y by omega]
theorem Part.len {ns : List Int} {ps : List (List Int)} (h : Part ns ps) (M : Mir ns) : ps.length ≤ 64 := by
  have := nodup_le (us := gridOf 0 (fun _ _ => true) ns.length ns.length) h.nd fun p hp => by
    obtain ⟨x, y, rfl, hx, hy⟩ := h.pr p hp
    refine mem_grid.mpr ⟨x.toNat, y.toNat, by omega, by omega, rfl, ?_⟩
    rw [show (0 + ((x.toNat : Nat) : Int)) = x by omega, show (0 + ((y.toNat : Nat) : Int)) = y by omega]
  have g := grid_len 0 (fun _ _ => true) ns.length ns.length
  have m8 : ns.length * ns.length ≤ 8 * 8 := Nat.mul_le_mul M.few M.few
  omega
theorem le_of_two {p q : List Int} (hp : Pr 64 p) (hq : Pr 64 q) (h : SrtO.lexB (two q) (two p) = false) : cd p ≤ cd q := by
  obtain ⟨x, y, rfl, hx, hy⟩ := hp
  obtain ⟨x', y', rfl, hx', hy'⟩ := hq
  have z := SrtO.lexB_no.mp h
  have z' : ¬ (x' < x ∨ (x' = x ∧ y' < y)) := z
  rw [cd_pair, cd_pair]; omega
/-- sorted, they are a rule's steps -/
theorem Part.stp {ns : List Int} {ps : List (List Int)} {L : List (Addr × List Int)} (M : Mir ns) (h : Part ns ps) (pm : (L.map (·.2)).Perm ps) (pw : L.Pairwise fun a b => SrtO.lexB (two b.2) (two a.2) = false) : Stp ns (L.map (·.2)) := by
  have h8 := M.few
  have pr : ∀ p ∈ L.map (·.2), Pr (ns.length : Int) p := fun p hp => h.pr p (pm.mem_iff.mp hp)
  have pr64 : ∀ p ∈ L.map (·.2), Pr 64 p := fun p hp => (pr p hp).mono (by omega)
  have le : (L.map (·.2)).Pairwise fun p q => cd p ≤ cd q := by
    rw [List.pairwise_map]
    exact List.Pairwise.imp_of_mem (fun {a b} ha hb z => le_of_two (pr64 _ (List.mem_map_of_mem ha)) (pr64 _ (List.mem_map_of_mem hb)) z) pw
  refine ⟨by rw [pm.length_eq]; exact h.len M, fun p hp => pr p hp, adj_rise pr64 (sorted_lt pr64 (pm.nodup_iff.mpr h.nd) le), fun x y mx my hxy hx hy => ?_, pm.nodup_iff.mpr h.nd⟩
  exact pm.mem_iff.mpr (h.mi x y mx my (pm.mem_iff.mp hxy) hx hy)
section
variable {P : Program} {w : World} {K : PySem.W.Frag} {mg : Str → Option Value} {base : Heap}
/-! ### _law_steps -/
theorem scDSteps : FnScope ["_law_pail_here", "_law_mirrors_here", "_law_found", "_law_share", "_law_one", "_law_other"] ["_law_pail_here", "_law_mirrors_here"] (defScope sDSteps) := ⟨rfl, rfl, rfl, by decide +kernel, rfl, by decide +kernel, by decide +kernel⟩
def spDSteps (K : PySem.W.Frag) : Sp := fun vs H Q _ => ∃ (p u : Addr) (t : Nat) (ns : List Int), vs = [.ref p, .ref u] ∧ PailAt H p t ∧ t ≤ 1500 ∧ SqT K H u (ns.map V.int) ∧ Mir ns ∧
  ∀ (H' : Hp) (c : Addr) (t' : Nat) (ps : List (List Int)), PailAt H' p t' → t' ≤ t + 70 → But p H H' → TupsH H' c ps → Stp ns ps → Q (.ref c) H'
theorem ok_dsteps {f fD fO : Addr} {fd fdD fdO : FuncData} (F : Fun K "_law_steps" "_law_steps" sDSteps f fd) (DD : DefAt K mg "_law_draw" sDraw ["_law_pail_here", "_law_many"] fD fdD) (DO : DefAt K mg "_law_of" sOf ["_law_pail_here", "_law_some"] fO fdO) (B : Bare mg) : FnOk P w K mg base CX0 3 f fd ["_law_pail_here", "_law_mirrors_here"] (spDSteps K) := by
  have GD : FnOk P w K mg base CX0 1 fD fdD ["_law_pail_here", "_law_many"] spDraw := ok_draw DD.fn
  have GO : FnOk P w K mg base CX0 2 fO fdO ["_law_pail_here", "_law_some"] (spOf K) := ok_of DO.fn DD B
  refine F.ok scDSteps (fun vs H Q E h => ?_) (fun cdv A outer s H vs Q E hr h => ?_)
  · obtain ⟨p, u, t, ns, rfl, _⟩ := h
    rfl
  · obtain ⟨p, u, t, ns, rfl, hp, ht, hT, M, q⟩ := h
    have hu := hu_of hr
    have hr1 := hr.mono (show 1 ≤ 2 by decide)
    refine ⟨_, pss_cons (ps_par (i := 2) (j := 3) (by rfl) scDSteps.nd rfl rfl (by decide) rfl rfl (pa_cons pe_dnewT (pa_cons (pe_call GO hr (by rfl) DO.mg DO.fn.kp DO.bi .nil pass0 (pa_cons (pv 0) (pa_cons (pe_lst (pa_cons pe_int (pa_cons pe_int (pa_cons pe_int (pa_cons pe_int pa_nil))))) pa_nil))) pa_nil)) (by rfl))
      (pss_cons (ps_for PassesOwn.never rfl (pi_range1 (by rfl) B.range (pa_cons (pe_callB call_len_seq (by rfl) B.len PySem.boot_len (pa_cons (pv 1) pa_nil)) pa_nil)) (pg_name (i := 4) scDSteps.nd rfl (Or.inl rfl))
        (pss_one (ps_for PassesOwn.never rfl (pi_range1 (by rfl) B.range (pa_cons (pe_callB call_len_seq (by rfl) B.len PySem.boot_len (pa_cons (pv 1) pa_nil)) pa_nil)) (pg_name (i := 5) scDSteps.nd rfl (Or.inl rfl))
          (pss_one (ps_if (PW.pt (pw_and (pt_cmp (pc_dnotin hu (pe_tup (pa_cons (pv 4) (pa_cons (pv 5) pa_nil))) (pv 2))) (pw_and1 (pt_cmpR op_eq (pe_call GD hr1 (by rfl) DD.mg DD.fn.kp DD.bi .nil pass0 (pa_cons (pv 0) (pa_cons (pv 3) pa_nil))) pe_int (nomark _)))))
            (pss_cons (ps_dput hu (pv 2) (pe_tup (pa_cons (pv 4) (pa_cons (pv 5) pa_nil))) pe_bl rfl)
            (pss_one (ps_dput hu (pv 2) (pe_tup (pa_cons (pe_ix ix_tup (pv 1) (pv 5) (fun _ _ => rfl)) (pa_cons (pe_ix ix_tup (pv 1) (pv 4) (fun _ _ => rfl)) pa_nil))) pe_bl rfl))) pss_nil)))))
      (pss_one (ps_ret (pe_tupleOf (by rfl) B.tuple (pe_callB (cr_sortedDT rfl) (by rfl) B.sorted (by decide +kernel) (pa_cons (pv 2) pa_nil)))))), ?_⟩
    intro d nd
    have hdp : d ≠ p := pail_ne hp nd
    refine ⟨.ref p, rfl, (by show 4 ≤ sizeLine; decide), fun l nl => ⟨p, l, t, [.int 2, .int 3, .int 4, .int 6], rfl, pail_new (pail_new hp nd) nl, by omega, lstNew upd_same, pail_ne (pail_new hp nd) nl, by decide, by decide, fun j v t1 H1 hv ht1 hp1 b1 => ⟨.ref d, v, rfl, ?_⟩⟩⟩
    obtain ⟨sh, rfl, sh1, sh6⟩ : ∃ sh : Int, v = .int sh ∧ 1 ≤ sh ∧ sh ≤ 6 := by
      have hj : j < 4 := (List.getElem?_eq_some_iff.mp hv).1
      rcases (show j = 0 ∨ j = 1 ∨ j = 2 ∨ j = 3 by omega) with e | e | e | e <;> subst e <;> cases hv <;> exact ⟨_, rfl, by decide, by decide⟩
    have s0 := (same_upd (o := .dT []) nd).trans (same_upd (o := .lst [.int 2, .int 3, .int 4, .int 6]) nl)
    have ed1 : H1 d = some (.dT []) := b1 _ _ (same_upd nl _ _ upd_same) hdp
    have b01 : But p H H1 := (But.of s0).trans b1
    have hT1 : SqT K H1 u (ns.map V.int) := sqT_pail hp b01 hT
    have hn8 := M.few
    refine ⟨.ref u, rfl, u, _, rfl, .inr hT1, _, rfl, by rw [List.length_map]; omega, by rw [List.length_map]; omega, ?_⟩
    refine for_range (lo := 0) (n := _) (fun i σ H' => ∃ (kvs : List (List L2.Key × V)) (ps : List (List Int)) (t' : Nat) (y4 y5 : Option V), σ = [some (.ref p), some (.ref u), some (.ref d), some (.int sh), y4, y5] ∧ But p H H' ∧ PailAt H' p t' ∧ t' ≤ t + 1 + i * 8 ∧ H' d = some (.dT kvs) ∧ kvs.map (·.1) = ps.map keyP ∧ Part ns ps)
      ⟨[], [], t1, none, none, rfl, b01, hp1, by omega, ed1, rfl, Part.nil ns⟩ ?_ ?_
    · rintro i σ H2 hi ⟨kvs, ps, t2, y4, y5, rfl, b2, hp2, ht2, ed2, ek2, P2⟩
      rw [List.length_map, Int.toNat_natCast] at hi
      have hT2 : SqT K H2 u (ns.map V.int) := sqT_pail hp b2 hT
      refine ⟨.ref u, rfl, u, _, rfl, .inr hT2, _, rfl, by rw [List.length_map]; omega, by rw [List.length_map]; omega, ?_⟩
      refine for_range (lo := 0) (n := _) (fun j σ H' => ∃ (kvs : List (List L2.Key × V)) (ps : List (List Int)) (t' : Nat) (y5 : Option V), σ = [some (.ref p), some (.ref u), some (.ref d), some (.int sh), some (.int (0 + (i : Nat))), y5] ∧ But p H H' ∧ PailAt H' p t' ∧ t' ≤ t + 1 + i * 8 + j ∧ H' d = some (.dT kvs) ∧ kvs.map (·.1) = ps.map keyP ∧ Part ns ps)
        ⟨kvs, ps, t2, y5, rfl, b2, hp2, by omega, ed2, ek2, P2⟩ ?_ ?_
      · rintro j σ H3 hj ⟨kvs, ps, t3, y5, rfl, b3, hp3, ht3, ed3, ek3, P3⟩
        rw [List.length_map, Int.toNat_natCast] at hj
        have ei : (0 + ((i : Nat) : Int)) = (i : Int) := by omega
        have ej : (0 + ((j : Nat) : Int)) = (j : Int) := by omega
        have hl3 := P3.len M
        have hkl : kvs.length ≤ 64 := by
          have z := congrArg List.length ek3
          rw [List.length_map, List.length_map] at z; omega
        -- (one, other) not in found
        refine ⟨.int (0 + (i : Nat)), rfl, .int (0 + (j : Nat)), rfl, (by show 2 ≤ sizeLine; decide), fun T nT => ?_⟩
        have sT := same_upd (o := .tup [.int (0 + (i : Nat)), .int (0 + (j : Nat))]) nT
        have eT : (upd H3 T (.tup [.int (0 + (i : Nat)), .int (0 + (j : Nat))])) T = some (.tup ((keyP [0 + (i : Nat), 0 + (j : Nat)]).map kV)) := upd_same
        have ed4 := sT _ _ ed3
        have b4 := b3.trans (But.of (p := p) sT)
        have hp4 := pail_same hp3 sT
        generalize upd H3 T (.tup [.int (0 + (i : Nat)), .int (0 + (j : Nat))]) = H4 at eT ed4 b4 hp4 ⊢
        refine ⟨.ref d, rfl, d, _, rfl, DGet.t ed4 eT, _, rfl, ?_⟩
        cases ev : valV kvs (keyP [0 + (i : Nat), 0 + (j : Nat)]) with
        | some x =>
          refine iteF (iteF ?_)
          exact ⟨kvs, ps, t3, _, rfl, b4, hp4, by omega, ed4, ek3, P3⟩
        | none =>
          refine iteT ?_
          refine ⟨.ref p, rfl, .int sh, rfl, p, t3, sh, rfl, hp4, by omega, sh1, by omega, fun r t5 H5 r0 r1 ht5 hp5 b5 => ⟨rfl, _, rfl, ite2 (fun _ => ?_) (fun _ => ?_)⟩⟩
          · have ed5 := b5 _ _ ed4 hdp
            have b05 := b4.trans b5
            have hT5 : SqT K H5 u (ns.map V.int) := sqT_pail hp b05 hT
            -- found[one, other] = True
            refine ⟨.ref d, rfl, .int (0 + (i : Nat)), rfl, .int (0 + (j : Nat)), rfl, (by show 2 ≤ sizeLine; decide), fun T2 nT2 => ?_⟩
            have sT2 := same_upd (o := .tup [.int (0 + (i : Nat)), .int (0 + (j : Nat))]) nT2
            have eT2 : (upd H5 T2 (.tup [.int (0 + (i : Nat)), .int (0 + (j : Nat))])) T2 = some (.tup ((keyP [0 + (i : Nat), 0 + (j : Nat)]).map kV)) := upd_same
            refine ⟨d, _, rfl, DPut.t (sT2 _ _ ed5) eT2 (few1 (by omega)), ?_⟩
            have ed6 : (upd (upd H5 T2 (.tup [.int (0 + (i : Nat)), .int (0 + (j : Nat))])) d (.dT (putK kvs (keyP [0 + (i : Nat), 0 + (j : Nat)]) (.bl true)))) d = some (.dT (putK kvs (keyP [0 + (i : Nat), 0 + (j : Nat)]) (.bl true))) := upd_same
            have b6 : But p H (upd (upd H5 T2 (.tup [.int (0 + (i : Nat)), .int (0 + (j : Nat))])) d (.dT (putK kvs (keyP [0 + (i : Nat), 0 + (j : Nat)]) (.bl true)))) := fun k o e z => by rw [upd_ne (ne_of_none e nd)]; exact sT2 _ _ (b05 k o e z)
            have hp6 := pail_set (o := .dT (putK kvs (keyP [0 + (i : Nat), 0 + (j : Nat)]) (.bl true))) (pail_same hp5 sT2) hdp
            have ek6 := put_keys (p := [0 + ((i : Nat) : Int), 0 + ((j : Nat) : Int)]) (v := .bl true) ek3
            have l6 : (putK kvs (keyP [0 + (i : Nat), 0 + (j : Nat)]) (.bl true)).length ≤ 65 := by
              rw [putK_new _ ev, List.length_append]
              show kvs.length + 1 ≤ 65
              omega
            generalize upd (upd H5 T2 (.tup [.int (0 + (i : Nat)), .int (0 + (j : Nat))])) d (.dT (putK kvs (keyP [0 + (i : Nat), 0 + (j : Nat)]) (.bl true))) = H6 at ed6 b6 hp6 ⊢
            generalize putK kvs (keyP [0 + (i : Nat), 0 + (j : Nat)]) (.bl true) = kvs6 at ed6 ek6 l6
            have hT6 : SqT K H6 u (ns.map V.int) := sqT_pail hp b6 hT
            -- found[mirrors[other], mirrors[one]] = True
            obtain ⟨mi, gi⟩ : ∃ mi, ns[i]? = some mi := ⟨_, List.getElem?_eq_getElem hi⟩
            obtain ⟨mj, gj⟩ : ∃ mj, ns[j]? = some mj := ⟨_, List.getElem?_eq_getElem hj⟩
            have ai : atI (ns.map V.int) (0 + (i : Nat)) = some (.int mi) := by rw [ei]; exact atI_nat (by rw [List.getElem?_map, gi]; rfl)
            have aj : atI (ns.map V.int) (0 + (j : Nat)) = some (.int mj) := by rw [ej]; exact atI_nat (by rw [List.getElem?_map, gj]; rfl)
            refine ⟨.ref d, rfl, .ref u, rfl, .int (0 + (j : Nat)), rfl, u, _, _, _, rfl, rfl, hT6, aj, .ref u, rfl, .int (0 + (i : Nat)), rfl, u, _, _, _, rfl, rfl, hT6, ai, (by show 2 ≤ sizeLine; decide), fun T3 nT3 => ?_⟩
            have sT3 := same_upd (o := .tup [.int mj, .int mi]) nT3
            have eT3 : (upd H6 T3 (.tup [.int mj, .int mi])) T3 = some (.tup ((keyP [mj, mi]).map kV)) := upd_same
            refine ⟨d, _, rfl, DPut.t (sT3 _ _ ed6) eT3 (few1 (by omega)), ?_⟩
            have P7 := Part.add (x := (i : Int)) (y := (j : Int)) M P3 (by omega) (by omega) (by rw [Int.toNat_natCast]; exact gi) (by rw [Int.toNat_natCast]; exact gj)
            refine ⟨_, addP (addP ps [0 + ((i : Nat) : Int), 0 + ((j : Nat) : Int)]) [mj, mi], t5, _, rfl, fun k o e z => ?_, pail_set (pail_same hp6 sT3) hdp, by omega, upd_same, put_keys ek6, by rw [ei, ej]; exact P7⟩
            rw [upd_ne (ne_of_none e nd)]; exact sT3 _ _ (b6 k o e z)
          · exact ⟨kvs, ps, t5, _, rfl, b4.trans b5, hp5, by omega, b5 _ _ ed4 hdp, ek3, P3⟩
      · rintro σ H3 ⟨kvs, ps, t3, y5, rfl, b3, hp3, ht3, ed3, ek3, P3⟩
        rw [List.length_map, Int.toNat_natCast] at ht3
        exact ⟨kvs, ps, t3, _, _, rfl, b3, hp3, by omega, ed3, ek3, P3⟩
    · rintro σ H2 ⟨kvs, ps, t2, y4, y5, rfl, b2, hp2, ht2, ed2, ek2, P2⟩
      rw [List.length_map, Int.toNat_natCast] at ht2
      have hl2 := P2.len M
      have hkl : kvs.length ≤ 64 := by
        have z := congrArg List.length ek2
        rw [List.length_map, List.length_map] at z; omega
      refine ⟨.ref d, rfl, d, kvs, ps, rfl, .inl ed2, ek2, fun z hz => ?_, by omega, fun L c nc pm pw tu => .inl ⟨c, _, rfl, lstNew upd_same, fun e ne => ?_⟩⟩
      · obtain ⟨x, y, e, _⟩ := P2.pr z hz
        exact ⟨x, y, e⟩
      · have s3 := (same_upd (o := .lst (L.map fun a => V.ref a.1)) nc).trans (same_upd (o := .tup (L.map fun a => V.ref a.1)) ne)
        exact q _ e t2 (L.map (·.2)) (pail_same hp2 s3) (by omega) (b2.trans (But.of s3)) ⟨L, rfl, upd_same, fun k hk => s3 _ _ (tu k hk)⟩ (P2.stp M pm pw)
end
end K9
set_option maxHeartbeats 4000000
namespace K9
open PySem PySem.Spec PyProof.Rows L2 RV
theorem mro_tuple : PySem.fastBuiltinMro "tuple" = some [.type "tuple", .type "object"] := by decide +kernel
theorem mro_none : PySem.fastBuiltinMro "NoneType" = some [.type "NoneType", .type "object"] := by decide +kernel
theorem mro_str : PySem.fastBuiltinMro "str" = some [.type "str", .type "object"] := by decide +kernel
theorem mro_int : PySem.fastBuiltinMro "int" = some [.type "int", .type "object"] := by decide +kernel
theorem kit_other {K : PySem.W.Frag} {C : Addr} {T : String} (h1 : (PySem.W.clsIn K C).isSome = true) (h2 : PySem.W.typeIn K (.ref C) = some (.type "type")) (h3 : PySem.fastBuiltinMro T = some [.type T, .type "object"]) : PySem.W.kitOne K (.type T) (.ref C) = some false := by
  unfold PySem.W.kitOne PySem.W.kitCls
  rw [if_neg (by simp)]
  show (if ((PySem.W.clsIn K C).isSome && PySem.W.typeIn K (.ref C) == some (.type "type")) = true then PySem.W.subIn K (.type T) (.ref C) else none) = some false
  rw [h1, h2, if_pos (by simp)]
  show (PySem.fastBuiltinMro T).map (·.contains (.ref C)) = some false
  rw [h3]
  simp
theorem kit_self {K : PySem.W.Frag} {C : Addr} : PySem.W.kitOne K (.ref C) (.ref C) = some true := by
  unfold PySem.W.kitOne
  simp
section
variable {P : Program} {w : World} {K : PySem.W.Frag} {mg : Str → Option Value} {base : Heap}
/-! ### __eq__ -/
theorem scEq : FnScope ["self", "other"] ["self", "other"] (defScope sEq) := ⟨rfl, rfl, rfl, by decide +kernel, rfl, by decide +kernel, by decide +kernel⟩
def spEq (K : PySem.W.Frag) (C : Addr) : Sp := fun vs H Q _ => ∃ (p : Addr) (v : V) (ns : List Int) (ps : List (List Int)), vs = [.ref p, v] ∧ RuleAt K C H p ns ps ∧
  ((∃ (q : Addr) (ns' : List Int) (ps' : List (List Int)), v = .ref q ∧ RuleAt K C H q ns' ps' ∧ Q (.bl (decide (ns = ns') && decide (ps = ps'))) H) ∨ (∃ t, TyX K H v t ∧ PySem.W.kitOne K t (.ref C) = some false ∧ Q (.bl false) H))
theorem ok_eq {f C : Addr} {fd : FuncData} (F : Fun K "__eq__" "Rule.__eq__" sEq f fd) (T : Txt K mg C) (B : Bare mg) : FnOk P w K mg base CX0 1 f fd ["self", "other"] (spEq K C) := by
  refine F.ok scEq (fun vs H Q E h => ?_) (fun cdv A outer s H vs Q E hr h => ?_)
  · obtain ⟨p, v, ns, ps, rfl, _⟩ := h
    rfl
  · obtain ⟨p, v, ns, ps, rfl, R1, h⟩ := h
    obtain ⟨dx, a, b, t, h1, h2, h3, h4⟩ := R1.ex
    refine ⟨_, pss_one (ps_ret (pe_and (pe_callB call_isi (by rfl) B.isinstance (by decide +kernel) (pa_cons (pv 1) (pa_cons (pe_glob (v := .ref C) rfl T.mgC rfl) pa_nil)))
      (pe_and (pe_cmpR (op_eqI1 hr.units) (pe_fld (pv 0) rfl) (pe_fld (pv 1) rfl) (nomark _)) (pe_one (pe_cmpR (op_eqTs hr.units) (pe_fld (pv 0) rfl) (pe_fld (pv 1) rfl) (nomark _)))))), ?_⟩
    rcases h with ⟨q, ns', ps', rfl, R2, k⟩ | ⟨ty, hty, hk, k⟩
    · obtain ⟨dx', a', b', t', g1, g2, g3, g4⟩ := R2.ex
      refine ⟨.ref q, rfl, .ref q, .ref C, _, _, true, rfl, .own C, .base (.ins g1 T.cl T.c1 T.c2 T.c3 T.c4), T.c5, true, rfl, iteT ?_⟩
      refine ⟨.ref p, rfl, p, C, dx, _, _, rfl, h1, T.cl, T.nM, flds_m _ _ _, .ref q, rfl, q, C, dx', _, _, rfl, g1, T.cl, T.nM, flds_m _ _ _, a, a', ns, ns', rfl, rfl, h2, g2, _, rfl, ?_⟩
      by_cases e : ns = ns'
      · rw [decide_eq_true e] at k ⊢
        refine iteT ⟨.ref p, rfl, p, C, dx, _, _, rfl, h1, T.cl, T.nS, flds_s _ _ _, .ref q, rfl, q, C, dx', _, _, rfl, g1, T.cl, T.nS, flds_s _ _ _, b, b', ps, ps', rfl, rfl, h3, g3, ?_⟩
        rw [Bool.true_and] at k
        exact k
      · rw [decide_eq_false e] at k ⊢
        rw [Bool.false_and] at k
        exact iteF k
    · exact ⟨v, rfl, v, .ref C, _, _, false, rfl, .own C, hty, hk, false, rfl, iteF k⟩
/-! ### marks, mirror, behind -/
theorem scMarksM : FnScope ["self"] ["self"] (defScope sMarksM) := ⟨rfl, rfl, rfl, by decide +kernel, rfl, by decide +kernel, by decide +kernel⟩
def spMarksM (K : PySem.W.Frag) (C : Addr) : Sp := fun vs H Q _ => ∃ (p : Addr) (ns : List Int) (ps : List (List Int)), vs = [.ref p] ∧ RuleAt K C H p ns ps ∧ Q (.int (ns.length : Int)) H
theorem ok_marksM {f C : Addr} {fd : FuncData} (F : Fun K "marks" "Rule.marks" sMarksM f fd) (T : Txt K mg C) (B : Bare mg) : FnOk P w K mg base CX0 1 f fd ["self"] (spMarksM K C) := by
  refine F.ok scMarksM (fun vs H Q E h => ?_) (fun cdv A outer s H vs Q E hr h => ?_)
  · obtain ⟨p, ns, ps, rfl, _⟩ := h
    rfl
  · obtain ⟨p, ns, ps, rfl, R1, k⟩ := h
    obtain ⟨dx, a, b, t, h1, h2, h3, h4⟩ := R1.ex
    refine ⟨_, pss_one (ps_ret (pe_callB call_len_seq (by rfl) B.len PySem.boot_len (pa_cons (pe_fld (pv 0) rfl) pa_nil))), ?_⟩
    refine ⟨.ref p, rfl, p, C, dx, _, _, rfl, h1, T.cl, T.nM, flds_m _ _ _, a, _, rfl, .inr h2, ?_⟩
    rw [List.length_map]; exact k
theorem scMirrorM : FnScope ["self", "mark"] ["self", "mark"] (defScope sMirrorM) := ⟨rfl, rfl, rfl, by decide +kernel, rfl, by decide +kernel, by decide +kernel⟩
def spMirrorM (K : PySem.W.Frag) (C : Addr) : Sp := fun vs H Q _ => ∃ (p : Addr) (ns : List Int) (ps : List (List Int)) (i : Nat) (x : Int), vs = [.ref p, .int (i : Int)] ∧ RuleAt K C H p ns ps ∧ ns[i]? = some x ∧ Q (.int x) H
theorem ok_mirrorM {f C : Addr} {fd : FuncData} (F : Fun K "mirror" "Rule.mirror" sMirrorM f fd) (T : Txt K mg C) : FnOk P w K mg base CX0 1 f fd ["self", "mark"] (spMirrorM K C) := by
  refine F.ok scMirrorM (fun vs H Q E h => ?_) (fun cdv A outer s H vs Q E hr h => ?_)
  · obtain ⟨p, ns, ps, i, x, rfl, _⟩ := h
    rfl
  · obtain ⟨p, ns, ps, i, x, rfl, R1, e, k⟩ := h
    obtain ⟨dx, a, b, t, h1, h2, h3, h4⟩ := R1.ex
    refine ⟨_, pss_one (ps_ret (pe_ix ix_tup (pe_fld (pv 0) rfl) (pv 1) (fun _ _ => rfl))), ?_⟩
    exact ⟨.ref p, rfl, p, C, dx, _, _, rfl, h1, T.cl, T.nM, flds_m _ _ _, .int (i : Int), rfl, a, _, _, _, rfl, rfl, h2, atI_nat (by rw [List.getElem?_map, e]; rfl), k⟩
theorem n4 : ¬ (("followers" : Str) = "steps") := by decide +kernel
theorem flds_f (a b t : Addr) : (flds a b t).lookup ("followers" : Str) = some (.ref t) := by
  unfold flds
  rw [lookup_putF, if_pos rfl]
theorem scBehindM : FnScope ["self", "mark"] ["self", "mark"] (defScope sBehindM) := ⟨rfl, rfl, rfl, by decide +kernel, rfl, by decide +kernel, by decide +kernel⟩
def spBehindM (K : PySem.W.Frag) (C : Addr) : Sp := fun vs H Q _ => ∃ (p : Addr) (ns : List Int) (ps : List (List Int)) (i : Nat), vs = [.ref p, .int (i : Int)] ∧ RuleAt K C H p ns ps ∧ i < ns.length ∧ ∀ c, SqT K H c ((behindOf ps (i : Int)).map V.int) → Q (.ref c) H
theorem ok_behindM {f C : Addr} {fd : FuncData} (F : Fun K "behind" "Rule.behind" sBehindM f fd) (T : Txt K mg C) : FnOk P w K mg base CX0 1 f fd ["self", "mark"] (spBehindM K C) := by
  refine F.ok scBehindM (fun vs H Q E h => ?_) (fun cdv A outer s H vs Q E hr h => ?_)
  · obtain ⟨p, ns, ps, i, rfl, _⟩ := h
    rfl
  · obtain ⟨p, ns, ps, i, rfl, R1, hi, k⟩ := h
    obtain ⟨dx, a, b, t, h1, h2, h3, h4⟩ := R1.ex
    obtain ⟨ks, e1, e2, e3⟩ := h4
    refine ⟨_, pss_one (ps_ret (pe_ix ix_tup (pe_fld (pv 0) rfl) (pv 1) (fun _ _ => rfl))), ?_⟩
    have hkl : ks.length = ns.length := by
      have z := congrArg List.length e1
      rw [List.length_map] at z
      rw [z]; unfold follow; rw [List.length_map, List.length_range]
    have hk : i < ks.length := by omega
    have e4 : (ks.map (·.2))[i]? = some ks[i].2 := by rw [List.getElem?_map, List.getElem?_eq_getElem hk]; rfl
    have e5 : ks[i].2 = behindOf ps (i : Int) := by
      rw [e1] at e4
      unfold follow at e4
      rw [List.getElem?_map, List.getElem?_range hi] at e4
      exact (Option.some.inj e4).symm
    refine ⟨.ref p, rfl, p, C, dx, _, _, rfl, h1, T.cl, T.nF, flds_f _ _ _, .int (i : Int), rfl, t, _, _, .ref ks[i].1, rfl, rfl, e2, atI_nat (by rw [List.getElem?_map, List.getElem?_eq_getElem hk]; rfl), k _ ?_⟩
    rw [← e5]; exact e3 _ (List.getElem_mem hk)
/-- what a call Rule(a, b) comes to -/
theorem make_rule {C a b x dx : Addr} {H : Hp} {Qh : Hp → Prop} {E : XK} {ns : List Int} {ps : List (List Int)} (hA : SqT K H a (ns.map V.int)) (hB : Tups K H b ps) (hM : Mir ns) (hS : Stp ns ps) (nx : H x = none) (nd : H dx = none) (ne : dx ≠ x)
    (k : ∀ H', Same H H' → RuleAt K C H' x ns ps → Qh H') :
    spInit K C (.ref x :: ([.ref a, .ref b] ++ [])) (upd (upd H dx (.own x)) x (.ins C dx [])) (fun v H2 => v = .non ∧ Qh H2) E := by
  have s0 : Same H (upd (upd H dx (.own x)) x (.ins C dx [])) := fun c o e => by
    rw [upd_ne (ne_of_none e nx), upd_ne (ne_of_none e nd)]; exact e
  refine ⟨x, dx, a, b, ns, ps, rfl, upd_same, sqT_same s0 hA, hB.same s0, hM, hS, fun H' t k1 k2 k3 => ⟨rfl, ?_⟩⟩
  have s1 : Same H H' := fun c o e => k1 c o (s0 c o e) (ne_of_none e nx)
  exact k H' s1 ⟨dx, a, b, t, k2, sqT_same s1 hA, hB.same s1, k3⟩
end
end K9
set_option maxHeartbeats 4000000
/-! dict(xs), xs a list of pairs (pair of ints, True) -/
namespace RV
open PySem PySem.Spec PyProof.Rows L2
/-- the dict that comes of these keys, one behind the other -/
def dictOfP (acc : List (List L2.Key × V)) (ps : List (List Int)) : List (List L2.Key × V) := ps.foldl (fun a p => putK a (keyP p) (.bl true)) acc
def addK (ps : List (List Int)) (p : List Int) : List (List Int) := if p ∈ ps then ps else ps ++ [p]
section
variable {X : Cx}
def rDictPT : List V → Hp → VK → Prop := fun xs H Q => ∃ (l : Addr) (qs : List (Addr × Addr × List Int)), xs = [.ref l] ∧ H l = some (.lst ((qs.map (·.1)).map V.ref)) ∧ (∀ q ∈ qs, H q.1 = some (.tup [.ref q.2.1, .bl true]) ∧ H q.2.1 = some (.tup (q.2.2.map V.int))) ∧ qs.length ≤ 1000 ∧
  ∀ d, H d = none → Q (.ref d) (upd H d (.dT (dictOfP [] (qs.map (·.2.2)))))
theorem kt_all {H : Hp} : ∀ (qs : List (Addr × Addr × List Int)) {kvs : List (List L2.Key × V)} {xs : List (List L2.Key × Addr × Value)}, KT H kvs xs → (∀ q ∈ qs, H q.2.1 = some (.tup (q.2.2.map V.int))) →
    KT H (dictOfP kvs (qs.map (·.2.2))) (storedAllH xs (qs.map fun q => (keyP q.2.2, q.2.1, Value.bool true)))
  | [], _, _, r, _ => r
  | q :: qs, kvs, xs, r, h => by
    have h1 : H q.2.1 = some (.tup ((keyP q.2.2).map kV)) := by rw [kV_keyP]; exact h q (List.mem_cons_self ..)
    exact kt_all qs (r.put (keyP q.2.2) (y := .bl true) h1 rfl) fun z hz => h z (List.mem_cons_of_mem _ hz)
theorem len_dictOfP : ∀ (ps : List (List Int)) (acc : List (List L2.Key × V)), (dictOfP acc ps).length ≤ acc.length + ps.length
  | [], acc => Nat.le_refl _
  | p :: ps, acc => by
    have h := len_dictOfP ps (putK acc (keyP p) (.bl true))
    have h2 := length_putK acc (keyP p) (.bl true)
    show (dictOfP (putK acc (keyP p) (.bl true)) ps).length ≤ _
    rw [List.length_cons]; omega
theorem cr_dictPT (hc : X.calm = true) (hu : X.A.units + 65 < cLine) : CallR X (.type "dict") rDictPT := by
  intro pins s σ H xs us Q I r h
  obtain ⟨l, qs, rfl, hl, hq, hlen, q⟩ := h
  obtain ⟨u, rfl, rx⟩ := vals1 r
  cases rx
  obtain ⟨its, rv, pl, hz⟩ := I.list (show SqL X.K H l _ from .inl (.inl hl))
  have ei := refs_at rv
  subst ei
  obtain ⟨o, n, ho, hco, hdo, hdat⟩ := pl
  have at_ : ∀ (j : Nat) (z : Addr × Addr × List Int), qs[j]? = some z → ((qs.map (·.1)).map Value.ref).toArray[j]? = some (.ref z.1) := fun j z e => by
    simp [e]
  let Ts : Nat → Addr := fun j => (qs.map (·.1)).getD j 0
  have hTs : ∀ (j : Nat) (z : Addr × Addr × List Int), qs[j]? = some z → Ts j = z.1 := fun j z e => by
    show (qs.map (·.1)).getD j 0 = z.1
    rw [List.getD_eq_getElem?_getD, List.getElem?_map, e]; rfl
  let prs : List (Value × Value) := qs.map fun z => (Value.ref z.2.1, Value.bool true)
  have hprs : ∀ (j : Nat) (k v : Value), prs[j]? = some (k, v) → ∃ z, qs[j]? = some z ∧ k = .ref z.2.1 ∧ v = .bool true := fun j k v e => by
    have e' : (qs.map fun z => (Value.ref z.2.1, Value.bool true))[j]? = some (k, v) := e
    rw [List.getElem?_map] at e'
    cases ez : qs[j]? with
    | none => rw [ez] at e'; cases e'
    | some z =>
      rw [ez] at e'
      have e2 : (Value.ref z.2.1, Value.bool true) = (k, v) := Option.some.inj e'
      injection e2 with e3 e4
      exact ⟨z, rfl, e3.symm, e4.symm⟩
  have items : PairItems s.heap ((qs.map (·.1)).map Value.ref).toArray Ts prs := by
    refine ⟨by show _ = (qs.map _).length; simp, fun j k v e => ?_⟩
    obtain ⟨z, ez, rfl, rfl⟩ := hprs j k v e
    rw [hTs j z ez]
    refine ⟨at_ j z ez, .inl ?_⟩
    obtain ⟨its2, r2, p2, _⟩ := I.tuple (show SqT X.K H z.1 _ from .inl (.inl (hq z (List.mem_of_getElem? ez)).1))
    obtain ⟨u1, u2, rfl, ra, rb⟩ := vals2 r2
    cases ra
    cases rb
    exact p2
  have room : (tupleKind (mixKind X.prog X.w)).room X.A.in1.in1 := tupleKind_room_in1 (A := X.A.in1) (by show X.A.units + 1 + 1 < cLine; omega)
  have keys : ∀ z ∈ qs, (tupleKind (mixKind X.prog X.w)).is s.heap (keyP z.2.2) z.2.1 := fun z hz => key_of I.hok (by rw [kV_keyP]; exact (hq z hz).2)
  refine call_dict_pairsH (knd := tupleKind (mixKind X.prog X.w)) (ps := qs.map fun z => (keyP z.2.2, z.2.1, Value.bool true)) (PairArg.list l _ Ts prs) (I.ok.hd hc) room ⟨⟨o, n, ho, hco, hdo, hdat⟩, items⟩ ⟨?_, fun j k v e => ?_⟩ (fun h' hk x hx => ?_) ?_ fun h' tk hd' kp => ?_
  · show (qs.map _).length = (qs.map _).length
    rw [List.length_map, List.length_map]
  · obtain ⟨z, ez, rfl, rfl⟩ := hprs j k v e
    exact ⟨keyP z.2.2, z.2.1, by rw [List.getElem?_map, ez]; rfl, rfl⟩
  · obtain ⟨z, hz1, rfl⟩ := List.mem_map.mp hx
    obtain ⟨o1, i1, n1, g1, g2, g3, g4⟩ := keys z hz1
    exact ⟨o1, i1, n1, hk _ _ (Nat.ne_of_lt (Heap.lt_size g1)) (by simp) g1, g2, g3, g4⟩
  · show (qs.map _).length ≤ sizeLine
    rw [List.length_map]; exact Nat.le_of_lt (small1000 hlen)
  · have hm : (s.heap.objs.size == sysModules) = false := beq_eq_false_iff_ne.mpr (Nat.ne_of_gt I.big)
    have nf : H s.heap.objs.size = none := I.hok.fresh (Nat.le_refl _)
    have rel := kt_all (H := H) qs (kvs := []) (xs := []) .nil fun z hz => (hq z hz).2
    have hl2 : (dictOfP [] (qs.map (·.2.2))).length ≤ sizeLine := by
      have := len_dictOfP (qs.map (·.2.2)) []
      rw [List.length_map, List.length_nil] at this
      exact Nat.le_trans this (by rw [Nat.zero_add]; exact Nat.le_of_lt (small1000 hlen))
    obtain ⟨q1, es, ep, w1, w2, w3, w4, _, w5⟩ := hd'
    refine ⟨.ref s.heap.objs.size, upd H s.heap.objs.size (.dT (dictOfP [] (qs.map (·.2.2)))), I.laid (t' := tk) (fun b u e => kp b u (by simp) e) (Nat.le_refl _) ⟨hl2, hm, _, rel.keeps fun c ys ec => ?_, q1, es, ep, w1, w2, w3, w4, w5⟩, rfl, q _ nf⟩
    rw [upd_ne (ne_of_none ec nf)]; exact ec
end
end RV
namespace K9
open PySem PySem.Spec PyProof.Rows L2 RV
/-! ### a dict of a list of pairs, by its keys -/
def addAll (ps : List (List Int)) : List (List Int) := ps.foldl addP []
theorem dict_keys : ∀ (ps : List (List Int)) {kvs : List (List L2.Key × V)} {qs : List (List Int)}, kvs.map (·.1) = qs.map keyP → (dictOfP kvs ps).map (·.1) = (ps.foldl addP qs).map keyP
  | [], _, _, h => h
  | p :: ps, kvs, qs, h => dict_keys ps (kvs := putK kvs (keyP p) (.bl true)) (qs := addP qs p) (put_keys h)
theorem mem_fold {q : List Int} : ∀ (ps qs : List (List Int)), q ∈ ps.foldl addP qs ↔ q ∈ qs ∨ q ∈ ps
  | [], qs => by simp
  | p :: ps, qs => by
    show q ∈ ps.foldl addP (addP qs p) ↔ _
    rw [mem_fold ps, mem_addP, List.mem_cons]
    constructor
    · rintro ((h | h) | h)
      · exact .inl h
      · exact .inr (.inl h)
      · exact .inr (.inr h)
    · rintro (h | h | h)
      · exact .inl (.inl h)
      · exact .inl (.inr h)
      · exact .inr h
theorem nd_fold : ∀ (ps qs : List (List Int)), qs.Nodup → (ps.foldl addP qs).Nodup
  | [], _, h => h
  | _ :: ps, _, h => nd_fold ps _ (nd_addP h)
theorem mem_all {q : List Int} {ps : List (List Int)} : q ∈ addAll ps ↔ q ∈ ps := by
  unfold addAll
  rw [mem_fold]; simp
/-- steps of which some are left -/
theorem part_of {ns : List Int} {ps : List (List Int)} (pr : ∀ p ∈ ps, Pr (ns.length : Int) p) (mi : ∀ x y mx my : Int, [x, y] ∈ ps → ns[x.toNat]? = some mx → ns[y.toNat]? = some my → [my, mx] ∈ ps) : Part ns (addAll ps) :=
  ⟨nd_fold ps [] List.nodup_nil, fun p hp => pr p (mem_all.mp hp), fun x y mx my h e1 e2 => mem_all.mpr (mi x y mx my (mem_all.mp h) e1 e2)⟩
theorem part_all {ns : List Int} {ps : List (List Int)} (S : Stp ns ps) : Part ns (addAll ps) := part_of S.pair S.mirr
theorem part_without {ns : List Int} {ps : List (List Int)} {g1 g2 m1 m2 : Int} (M : Mir ns) (S : Stp ns ps) (hg : [g1, g2] ∈ ps) (e1 : ns[g1.toNat]? = some m1) (e2 : ns[g2.toNat]? = some m2) : Part ns (addAll (ps.filter fun p => decide (p ∉ [[g1, g2], [m2, m1]]))) := by
  refine part_of (fun p hp => S.pair p (List.mem_filter.mp hp).1) fun x y mx my h ex ey => ?_
  obtain ⟨h1, h2⟩ := List.mem_filter.mp h
  have h2 := of_decide_eq_true h2
  refine List.mem_filter.mpr ⟨S.mirr x y mx my h1 ex ey, decide_eq_true fun z => h2 ?_⟩
  obtain ⟨x', y', exy, hx, hy⟩ := S.pair _ h1
  injection exy with exx exy
  injection exy with exy _
  subst exx exy
  obtain ⟨a', b', eab, ha, hb⟩ := S.pair _ hg
  injection eab with eaa eab
  injection eab with eab _
  subst eaa eab
  have bx := M.back _ _ ex
  have bY := M.back _ _ ey
  have b1 := M.back _ _ e1
  have b2 := M.back _ _ e2
  rcases List.mem_cons.mp z with z | z
  · injection z with z1 z2
    injection z2 with z2 _
    subst z1 z2
    rw [e1] at bY
    rw [e2] at bx
    have y1 := Option.some.inj bY
    have x1 := Option.some.inj bx
    refine List.mem_cons_of_mem _ (List.mem_cons.mpr (.inl ?_))
    rw [y1, x1, Int.toNat_of_nonneg hx.1, Int.toNat_of_nonneg hy.1]
  · have z := List.mem_singleton.mp z
    injection z with z1 z2
    injection z2 with z2 _
    subst z1 z2
    rw [b2] at bY
    rw [b1] at bx
    have y1 := Option.some.inj bY
    have x1 := Option.some.inj bx
    refine List.mem_cons.mpr (.inl ?_)
    rw [show x = g1 by omega, show y = g2 by omega]
theorem mir_more {ns : List Int} (M : Mir ns) (h : ns.length < 8) : Mir (ns ++ [(ns.length : Int)]) := by
  have hl : (ns ++ [(ns.length : Int)]).length = ns.length + 1 := by rw [List.length_append]; rfl
  refine ⟨by omega, by omega, fun i hi => ?_, fun k m hk => ?_⟩
  · rw [hl]
    rcases List.mem_append.mp hi with z | z
    · have := M.inn i z; omega
    · have := List.mem_singleton.mp z; omega
  · by_cases e : k < ns.length
    · rw [List.getElem?_append_left e] at hk
      have b := M.back k m hk
      have i := M.inn m (List.mem_of_getElem? hk)
      rw [List.getElem?_append_left (by omega)]; exact b
    · have hk2 := (List.getElem?_eq_some_iff.mp hk).1
      have ek : k = ns.length := by omega
      subst ek
      rw [List.getElem?_append_right (Nat.le_refl _), Nat.sub_self] at hk
      have em : (ns.length : Int) = m := Option.some.inj hk
      subst em
      rw [Int.toNat_natCast, List.getElem?_append_right (Nat.le_refl _), Nat.sub_self]; rfl
theorem part_more {ns : List Int} {ps : List (List Int)} (h : Part ns ps) : Part (ns ++ [(ns.length : Int)]) ps := by
  have hl : (ns ++ [(ns.length : Int)]).length = ns.length + 1 := by rw [List.length_append]; rfl
  refine ⟨h.nd, fun p hp => (h.pr p hp).mono (by omega), fun x y mx my hxy ex ey => ?_⟩
  obtain ⟨a, b, e, ha, hb⟩ := h.pr _ hxy
  injection e with e1 e2
  injection e2 with e2 _
  subst e1 e2
  rw [List.getElem?_append_left (by omega)] at ex ey
  exact h.mi x y mx my hxy ex ey
theorem mir_range {n : Nat} (h1 : 0 < n) (h8 : n ≤ 8) : Mir (rgI 0 (n : Int)) := by
  have h := half_start n
  refine ⟨by rw [h.len]; exact h1, by rw [h.len]; exact h8, fun i hi => ?_, h.back⟩
  rw [h.len]; exact h.lin i hi
theorem part_both {n : Nat} {ns : List Int} {ps : List (List Int)} (S : Stp ns ps) (hn : ns.length ≤ n) : Part (rgI 0 (n : Int)) (addAll (ps.filter fun p => decide (p.reverse ∈ ps))) := by
  have hl : (rgI 0 (n : Int)).length = n := (half_start n).len
  refine part_of (fun p hp => ?_) fun x y mx my h ex ey => ?_
  · obtain ⟨x, y, e, hx, hy⟩ := S.pair p (List.mem_filter.mp hp).1
    exact ⟨x, y, e, by omega, by omega⟩
  · obtain ⟨h1, h2⟩ := List.mem_filter.mp h
    have h2 : [y, x] ∈ ps := of_decide_eq_true h2
    obtain ⟨a, b, e, ha, hb⟩ := S.pair _ h1
    injection e with e1 e2
    injection e2 with e2 _
    subst e1 e2
    rw [rgI_get] at ex ey
    have e1 : mx = x := by omega
    have e2 : my = y := by omega
    subst e1 e2
    exact List.mem_filter.mpr ⟨h2, decide_eq_true h1⟩
/-! ### the list of pairs (step, True) -/
def Bagged (H : Hp) (D : Addr) (ks : List (Addr × List Int)) : Prop := ∃ qs : List (Addr × Addr × List Int), qs.map (·.2) = ks ∧ H D = some (.lst ((qs.map (·.1)).map V.ref)) ∧ ∀ q ∈ qs, H q.1 = some (.tup [.ref q.2.1, .bl true])
theorem Bagged.nil {H : Hp} {D : Addr} : Bagged (upd H D (.lst [])) D [] := ⟨[], rfl, upd_same, fun _ h => nomatch h⟩
theorem Bagged.add {H : Hp} {D T : Addr} {ks : List (Addr × List Int)} {k : Addr × List Int} {acc : List V} (h : Bagged H D ks) (nT : H T = none) (ha : H D = some (.lst acc)) :
    Bagged (upd (upd H T (.tup [.ref k.1, .bl true])) D (.lst (acc ++ [.ref T]))) D (ks ++ [k]) := by
  obtain ⟨qs, h1, h2, h3⟩ := h
  rw [h2] at ha
  have ea : (qs.map (·.1)).map V.ref = acc := by
    have z := Option.some.inj ha
    injection z
  have hDT : T ≠ D := (ne_of_none h2 nT).symm
  refine ⟨qs ++ [(T, k)], by rw [List.map_append, h1]; rfl, by rw [upd_same, ← ea, List.map_append, List.map_append]; rfl, fun q hq => ?_⟩
  rcases List.mem_append.mp hq with z | z
  · have z1 := h3 q z
    rw [upd_ne (fun e => by rw [e, h2] at z1; cases z1), upd_ne (ne_of_none z1 nT)]; exact z1
  · have z := List.mem_singleton.mp z
    subst z
    rw [upd_ne hDT, upd_same]
theorem Bagged.len {H : Hp} {D : Addr} {ks : List (Addr × List Int)} {acc : List V} (h : Bagged H D ks) (ha : H D = some (.lst acc)) : acc.length = ks.length := by
  obtain ⟨qs, h1, h2, h3⟩ := h
  rw [h2] at ha
  have ea : (qs.map (·.1)).map V.ref = acc := by
    have z := Option.some.inj ha
    injection z
  rw [← ea, ← h1]; simp
theorem Bagged.list {H : Hp} {D : Addr} {ks : List (Addr × List Int)} (h : Bagged H D ks) : ∃ acc, H D = some (.lst acc) := by
  obtain ⟨qs, h1, h2, h3⟩ := h
  exact ⟨_, h2⟩
theorem take_filter_next {α : Type} {c : α → Bool} {ks : List α} {k : α} {i : Nat} (g : ks[i]? = some k) : (ks.take (i + 1)).filter c = (ks.take i).filter c ++ (if c k = true then [k] else []) := by
  rw [List.take_add_one, g]
  show (ks.take i ++ [k]).filter c = _
  rw [List.filter_append]
  by_cases e : c k = true
  · rw [if_pos e]; simp [e]
  · rw [if_neg e]; simp [e]
theorem bag_dict {H : Hp} {D : Addr} {ks : List (Addr × List Int)} {R : List (Addr × Addr × List Int) → Addr → Prop} (h : Bagged H D ks) (hk : ∀ k ∈ ks, H k.1 = some (.tup (k.2.map V.int))) (hl : ks.length ≤ 1000)
    (q : ∀ qs d, qs.map (·.2.2) = ks.map (·.2) → H d = none → R qs d) : ∃ (l : Addr) (qs : List (Addr × Addr × List Int)), [V.ref D] = [V.ref l] ∧ H l = some (.lst ((qs.map (·.1)).map V.ref)) ∧ (∀ q ∈ qs, H q.1 = some (.tup [.ref q.2.1, .bl true]) ∧ H q.2.1 = some (.tup (q.2.2.map V.int))) ∧ qs.length ≤ 1000 ∧
      ∀ d, H d = none → R qs d := by
  obtain ⟨qs, h1, h2, h3⟩ := h
  refine ⟨D, qs, rfl, h2, fun z hz => ⟨h3 z hz, hk z.2 (by rw [← h1]; exact List.mem_map_of_mem hz)⟩, by rw [← h1, List.length_map] at hl; exact hl, fun d nd => q qs d ?_ nd⟩
  rw [← h1, List.map_map]; rfl
theorem filt_map {f : List Int → Bool} (ks : List (Addr × List Int)) : (ks.filter fun k => f k.2).map (·.2) = (ks.map (·.2)).filter f := by
  rw [List.filter_map]; rfl
end K9
set_option maxHeartbeats 4000000
namespace RV
open PySem PySem.Spec PyProof.Rows L2
theorem nx_step {i : Nat} {v : V} {σ : L2.St} {H : Hp} {G : L2.St → Hp → Prop} (h : G (σ.set i (some v)) H) : gName i v σ H G := h
theorem seq_mid {t1 t2 : TS} {D : Ends} {σ : L2.St} {H : Hp} (J : L2.St → Hp → Prop) (h2 : ∀ σ H, J σ H → t2 D σ H) (h1 : (∀ σ H, J σ H → t2 D σ H) → tSeq t1 t2 D σ H) : tSeq t1 t2 D σ H := h1 h2
section
variable {X : Cx} {K : PySem.W.Frag}
theorem op_notInDK (h : X.K = K) (hu : X.A.units + 65 < cLine) : OpR X (compareOp .NotIn) (rNotInD K) := h ▸ op_notInD hu
theorem pe_backTK {e : Expr} {te : TE} {k : Nat} {p1 p2 p3 pos : Pos} (h : X.K = K) (he : PE X e te) : PE X (.Subscript e (.Slice none none (some (.UnaryOp .USub (.Constant (.int 1) k p1) p2)) p3) pos) (tBackT K te) := h ▸ pe_backT he
end
section
variable {X : Cx} {K : PySem.W.Frag}
theorem op_inDK (h : X.K = K) (hu : X.A.units + 65 < cLine) : OpR X (compareOp .In) (rInD K) := h ▸ op_inD hu
theorem ix_listK (h : X.K = K) : IxR X (rIxL K) := h ▸ ix_list
end
theorem take_filt {α : Type} {c : α → Bool} {ks : List α} {k : α} {i : Nat} (g : ks[i]? = some k) : (ks.take (i + 1)).filter c = (ks.take i).filter c ++ (if c k = true then [k] else []) := by
  rw [List.take_add_one, g]
  show (ks.take i ++ [k]).filter c = _
  rw [List.filter_append]
  by_cases e : c k = true
  · rw [if_pos e]; simp [e]
  · rw [if_neg e]; simp [e]
section
variable {K : PySem.W.Frag} {tt : TT} {te : TE} {f : Int → Bool} {σ : L2.St} {H1 : Hp} {a D : Addr} {v : Nat} {ns : List Int} {Qd : Hp → Prop}
/-- [x for x in t if ..], t a tuple of ints -/
theorem lc_filtT (hT : SqT K H1 a (ns.map V.int)) (hl : ns.length ≤ 1000) (nD : H1 D = none)
    (htest : ∀ x ∈ ns, ∀ H', Same H1 H' → ∀ A B : Hp → Prop, (∀ H2, Same H' H2 → if f x = true then A H2 else B H2) → tt ((wipe σ [v]).set v (some (.int x))) H' (fun b H3 => if b = true then A H3 else B H3))
    (hte : ∀ (x : Int) (H' : Hp) (Q : VK), Q (.int x) H' → te ((wipe σ [v]).set v (some (.int x))) H' Q)
    (hd : ∀ H', Same H1 H' → H' D = some (.lst ((ns.filter f).map V.int)) → Qd H') :
    ∃ W : Nat → Nat → Hp → Prop, (∃ m, W 0 m (upd H1 D (.lst []))) ∧ ∀ i m H, W i m H →
      ((Itt K a).stop i H ∧ Qd H) ∨ ((Itt K a).go i H ∧ ∃ Nx : Hp → Prop, (∀ H', Nx H' → ∃ m', m' < m ∧ W (i + 1) m' H') ∧ ∀ x H', (Itt K a).yld i H x H' → gName v x (wipe σ [v]) H' fun σ2 H2 => wipe σ2 [v] = wipe σ [v] ∧ tt σ2 H2 fun b H3 =>
        if b = true then te σ2 H3 fun y H4 => ∃ acc, H4 D = some (.lst acc) ∧ acc.length < sizeLine ∧ Nx (upd H4 D (.lst (acc ++ [y]))) else Nx H3) := by
  refine lc_tup (K := K) (a := a) (xs := ns.map V.int) (fun i H' => Same H1 H' ∧ H' D = some (.lst (((ns.take i).filter f).map V.int))) ⟨same_upd nD, upd_same⟩ (fun i H' _ p => sqT_same p.1 hT) (fun i x H' hx p => ?_) fun H' p => ?_
  · obtain ⟨k, g, rfl⟩ := map_at hx
    refine ⟨by simp [wipe, List.set_set], htest k (List.mem_of_getElem? g) H' p.1 _ _ fun H2 s2 => ?_⟩
    have s12 := p.1.trans s2
    have e2 := s2 _ _ p.2
    by_cases e : f k = true
    · rw [if_pos e]
      refine hte k H2 _ ⟨_, e2, ?_, fun b o z => ?_, ?_⟩
      · rw [List.length_map]
        exact few1 (Nat.le_trans (List.length_filter_le _ _) (by rw [List.length_take]; omega))
      · rw [upd_ne (ne_of_none z nD)]; exact s12 b o z
      · rw [upd_same, take_filt g, if_pos e, List.map_append]; rfl
    · rw [if_neg e]
      exact ⟨s12, by rw [take_filt g, if_neg e, List.append_nil]; exact e2⟩
  · rw [List.length_map, List.take_of_length_le (Nat.le_refl _)] at p
    exact hd H' p.1 p.2
/-- [x for x in l if ..], l a list of ints -/
theorem lc_filtL (hT : SqL K H1 a (ns.map V.int)) (hl : ns.length ≤ 1000) (nD : H1 D = none)
    (htest : ∀ x ∈ ns, ∀ H', Same H1 H' → ∀ A B : Hp → Prop, (∀ H2, Same H' H2 → if f x = true then A H2 else B H2) → tt ((wipe σ [v]).set v (some (.int x))) H' (fun b H3 => if b = true then A H3 else B H3))
    (hte : ∀ (x : Int) (H' : Hp) (Q : VK), Q (.int x) H' → te ((wipe σ [v]).set v (some (.int x))) H' Q)
    (hd : ∀ H', Same H1 H' → H' D = some (.lst ((ns.filter f).map V.int)) → Qd H') :
    ∃ W : Nat → Nat → Hp → Prop, (∃ m, W 0 m (upd H1 D (.lst []))) ∧ ∀ i m H, W i m H →
      ((Itl K a).stop i H ∧ Qd H) ∨ ((Itl K a).go i H ∧ ∃ Nx : Hp → Prop, (∀ H', Nx H' → ∃ m', m' < m ∧ W (i + 1) m' H') ∧ ∀ x H', (Itl K a).yld i H x H' → gName v x (wipe σ [v]) H' fun σ2 H2 => wipe σ2 [v] = wipe σ [v] ∧ tt σ2 H2 fun b H3 =>
        if b = true then te σ2 H3 fun y H4 => ∃ acc, H4 D = some (.lst acc) ∧ acc.length < sizeLine ∧ Nx (upd H4 D (.lst (acc ++ [y]))) else Nx H3) := by
  refine lc_list (K := K) (a := a) (xs := ns.map V.int) (fun i H' => Same H1 H' ∧ H' D = some (.lst (((ns.take i).filter f).map V.int))) ⟨same_upd nD, upd_same⟩ (fun i H' _ p => sqL_same p.1 hT) (fun i x H' hx p => ?_) fun H' p => ?_
  · obtain ⟨k, g, rfl⟩ := map_at hx
    refine ⟨by simp [wipe, List.set_set], htest k (List.mem_of_getElem? g) H' p.1 _ _ fun H2 s2 => ?_⟩
    have s12 := p.1.trans s2
    have e2 := s2 _ _ p.2
    by_cases e : f k = true
    · rw [if_pos e]
      refine hte k H2 _ ⟨_, e2, ?_, fun b o z => ?_, ?_⟩
      · rw [List.length_map]
        exact few1 (Nat.le_trans (List.length_filter_le _ _) (by rw [List.length_take]; omega))
      · rw [upd_ne (ne_of_none z nD)]; exact s12 b o z
      · rw [upd_same, take_filt g, if_pos e, List.map_append]; rfl
    · rw [if_neg e]
      exact ⟨s12, by rw [take_filt g, if_neg e, List.append_nil]; exact e2⟩
  · rw [List.length_map, List.take_of_length_le (Nat.le_refl _)] at p
    exact hd H' p.1 p.2
end
/-! ### x in l, of ints -/
theorem dpL {K : PySem.W.Frag} {H : Hp} {a : Addr} {ns : List Int} (h : SqL K H a (ns.map V.int)) : Dp K H (.ref a) (.list (ns.map PyData.int)) := .lst h (dpInts ns)
theorem shapedLI (ns : List Int) : SeqAt.shaped (.list (ns.map PyData.int)) = true := by
  have h1 : (PyData.list (ns.map PyData.int)).canLay0 = true := by simp only [PyData.canLay0]; exact lay_ints ns
  have h2 : (PyData.list (ns.map PyData.int)).depth ≤ 64 := by simp only [PyData.depth, dep_ints]; omega
  show ((PyData.list (ns.map PyData.int)).canLay0 && decide ((PyData.list (ns.map PyData.int)).depth ≤ 64)) = true
  rw [h1, decide_eq_true h2]; rfl
theorem shapedN (n : Int) : SeqAt.shaped (.int n) = true := by
  show ((PyData.int n).canLay0 && decide ((PyData.int n).depth ≤ 64)) = true
  simp [PyData.canLay0, PyData.depth]
theorem any_int (x : Int) : ∀ ns : List Int, (ns.map PyData.int).any (fun y => PyData.eqv y (.int x)) = decide (x ∈ ns)
  | [] => rfl
  | n :: r => by
    rw [List.map_cons, List.any_cons, any_int x r]
    by_cases e : x = n
    · subst e; simp [PyData.eqv]
    · have e' : ¬ n = x := fun z => e z.symm
      by_cases e2 : x ∈ r <;> simp [PyData.eqv, e, e', e2]
section
variable {X : Cx}
/-- n in t, t a tuple of ints -/
def rInTI (K : PySem.W.Frag) : R2 := fun x y H Q => ∃ (b : Addr) (n : Int) (ns : List Int), x = .int n ∧ y = .ref b ∧ SqT K H b (ns.map V.int) ∧ Q (.bl (decide (n ∈ ns))) H
theorem op_inTI (hu : X.A.units + 65 < cLine) : OpR X (compareOp .In) (rInTI X.K) := by
  intro pins s σ H x y v u Q I rx ry h
  obtain ⟨b, n, ns, rfl, rfl, h2, q⟩ := h
  obtain ⟨as, r1⟩ := Dp.reads I (.int n) (.int n) v (.int n) rx
  obtain ⟨bs, r2⟩ := Dp.reads I (dI ns) (.ref b) u (dpT h2) ry
  refine SeqAt.in_tuple_reads (xs := ns.map PyData.int) r2 r1 (lay_ints ns) (by simp [PyData.canLay0]) ?_ ⟨.bl _, H, I, rfl, ?_⟩
  · have := Nat.min_le_right (PyData.depthAll (ns.map PyData.int)) (PyData.int n).depth
    have e : (PyData.int n).depth = 0 := by simp [PyData.depth]
    omega
  · rw [any_int]; exact q
theorem op_inTIK {K : PySem.W.Frag} (h : X.K = K) (hu : X.A.units + 65 < cLine) : OpR X (compareOp .In) (rInTI K) := h ▸ op_inTI hu
end
end RV
namespace RV
open PySem L2
/-! ### who comes to whom by one step or more -/
inductive Rch (ps : List (List Int)) : Int → Int → Prop where
  | one {i j : Int} : [i, j] ∈ ps → Rch ps i j
  | more {i j k : Int} : Rch ps i j → [j, k] ∈ ps → Rch ps i k
theorem Rch.trans {ps : List (List Int)} {i j k : Int} (h : Rch ps i j) (g : Rch ps j k) : Rch ps i k := by
  induction g with
  | one e => exact .more h e
  | more _ e ih => exact .more ih e
theorem Rch.bound {ps : List (List Int)} {n : Int} (hb : ∀ p ∈ ps, Pr n p) {i j : Int} (h : Rch ps i j) : (0 ≤ i ∧ i < n) ∧ (0 ≤ j ∧ j < n) := by
  induction h with
  | one e =>
    obtain ⟨x, y, e2, hx, hy⟩ := hb _ e
    injection e2 with e3 e4
    injection e4 with e4 _
    subst e3 e4
    exact ⟨hx, hy⟩
  | more _ e ih =>
    obtain ⟨x, y, e2, hx, hy⟩ := hb _ e
    injection e2 with e3 e4
    injection e4 with e4 _
    subst e3 e4
    exact ⟨ih.1, hy⟩
/-- a lot that holds all right behind m and is closed -/
theorem rch_closed {ps : List (List Int)} {m : Int} {fs : List Int} (h1 : ∀ j, [m, j] ∈ ps → j ∈ fs) (h2 : ∀ x ∈ fs, ∀ j, [x, j] ∈ ps → j ∈ fs) {j : Int} (h : Rch ps m j) : j ∈ fs := by
  induction h with
  | one e => exact h1 _ e
  | more _ e ih => exact h2 _ ih _ e
noncomputable def rB (ps : List (List Int)) (i j : Int) : Bool := @decide (Rch ps i j) (Classical.propDecidable _)
theorem rB_iff {ps : List (List Int)} {i j : Int} : rB ps i j = true ↔ Rch ps i j := by
  unfold rB
  exact @decide_eq_true_iff _ (Classical.propDecidable _)
/-! ### numbers below n -/
def upN (n : Nat) : List Int := (List.range n).map fun (i : Nat) => (i : Int)
theorem upN_get {n k : Nat} (h : k < n) : (upN n)[k]? = some (k : Int) := by
  unfold upN
  rw [List.getElem?_map, List.getElem?_range h]; rfl
theorem upN_len (n : Nat) : (upN n).length = n := by unfold upN; rw [List.length_map, List.length_range]
theorem mem_upN {n : Nat} {x : Int} : x ∈ upN n ↔ 0 ≤ x ∧ x < (n : Int) := by
  unfold upN
  rw [List.mem_map]
  constructor
  · rintro ⟨k, hk, rfl⟩
    have := List.mem_range.mp hk
    omega
  · rintro ⟨h0, h1⟩
    exact ⟨x.toNat, List.mem_range.mpr (by omega), by omega⟩
theorem upN_rise (n : Nat) : (upN n).Pairwise (· < ·) := by
  unfold upN
  rw [List.pairwise_map]
  exact List.Pairwise.imp (fun {a b} (h : a < b) => by omega) List.pairwise_lt_range
/-! ### the lot of a mark -/
noncomputable def lotOf (ps : List (List Int)) (n : Nat) (m : Int) : List Int := (upN n).filter fun j => rB ps m j && rB ps j m
theorem mem_lot {ps : List (List Int)} {n : Nat} {m j : Int} : j ∈ lotOf ps n m ↔ (0 ≤ j ∧ j < (n : Int)) ∧ Rch ps m j ∧ Rch ps j m := by
  unfold lotOf
  rw [List.mem_filter, mem_upN, Bool.and_eq_true, rB_iff, rB_iff]
theorem lot_rise (ps : List (List Int)) (n : Nat) (m : Int) : (lotOf ps n m).Pairwise (· < ·) := (upN_rise n).filter _
theorem lot_len (ps : List (List Int)) (n : Nat) (m : Int) : (lotOf ps n m).length ≤ n := by
  have := List.length_filter_le (fun j => rB ps m j && rB ps j m) (upN n)
  rw [upN_len] at this
  exact this
theorem lot_eq {ps : List (List Int)} {n : Nat} {m j : Int} (h : j ∈ lotOf ps n m) : lotOf ps n j = lotOf ps n m := by
  obtain ⟨_, h1, h2⟩ := mem_lot.mp h
  unfold lotOf
  refine List.filter_congr fun x _ => ?_
  rw [Bool.eq_iff_iff, Bool.and_eq_true, Bool.and_eq_true, rB_iff, rB_iff, rB_iff, rB_iff]
  exact ⟨fun ⟨a, b⟩ => ⟨h1.trans a, b.trans h2⟩, fun ⟨a, b⟩ => ⟨h2.trans a, b.trans h1⟩⟩
theorem lot_self {ps : List (List Int)} {n : Nat} {m : Int} (hm : 0 ≤ m ∧ m < (n : Int)) (h : Rch ps m m) : m ∈ lotOf ps n m := mem_lot.mpr ⟨hm, h, h⟩
theorem lot_none {ps : List (List Int)} {n : Nat} {m : Int} (h : ¬ Rch ps m m) : lotOf ps n m = [] := by
  refine List.eq_nil_iff_forall_not_mem.mpr fun j hj => ?_
  obtain ⟨_, h1, h2⟩ := mem_lot.mp hj
  exact h (h1.trans h2)
theorem lot_some {ps : List (List Int)} {n : Nat} {m j : Int} (h : j ∈ lotOf ps n m) : Rch ps m m := by
  obtain ⟨_, h1, h2⟩ := mem_lot.mp h
  exact h1.trans h2
/-! ### the parts -/
noncomputable def isHead (ps : List (List Int)) (n : Nat) (m : Int) : Bool := decide ((lotOf ps n m).head? = some m)
noncomputable def partsOf (ps : List (List Int)) (n : Nat) : List (List Int) := ((upN n).filter (isHead ps n)).map (lotOf ps n)
theorem mem_parts {ps : List (List Int)} {n : Nat} {p : List Int} : p ∈ partsOf ps n ↔ ∃ m : Int, (0 ≤ m ∧ m < (n : Int)) ∧ (lotOf ps n m).head? = some m ∧ p = lotOf ps n m := by
  unfold partsOf isHead
  rw [List.mem_map]
  constructor
  · rintro ⟨m, hm, rfl⟩
    obtain ⟨h1, h2⟩ := List.mem_filter.mp hm
    exact ⟨m, mem_upN.mp h1, of_decide_eq_true h2, rfl⟩
  · rintro ⟨m, h1, h2, rfl⟩
    exact ⟨m, List.mem_filter.mpr ⟨mem_upN.mpr h1, decide_eq_true h2⟩, rfl⟩
theorem lot_part {ps : List (List Int)} {n : Nat} {m j : Int} (h : j ∈ lotOf ps n m) : lotOf ps n m ∈ partsOf ps n := by
  cases e : lotOf ps n m with
  | nil => rw [e] at h; cases h
  | cons x r =>
    have hx : x ∈ lotOf ps n m := by rw [e]; exact List.mem_cons_self ..
    have ex := lot_eq hx
    refine mem_parts.mpr ⟨x, (mem_lot.mp hx).1, ?_, ?_⟩
    · rw [ex, e]; rfl
    · rw [ex, e]
theorem part_ne {ps : List (List Int)} {n : Nat} {p : List Int} (h : p ∈ partsOf ps n) : p ≠ [] := by
  obtain ⟨m, _, h2, rfl⟩ := mem_parts.mp h
  intro e
  rw [e] at h2; cases h2
theorem part_lot {ps : List (List Int)} {n : Nat} {p : List Int} {x : Int} (h : p ∈ partsOf ps n) (hx : x ∈ p) : lotOf ps n x = p := by
  obtain ⟨m, _, _, rfl⟩ := mem_parts.mp h
  exact lot_eq hx
def hd0 (l : List Int) : Int := l.headD 0
theorem parts_rise (ps : List (List Int)) (n : Nat) : (partsOf ps n).Pairwise fun p q => hd0 p < hd0 q := by
  unfold partsOf
  rw [List.pairwise_map]
  refine List.Pairwise.imp_of_mem (fun {a b} ha hb (h : a < b) => ?_) ((upN_rise n).filter _)
  have ea : (lotOf ps n a).head? = some a := of_decide_eq_true (List.mem_filter.mp ha).2
  have eb : (lotOf ps n b).head? = some b := of_decide_eq_true (List.mem_filter.mp hb).2
  unfold hd0
  rw [List.headD_eq_head?_getD, List.headD_eq_head?_getD, ea, eb]
  exact h
theorem parts_nodup (ps : List (List Int)) (n : Nat) : (partsOf ps n).Nodup := (parts_rise ps n).imp fun {a b} h e => by rw [e] at h; omega
theorem parts_len (ps : List (List Int)) (n : Nat) : (partsOf ps n).length ≤ n := by
  unfold partsOf
  rw [List.length_map]
  have := List.length_filter_le (isHead ps n) (upN n)
  rw [upN_len] at this
  exact this
/-- of two lots unlike heads tell which is ahead -/
theorem part_hd {ps : List (List Int)} {n : Nat} {p q : List Int} (hp : p ∈ partsOf ps n) (hq : q ∈ partsOf ps n) (h : hd0 p = hd0 q) : p = q := by
  obtain ⟨a, _, ea, rfl⟩ := mem_parts.mp hp
  obtain ⟨b, _, eb, rfl⟩ := mem_parts.mp hq
  unfold hd0 at h
  rw [List.headD_eq_head?_getD, List.headD_eq_head?_getD, ea, eb] at h
  have h' : a = b := h
  rw [h']
/-! ### the table that is gone on with, mark by mark -/
def Wsh (ps : List (List Int)) : Nat → Int → Int → Prop
  | 0, i, j => [i, j] ∈ ps
  | k + 1, i, j => Wsh ps k i j ∨ (Wsh ps k i (k : Int) ∧ Wsh ps k (k : Int) j)
theorem Wsh.up {ps : List (List Int)} {i j : Int} (h : [i, j] ∈ ps) : ∀ k, Wsh ps k i j
  | 0 => h
  | k + 1 => .inl (Wsh.up h k)
theorem Wsh.rch {ps : List (List Int)} : ∀ {k : Nat} {i j : Int}, Wsh ps k i j → Rch ps i j
  | 0, _, _, h => .one h
  | k + 1, _, _, .inl h => Wsh.rch h
  | k + 1, _, _, .inr h => (Wsh.rch h.1).trans (Wsh.rch h.2)
theorem Wsh.amid {ps : List (List Int)} : ∀ (k : Nat) (m : Nat) (i j : Int), m < k → Wsh ps k i (m : Int) → Wsh ps k (m : Int) j → Wsh ps k i j
  | 0, _, _, _, h, _, _ => absurd h (Nat.not_lt_zero _)
  | k + 1, m, i, j, h, h1, h2 => by
    by_cases e : m = k
    · subst e
      have a1 : Wsh ps m i (m : Int) := h1.elim id fun z => z.1
      have a2 : Wsh ps m (m : Int) j := h2.elim id fun z => z.2
      exact .inr ⟨a1, a2⟩
    · have hm : m < k := by omega
      have T := fun i j => Wsh.amid (ps := ps) k m i j hm
      rcases h1 with h1 | ⟨p1, p2⟩
      · rcases h2 with h2 | ⟨q1, q2⟩
        · exact .inl (T _ _ h1 h2)
        · exact .inr ⟨T _ _ h1 q1, q2⟩
      · rcases h2 with h2 | ⟨q1, q2⟩
        · exact .inr ⟨p1, T _ _ p2 h2⟩
        · exact .inr ⟨p1, q2⟩
theorem rch_wsh {ps : List (List Int)} {n : Nat} (hb : ∀ p ∈ ps, Pr (n : Int) p) {i j : Int} (h : Rch ps i j) : Wsh ps n i j := by
  induction h with
  | one e => exact Wsh.up e n
  | @more j k _ e ih =>
    have b := (Rch.bound hb (.one e)).1
    have ej : j = ((j.toNat : Nat) : Int) := by omega
    rw [ej] at ih e
    exact Wsh.amid n j.toNat _ _ (by omega) ih (Wsh.up e n)
end RV
set_option maxHeartbeats 4000000
namespace K9
open PySem PySem.Spec PyProof.Rows L2 RV
theorem flds_no (a b t : Addr) {m : Str} (h1 : ¬ m = "mirrors") (h2 : ¬ m = "steps") (h3 : ¬ m = "followers") : (flds a b t).lookup m = none := by
  unfold flds
  rw [lookup_putF, if_neg h3, lookup_putF, if_neg h2, lookup_putF, if_neg h1]
  all_goals rfl
theorem mem_behind {n : Int} {ps : List (List Int)} (hp : ∀ p ∈ ps, Pr n p) {m j : Int} : j ∈ behindOf ps m ↔ [m, j] ∈ ps := by
  unfold behindOf
  rw [List.mem_map]
  constructor
  · rintro ⟨p, h1, h2⟩
    obtain ⟨h3, h4⟩ := List.mem_filter.mp h1
    obtain ⟨x, y, rfl, _⟩ := hp p h3
    have e1 : x = m := of_decide_eq_true h4
    have e2 : y = j := h2
    subst e1 e2
    exact h3
  · intro h
    exact ⟨[m, j], List.mem_filter.mpr ⟨h, decide_eq_true rfl⟩, rfl⟩
theorem behind_nodup {n : Int} {ps : List (List Int)} (hp : ∀ p ∈ ps, Pr n p) (nd : ps.Nodup) (m : Int) : (behindOf ps m).Nodup := by
  unfold behindOf
  refine List.pairwise_map.mpr (List.Pairwise.imp_of_mem (fun {a b} ha hb ne e => ?_) (nd.filter _))
  obtain ⟨a1, a2⟩ := List.mem_filter.mp ha
  obtain ⟨b1, b2⟩ := List.mem_filter.mp hb
  obtain ⟨x, y, rfl, _⟩ := hp a a1
  obtain ⟨x', y', rfl, _⟩ := hp b b1
  have e1 : x = m := of_decide_eq_true a2
  have e2 : x' = m := of_decide_eq_true b2
  have e3 : y = y' := e
  exact ne (by rw [e1, e2, e3])
section
variable {P : Program} {w : World} {K : PySem.W.Frag} {mg : Str → Option Value} {base : Heap}
/-! ### led_to -/
theorem scLed : FnScope ["rule", "mark", "found", "at", "fresh", "other"] ["rule", "mark"] (defScope sLed) := ⟨rfl, rfl, rfl, by decide +kernel, rfl, by decide +kernel, by decide +kernel⟩
def spLed (K : PySem.W.Frag) (C : Addr) : Sp := fun vs H Q _ => ∃ (r : Addr) (m : Int) (ns : List Int) (ps : List (List Int)), vs = [.ref r, .int m] ∧ RuleAt K C H r ns ps ∧ Mir ns ∧ Stp ns ps ∧ (0 ≤ m ∧ m < (ns.length : Int)) ∧
  ∀ (H' : Hp) (c : Addr) (fs : List Int), Same H H' → H c = none → H' c = some (.lst (fs.map V.int)) → fs.length ≤ 8 → (∀ j, j ∈ fs ↔ Rch ps m j) → Q (.ref c) H'
def atOf : L2.St → Nat
  | [_, _, _, some (.int a), _, _] => 8 - a.toNat
  | _ => 0
theorem ok_led {f C fB : Addr} {fd dB : FuncData} (F : Fun K "led_to" "led_to" sLed f fd) (T : Txt K mg C) (B : Bare mg)
    (FB : Fun K "behind" "Rule.behind" sBehindM fB dB) (bB : Binds K dB ["self", "mark"] []) (mB : Meth K C "behind" fB) : FnOk P w K mg base CX0 2 f fd ["rule", "mark"] (spLed K C) := by
  have GB : FnOk P w K mg base CX0 1 fB dB ["self", "mark"] (spBehindM K C) := ok_behindM FB T
  refine F.ok scLed (fun vs H Q E h => ?_) (fun cdv A outer s H vs Q E hr h => ?_)
  · obtain ⟨r, m, ns, ps, rfl, _⟩ := h
    rfl
  · obtain ⟨r, m, ns, ps, rfl, R, M, S, hm, q⟩ := h
    have hu5 := un65 hr
    refine ⟨_, pss_cons (ps_set (i := 2) scLed.nd rfl (Or.inr rfl) (pe_callTy call_list_of (by rfl) B.list boot_list (pa_cons (pe_meth (pv 0) T.cl mB GB hr bB .nil pass0 (pa_cons (pv 1) pa_nil)) pa_nil)))
      (pss_cons (ps_set (i := 3) scLed.nd rfl (Or.inl rfl) pe_int)
      (pss_cons (ps_while PassesOwn.never (pt_cmpR op_lt (pv 3) (pe_callB call_len_seq (by rfl) B.len PySem.boot_len (pa_cons (pv 2) pa_nil)) (nomark _))
        (pss_cons (ps_setLc (i := 4) (own := [("other", 5)]) (g := gName 5) rfl scLed.nd rfl rfl (by rfl) (pi_tup (pe_meth (pv 0) T.cl mB GB hr bB .nil pass0 (pa_cons (pe_ix ix_list (pv 2) (pv 3) (fun _ _ => rfl)) pa_nil))) (blkOk_by (N := ["rule", "mark", "found", "at", "fresh", "other"]) (sc := defScope sLed) (by decide +kernel))
            (fun _ _ _ _ _ => pg_name (i := 5) scLed.nd rfl (Or.inl rfl)) (fun _ _ _ _ _ => pts_one (pt_cmpR (op_notInDK (K := K) rfl hu5) (pv 5) (pv 2) (by rfl))) (fun _ _ _ _ _ => pv 5))
        (pss_cons (ps_expr (pe_bm PySem.F.plainAttrs_list PySem.F.slot_list_extend PySem.F.type_list_extend mt_extend (pv 2) (pa_cons (pv 4) pa_nil)))
        (pss_one (ps_aug (i := 3) scLed.nd rfl (.inl rfl) pe_int ip_add)))))
      (pss_one (ps_ret (pv 2))))), ?_⟩
    obtain ⟨dx, a0, b0, t0, g1, g2, g3, g4⟩ := R.ex
    have fno := flds_no a0 b0 t0 (m := "behind") (by decide +kernel) (by decide +kernel) (by decide +kernel)
    have h8 := M.few
    have hP : ∀ p ∈ ps, Pr (ns.length : Int) p := fun p hp => S.pair p hp
    -- found = list(rule.behind(mark))
    refine ⟨.ref r, rfl, r, dx, _, rfl, g1, fno, .int m, rfl, r, ns, ps, m.toNat, by rw [Int.toNat_of_nonneg hm.1]; rfl, R, by omega, fun c hc => ?_⟩
    rw [Int.toNat_of_nonneg hm.1] at hc
    refine ⟨c, _, rfl, .inr hc, fun F0 nF => ?_⟩
    have small : ∀ fs : List Int, fs.Nodup → (∀ x ∈ fs, Rch ps m x) → fs.length ≤ 8 := fun fs nd hr => by
      have z := nodup_le (us := upN ns.length) nd fun x hx => mem_upN.mpr (Rch.bound hP (hr x hx)).2
      rw [upN_len] at z; omega
    refine while_by (fun σ H' => ∃ (fs : List Int) (a : Nat) (y4 y5 : Option V), σ = [some (.ref r), some (.int m), some (.ref F0), some (.int (a : Int)), y4, y5] ∧ Same H H' ∧ H' F0 = some (.lst (fs.map V.int)) ∧ fs.Nodup ∧ (∀ x ∈ fs, Rch ps m x) ∧ (∀ j, [m, j] ∈ ps → j ∈ fs) ∧ (∀ (k : Nat) (x : Int), k < a → fs[k]? = some x → ∀ j, [x, j] ∈ ps → j ∈ fs) ∧ a ≤ fs.length)
      (fun σ _ => atOf σ) ?_ ?_ ?_
    · exact ⟨behindOf ps m, 0, none, none, rfl, same_upd nF, upd_same, behind_nodup hP S.nd m, fun x hx => .one ((mem_behind hP).mp hx), fun j hj => (mem_behind hP).mpr hj, fun k x hk => absurd hk (Nat.not_lt_zero _), Nat.zero_le _⟩
    · rintro σ H1 ⟨fs, a, y4, y5, rfl, s1, eF, nd, rc, cl, up, hle⟩
      have hl8 := small fs nd rc
      refine ⟨.int (a : Int), rfl, .ref F0, rfl, F0, _, rfl, .inl (lstNew eF), _, _, rfl, rfl, _, rfl, ite2 (fun hlt => ?_) (fun hge => ?_)⟩
      · have hlt : a < fs.length := by
          have z := of_decide_eq_true hlt
          rw [List.length_map] at z; omega
        obtain ⟨x, gx⟩ : ∃ x, fs[a]? = some x := ⟨_, List.getElem?_eq_getElem hlt⟩
        have hx := (Rch.bound hP (rc x (List.mem_of_getElem? gx))).2
        have R1 := R.same s1
        refine ⟨.ref r, rfl, r, dx, _, rfl, s1 _ _ g1, fno, .ref F0, rfl, .int (a : Int), rfl, F0, _, _, .int x, rfl, rfl, lstNew eF, atI_nat (by rw [List.getElem?_map, gx]; rfl), ?_⟩
        refine ⟨r, ns, ps, x.toNat, by rw [Int.toNat_of_nonneg hx.1]; rfl, R1, by omega, fun c2 hc2 => ?_⟩
        rw [Int.toNat_of_nonneg hx.1] at hc2
        refine ⟨c2, rfl, ⟨_, hc2⟩, fun D nD => ?_⟩
        have hbl : (behindOf ps x).length ≤ 64 := by
          have := behind_len ps x
          have := S.few
          omega
        refine lc_filtT (f := fun y => decide (y ∉ fs)) hc2 (by omega) nD (fun y hy H' s' A B h => ?_) (fun y H' Q h => ⟨.int y, rfl, h⟩) fun H2 s2 eD => ?_
        · refine ⟨.int y, rfl, .ref F0, rfl, .int y, fs.map PyData.int, .int y, dpL (lstNew (s' _ _ eF)), shapedN y, shapedLI fs, _, rfl, ?_⟩
          rw [any_int, ← decide_not]
          exact h H' (Same.refl H')
        · have eF2 := s2 _ _ eF
          have nF2 : ∀ H' o, Same H H' → Same H (upd H' F0 o) := fun H' o s b u e => by
            rw [upd_ne (ne_of_none e nF)]; exact s b u e
          have fl : ((behindOf ps x).filter fun y => decide (y ∉ fs)).length ≤ 64 := Nat.le_trans (List.length_filter_le _ _) hbl
          refine ⟨.ref F0, rfl, .inl ⟨rfl, _, lstNew eF2⟩, .ref D, rfl, F0, D, _, _, rfl, rfl, eF2, eD, ?_, ?_⟩
          · rw [List.length_map, List.length_map]; exact Nat.le_of_lt (few1 (by omega))
          refine ⟨.int (a : Int), rfl, _, _, rfl, rfl, ?_⟩
          have mem2 : ∀ j, j ∈ fs ++ (behindOf ps x).filter (fun y => decide (y ∉ fs)) ↔ j ∈ fs ∨ [x, j] ∈ ps := fun j => by
            rw [List.mem_append, List.mem_filter, mem_behind hP]
            constructor
            · rintro (z | z)
              · exact .inl z
              · exact .inr z.1
            · rintro (z | z)
              · exact .inl z
              · by_cases e : j ∈ fs
                · exact .inl e
                · exact .inr ⟨z, decide_eq_true e⟩
          refine ⟨⟨fs ++ (behindOf ps x).filter (fun y => decide (y ∉ fs)), a + 1, _, _, rfl, nF2 _ _ (s1.trans s2), ?_, ?_, ?_, ?_, ?_, ?_⟩, ?_⟩
          · rw [upd_same, List.map_append]
          · rw [List.nodup_append]
            refine ⟨nd, (behind_nodup hP S.nd x).filter _, fun u hu v hv e => ?_⟩
            subst e
            exact of_decide_eq_true (List.mem_filter.mp hv).2 hu
          · intro j hj
            rcases (mem2 j).mp hj with z | z
            · exact rc j z
            · exact .more (rc x (List.mem_of_getElem? gx)) z
          · exact fun j hj => (mem2 j).mpr (.inl (cl j hj))
          · intro k z hk hz j hj
            refine (mem2 j).mpr ?_
            by_cases e : k = a
            · subst e
              rw [List.getElem?_append_left hlt, gx] at hz
              cases hz
              exact .inr hj
            · rw [List.getElem?_append_left (by omega)] at hz
              exact .inl (up k z (by omega) hz j hj)
          · rw [List.length_append]; omega
          · show 8 - ((a : Int) + 1).toNat < 8 - ((a : Int)).toNat
            omega
      · have hge : fs.length ≤ a := by
          have z : ¬ ((a : Int) < ((fs.map V.int).length : Int)) := fun z => hge (decide_eq_true z)
          rw [List.length_map] at z; omega
        refine ⟨.ref F0, rfl, q H1 F0 fs s1 nF eF hl8 fun j => ⟨rc j, fun h => ?_⟩⟩
        refine rch_closed cl (fun x hx j hj => ?_) h
        obtain ⟨k, hk, e⟩ := List.getElem_of_mem hx
        exact up k x (by omega) (by rw [List.getElem?_eq_getElem hk, e]) j hj
    · intro σ H1 Q1 Q2 hq h
      obtain ⟨x, e1, y, e2, p, l, e3, e4, i, j, e5, e6, b, e7, h⟩ := h
      exact ⟨x, e1, y, e2, p, l, e3, e4, i, j, e5, e6, b, e7, hq _ _ h⟩
end
end K9
namespace RV
/-! ### rings: runs of marks, by the list of all their marks -/
/-- so many times the word -/
def rp (n : Nat) (w : List Int) : List Int := (List.replicate n w).flatten
theorem rp_zero (w : List Int) : rp 0 w = [] := rfl
theorem rp_succ (n : Nat) (w : List Int) : rp (n + 1) w = w ++ rp n w := by unfold rp; rw [List.replicate_succ, List.flatten_cons]
theorem rp_one (w : List Int) : rp 1 w = w := by rw [rp_succ, rp_zero, List.append_nil]
theorem rp_add (a b : Nat) (w : List Int) : rp (a + b) w = rp a w ++ rp b w := by unfold rp; rw [← List.replicate_append_replicate, List.flatten_append]
theorem rp_len : ∀ (n : Nat) (w : List Int), (rp n w).length = n * w.length
  | 0, w => by rw [rp_zero, Nat.zero_mul]; rfl
  | n + 1, w => by rw [rp_succ, List.length_append, rp_len n w, Nat.succ_mul, Nat.add_comm]
theorem rp_get : ∀ (n : Nat) (w : List Int) (i : Nat), i < n * w.length → (rp n w)[i]? = w[i % w.length]?
  | 0, w, i, h => by rw [Nat.zero_mul] at h; omega
  | n + 1, w, i, h => by
    rw [rp_succ]
    rcases Nat.lt_or_ge i w.length with z | z
    · rw [List.getElem?_append_left z, Nat.mod_eq_of_lt z]
    · rw [List.getElem?_append_right z, rp_get n w _ (by rw [Nat.succ_mul] at h; omega), Nat.mod_eq_sub_mod z]
theorem rp_rev : ∀ (n : Nat) (w : List Int), (rp n w).reverse = rp n w.reverse
  | 0, w => rfl
  | n + 1, w => by rw [rp_succ, List.reverse_append, rp_rev n w, show n + 1 = n + 1 from rfl, rp_add, rp_one]
theorem rp_map (f : Int → Int) : ∀ (n : Nat) (w : List Int), (rp n w).map f = rp n (w.map f)
  | 0, w => rfl
  | n + 1, w => by rw [rp_succ, List.map_append, rp_map f n w, rp_succ]
/-- all marks of the runs -/
def mk : List (Int × List Int) → List Int
  | [] => []
  | r :: rs => rp r.1.toNat r.2 ++ mk rs
theorem mk_app : ∀ (a b : List (Int × List Int)), mk (a ++ b) = mk a ++ mk b
  | [], b => rfl
  | r :: a, b => by show rp r.1.toNat r.2 ++ mk (a ++ b) = rp r.1.toNat r.2 ++ mk a ++ mk b; rw [mk_app a b, List.append_assoc]
theorem mk_one (t : Int) (w : List Int) : mk [(t, w)] = rp t.toNat w := by show rp t.toNat w ++ [] = _; rw [List.append_nil]
/-- how many places a run takes -/
def rl (r : Int × List Int) : Int := r.1 * (r.2.length : Int)
def pl (rs : List (Int × List Int)) : Int := (rs.map rl).sum
theorem pl_cons (r : Int × List Int) (rs : List (Int × List Int)) : pl (r :: rs) = rl r + pl rs := by unfold pl; rw [List.map_cons, List.sum_cons]
theorem pl_app (a b : List (Int × List Int)) : pl (a ++ b) = pl a + pl b := by unfold pl; rw [List.map_append, List.sum_append_int]
/-- runs as rings have them -/
def Rn (rs : List (Int × List Int)) : Prop := ∀ r ∈ rs, 1 ≤ r.1 ∧ r.2 ≠ []
theorem rl_pos {r : Int × List Int} (h : 1 ≤ r.1 ∧ r.2 ≠ []) : 0 < rl r := Int.mul_pos (by omega) (by have := List.length_pos_iff.mpr h.2; omega)
theorem rl_nat {r : Int × List Int} (h : 0 ≤ r.1) : ((r.1.toNat * r.2.length : Nat) : Int) = rl r := by
  unfold rl; rw [Int.natCast_mul, Int.toNat_of_nonneg h]
theorem mk_len : ∀ {rs : List (Int × List Int)}, (∀ r ∈ rs, 0 ≤ r.1) → ((mk rs).length : Int) = pl rs
  | [], _ => rfl
  | r :: rs, h => by
    show (((rp r.1.toNat r.2 ++ mk rs).length : Nat) : Int) = _
    rw [List.length_append, Int.natCast_add, mk_len fun q hq => h q (List.mem_cons_of_mem _ hq), pl_cons, rp_len, rl_nat (h r (List.mem_cons_self ..))]
theorem Rn.nn {rs : List (Int × List Int)} (h : Rn rs) : ∀ r ∈ rs, 0 ≤ r.1 := fun r hr => by have := (h r hr).1; omega
theorem Rn.sub {rs qs : List (Int × List Int)} (h : Rn rs) (s : ∀ q ∈ qs, q ∈ rs) : Rn qs := fun q hq => h q (s q hq)
theorem Rn.pos {rs : List (Int × List Int)} (h : Rn rs) (n : rs ≠ []) : 0 < pl rs := by
  cases rs with
  | nil => exact absurd rfl n
  | cons r rs =>
    have h1 := rl_pos (h r (List.mem_cons_self ..))
    have h2 : 0 ≤ pl rs := by rw [← mk_len (Rn.nn (h.sub fun q hq => List.mem_cons_of_mem _ hq))]; omega
    rw [pl_cons]; omega
theorem pl_nn {rs : List (Int × List Int)} (h : ∀ r ∈ rs, 0 ≤ r.1) : 0 ≤ pl rs := by rw [← mk_len h]; omega
theorem split_at {α : Type} {rs : List α} {a : Nat} {r : α} (h : rs[a]? = some r) : rs = rs.take a ++ r :: rs.drop (a + 1) := by
  have hl := (List.getElem?_eq_some_iff.mp h)
  obtain ⟨hl, e⟩ := hl
  conv => lhs; rw [← List.take_append_drop a rs]
  rw [List.drop_eq_getElem_cons hl, e]
theorem mk_at {rs : List (Int × List Int)} (hn : ∀ r ∈ rs, 0 ≤ r.1) {a : Nat} {r : Int × List Int} (h : rs[a]? = some r) {i : Nat} (hi : (i : Int) < rl r) : (mk rs)[(pl (rs.take a)).toNat + i]? = r.2[i % r.2.length]? := by
  have e := split_at h
  have n1 : ∀ q ∈ rs.take a, 0 ≤ q.1 := fun q hq => hn q (List.mem_of_mem_take hq)
  have l1 := mk_len n1
  have hr0 : 0 ≤ r.1 := hn r (List.mem_of_getElem? h)
  have ln : i < r.1.toNat * r.2.length := by have z := rl_nat (r := r) hr0; omega
  have key : (mk (rs.take a ++ r :: rs.drop (a + 1)))[(pl (rs.take a)).toNat + i]? = r.2[i % r.2.length]? := by
   rw [mk_app]
   show (mk (rs.take a) ++ (rp r.1.toNat r.2 ++ mk (rs.drop (a + 1))))[_]? = _
   rw [List.getElem?_append_right (by omega), show (pl (rs.take a)).toNat + i - (mk (rs.take a)).length = i by omega, List.getElem?_append_left (by rw [rp_len]; exact ln), rp_get _ _ _ ln]
  rw [← e] at key; exact key
/-- the mark at a place, counted on round the ring -/
def mP (l : List Int) (p : Int) : Int := l.getD (p % (l.length : Int)).toNat 0
theorem mP_get {l : List Int} {i : Nat} (h : i < l.length) : mP l (i : Int) = l.getD i 0 := by
  unfold mP; rw [Int.emod_eq_of_lt (by omega) (by omega), Int.toNat_natCast]
theorem mP_mod (l : List Int) (p q : Int) (h : (p - q) % (l.length : Int) = 0) : mP l p = mP l q := by
  unfold mP
  rw [Int.emod_emod_of_dvd p (Int.dvd_refl _) |>.symm, (Int.emod_eq_emod_iff_emod_sub_eq_zero).mpr h, Int.emod_emod_of_dvd q (Int.dvd_refl _)]
theorem mP_add (l : List Int) (p : Int) (k : Int) : mP l (p + (l.length : Int) * k) = mP l p := by
  apply mP_mod
  rw [show p + (l.length : Int) * k - p = (l.length : Int) * k by omega, Int.mul_emod_right]
theorem mP_rest (l : List Int) (p : Int) : mP l (p % (l.length : Int)) = mP l p := by
  apply mP_mod
  rw [Int.sub_emod, Int.emod_emod_of_dvd p (Int.dvd_refl _), Int.sub_self, Int.zero_emod]
/-- a place within: nonneg rest -/
theorem rest_in {l : List Int} (h : l ≠ []) (p : Int) : 0 ≤ p % (l.length : Int) ∧ p % (l.length : Int) < (l.length : Int) := by
  have := List.length_pos_iff.mpr h
  exact ⟨Int.emod_nonneg _ (by omega), Int.emod_lt_of_pos _ (by omega)⟩
theorem mP_rot {A B : List Int} (h : A ++ B ≠ []) (p : Int) : mP (B ++ A) p = mP (A ++ B) (p + (A.length : Int)) := by
  have hl : ((B ++ A).length : Int) = ((A ++ B).length : Int) := by rw [List.length_append, List.length_append]; omega
  have hN : ((A ++ B).length : Int) = (A.length : Int) + (B.length : Int) := by rw [List.length_append]; omega
  have h' : B ++ A ≠ [] := fun z => h (by rw [List.append_eq_nil_iff] at z ⊢; exact ⟨z.2, z.1⟩)
  obtain ⟨i, hi⟩ : ∃ i : Nat, (i : Int) = p % ((B ++ A).length : Int) := ⟨(p % ((B ++ A).length : Int)).toNat, by have := (rest_in h' p).1; omega⟩
  have b := (rest_in h' p).2
  have e1 : mP (B ++ A) p = (B ++ A).getD i 0 := by rw [← mP_rest, ← hi, mP_get (by omega)]
  rw [e1]
  have hm : (p - (i : Int)) % ((A ++ B).length : Int) = 0 := by
    rw [hi, hl, Int.sub_emod, Int.emod_emod_of_dvd p (Int.dvd_refl _), Int.sub_self, Int.zero_emod]
  have e2 : mP (A ++ B) (p + (A.length : Int)) = mP (A ++ B) ((i : Int) + (A.length : Int)) := mP_mod _ _ _ (by rw [show p + (A.length : Int) - ((i : Int) + (A.length : Int)) = p - (i : Int) by omega]; exact hm)
  rw [e2]
  rcases Nat.lt_or_ge i B.length with z | z
  · rw [show (i : Int) + (A.length : Int) = ((A.length + i : Nat) : Int) by omega, mP_get (by rw [List.length_append]; omega), List.getD_eq_getElem?_getD, List.getD_eq_getElem?_getD, List.getElem?_append_left z, List.getElem?_append_right (by omega), show A.length + i - A.length = i by omega]
  · have e3 : mP (A ++ B) ((i : Int) + (A.length : Int)) = mP (A ++ B) ((i - B.length : Nat) : Int) := mP_mod _ _ _ (by
      rw [show (i : Int) + (A.length : Int) - ((i - B.length : Nat) : Int) = ((A ++ B).length : Int) * 1 by omega, Int.mul_emod_right])
    rw [← hi, hl, hN] at b
    rw [e3, mP_get (by rw [List.length_append]; omega), List.getD_eq_getElem?_getD, List.getD_eq_getElem?_getD, List.getElem?_append_right z, List.getElem?_append_left (by omega)]
theorem mP_back {l : List Int} (h : l ≠ []) (f : Int → Int) (p : Int) : mP (l.reverse.map f) p = f (mP l ((l.length : Int) - 1 - p)) := by
  have hl : ((l.reverse.map f).length : Int) = (l.length : Int) := by rw [List.length_map, List.length_reverse]
  obtain ⟨i, hi⟩ : ∃ i : Nat, (i : Int) = p % (l.length : Int) := ⟨(p % (l.length : Int)).toNat, by have := (rest_in h p).1; omega⟩
  have b := (rest_in h p).2
  rw [← hi] at b
  have il : i < l.length := by omega
  have e1 : mP (l.reverse.map f) p = (l.reverse.map f).getD i 0 := by rw [← mP_rest, hl, ← hi, mP_get (by omega)]
  have e2 : mP l ((l.length : Int) - 1 - p) = mP l ((l.length - 1 - i : Nat) : Int) := mP_mod _ _ _ (by
    rw [show (l.length : Int) - 1 - p - ((l.length - 1 - i : Nat) : Int) = (i : Int) - p by omega, hi, Int.sub_emod, Int.emod_emod_of_dvd p (Int.dvd_refl _), Int.sub_self, Int.zero_emod])
  rw [e1, e2, mP_get (by omega), List.getD_eq_getElem?_getD, List.getD_eq_getElem?_getD, List.getElem?_map, List.getElem?_reverse il]
  rw [List.getElem?_eq_getElem (show l.length - 1 - i < l.length by omega)]; rfl
/-! ### closed round -/
/-- each mark may stand behind the one ahead of it, all round -/
def Cyc (ps : List (List Int)) (l : List Int) : Prop := ∀ p : Int, [mP l p, mP l (p + 1)] ∈ ps
theorem Cyc.rot {ps : List (List Int)} {A B : List Int} (h : A ++ B ≠ []) (c : Cyc ps (A ++ B)) : Cyc ps (B ++ A) := fun p => by
  rw [mP_rot h, mP_rot h, show p + 1 + (A.length : Int) = p + (A.length : Int) + 1 by omega]; exact c _
theorem Cyc.back {ps : List (List Int)} {l : List Int} {f : Int → Int} (h : l ≠ []) (hf : ∀ a b, a ∈ l → b ∈ l → [a, b] ∈ ps → [f b, f a] ∈ ps) (hm : ∀ p, mP l p ∈ l) (c : Cyc ps l) : Cyc ps (l.reverse.map f) := fun p => by
  rw [mP_back h, mP_back h]
  have := c ((l.length : Int) - 1 - (p + 1))
  rw [show (l.length : Int) - 1 - (p + 1) + 1 = (l.length : Int) - 1 - p by omega] at this
  exact hf _ _ (hm _) (hm _) this
theorem mP_mem {l : List Int} (h : l ≠ []) (p : Int) : mP l p ∈ l := by
  have b := rest_in h p
  unfold mP
  rw [List.getD_eq_getElem?_getD, List.getElem?_eq_getElem (show (p % (l.length : Int)).toNat < l.length by omega)]
  exact List.getElem_mem _
/-- a walk from the mark x round and back to it -/
def Loop (ps : List (List Int)) (x : Int) (l : List Int) : Prop := (∀ y, l[0]? = some y → y = x) ∧ (∀ i a b, l[i]? = some a → (l ++ [x])[i + 1]? = some b → [a, b] ∈ ps)
theorem Loop.nil (ps : List (List Int)) (x : Int) : Loop ps x [] := ⟨(fun _ h => nomatch h), fun _ _ _ h => nomatch h⟩
theorem Loop.app {ps : List (List Int)} {x : Int} {u v : List Int} (hu : Loop ps x u) (hv : Loop ps x v) : Loop ps x (u ++ v) := by
  constructor
  · intro y hy
    cases u with
    | nil => exact hv.1 y hy
    | cons a u => exact hu.1 y hy
  · intro i a b ha hb
    rcases Nat.lt_or_ge i u.length with z | z
    · rw [List.getElem?_append_left z] at ha
      refine hu.2 i a b ha ?_
      rcases Nat.lt_or_ge (i + 1) u.length with z2 | z2
      · rw [List.append_assoc, List.getElem?_append_left z2] at hb
        rw [List.getElem?_append_left z2]; exact hb
      · rw [List.append_assoc, List.getElem?_append_right z2] at hb
        rw [List.getElem?_append_right z2]
        rw [show i + 1 - u.length = 0 by omega] at hb ⊢
        cases v with
        | nil => exact hb
        | cons c v =>
          rw [show ((c :: v) ++ [x])[0]? = some c from rfl] at hb
          cases hb
          rw [hv.1 _ rfl]; rfl
    · rw [List.getElem?_append_right z] at ha
      rw [List.append_assoc, List.getElem?_append_right (by omega), show i + 1 - u.length = i - u.length + 1 by omega] at hb
      exact hv.2 _ a b ha hb
theorem Loop.rp {ps : List (List Int)} {x : Int} {w : List Int} (h : Loop ps x w) : ∀ n, Loop ps x (rp n w)
  | 0 => Loop.nil ps x
  | n + 1 => by rw [rp_succ]; exact h.app (Loop.rp h n)
theorem Loop.cyc {ps : List (List Int)} {x : Int} {l : List Int} (h : Loop ps x l) (n : l ≠ []) : Cyc ps l := fun p => by
  obtain ⟨i, hi⟩ : ∃ i : Nat, (i : Int) = p % (l.length : Int) := ⟨(p % (l.length : Int)).toNat, by have := (rest_in n p).1; omega⟩
  have b := (rest_in n p).2
  rw [← hi] at b
  have il : i < l.length := by omega
  have e1 : mP l p = mP l (i : Int) := by rw [hi, mP_rest]
  have e2 : mP l (p + 1) = mP l ((i : Int) + 1) := mP_mod _ _ _ (by rw [show p + 1 - ((i : Int) + 1) = p - i by omega, hi, Int.sub_emod, Int.emod_emod_of_dvd p (Int.dvd_refl _), Int.sub_self, Int.zero_emod])
  rw [e1, e2, mP_get il]
  refine h.2 i _ _ (by rw [List.getD_eq_getElem?_getD, List.getElem?_eq_getElem il]; rfl) ?_
  rcases Nat.lt_or_ge (i + 1) l.length with z | z
  · rw [List.getElem?_append_left z, show (i : Int) + 1 = ((i + 1 : Nat) : Int) by omega, mP_get z, List.getD_eq_getElem?_getD, List.getElem?_eq_getElem z]; rfl
  · rw [List.getElem?_append_right z, show i + 1 - l.length = 0 by omega]
    have e3 : mP l ((i : Int) + 1) = mP l ((0 : Nat) : Int) := mP_mod _ _ _ (by rw [show (i : Int) + 1 - ((0 : Nat) : Int) = (l.length : Int) * 1 by omega, Int.mul_emod_right])
    have l0 : 0 < l.length := by omega
    rw [e3, mP_get l0, List.getD_eq_getElem?_getD, List.getElem?_eq_getElem l0]
    rw [h.1 l[0] (List.getElem?_eq_getElem l0)]; rfl
end RV
set_option maxHeartbeats 4000000
namespace RV
open PySem PySem.Spec PyProof.Rows L2
section
variable {K : PySem.W.Frag} {tt : TT} {te : TE} {f : Int → Bool} {σ : L2.St} {H1 : Hp} {D : Addr} {v n : Nat} {Qd : Hp → Prop}
/-- [x for x in range(n) if ..] -/
theorem lc_filtR (hl : n ≤ 1000) (nD : H1 D = none)
    (htest : ∀ x : Int, 0 ≤ x → x < (n : Int) → ∀ H', Same H1 H' → ∀ A B : Hp → Prop, (∀ H2, Same H' H2 → if f x = true then A H2 else B H2) → tt ((wipe σ [v]).set v (some (.int x))) H' (fun b H3 => if b = true then A H3 else B H3))
    (hte : ∀ (x : Int) (H' : Hp) (Q : VK), Q (.int x) H' → te ((wipe σ [v]).set v (some (.int x))) H' Q)
    (hd : ∀ H', Same H1 H' → H' D = some (.lst (((upN n).filter f).map V.int)) → Qd H') :
    ∃ W : Nat → Nat → Hp → Prop, (∃ m, W 0 m (upd H1 D (.lst []))) ∧ ∀ i m H, W i m H →
      ((Itr 0 n).stop i H ∧ Qd H) ∨ ((Itr 0 n).go i H ∧ ∃ Nx : Hp → Prop, (∀ H', Nx H' → ∃ m', m' < m ∧ W (i + 1) m' H') ∧ ∀ x H', (Itr 0 n).yld i H x H' → gName v x (wipe σ [v]) H' fun σ2 H2 => wipe σ2 [v] = wipe σ [v] ∧ tt σ2 H2 fun b H3 =>
        if b = true then te σ2 H3 fun y H4 => ∃ acc, H4 D = some (.lst acc) ∧ acc.length < sizeLine ∧ Nx (upd H4 D (.lst (acc ++ [y]))) else Nx H3) := by
  refine lc_range (lo := 0) (n := n) (fun i H' => Same H1 H' ∧ H' D = some (.lst ((((upN n).take i).filter f).map V.int))) ⟨same_upd nD, upd_same⟩ (fun i H' hi p => ?_) fun H' p => ?_
  · have g : (upN n)[i]? = some (i : Int) := upN_get hi
    rw [Int.zero_add]
    refine ⟨by simp [wipe, List.set_set], htest (i : Int) (by omega) (by omega) H' p.1 _ _ fun H2 s2 => ?_⟩
    have s12 := p.1.trans s2
    have e2 := s2 _ _ p.2
    by_cases e : f (i : Int) = true
    · rw [if_pos e]
      refine hte _ H2 _ ⟨_, e2, ?_, fun b o z => ?_, ?_⟩
      · rw [List.length_map]
        exact few1 (Nat.le_trans (List.length_filter_le _ _) (by rw [List.length_take, upN_len]; omega))
      · rw [upd_ne (ne_of_none z nD)]; exact s12 b o z
      · rw [upd_same, take_filt g, if_pos e, List.map_append]; rfl
    · rw [if_neg e]
      exact ⟨s12, by rw [take_filt g, if_neg e, List.append_nil]; exact e2⟩
  · rw [List.take_of_length_le (by rw [upN_len]; exact Nat.le_refl _)] at p
    exact hd H' p.1 p.2
end
end RV
set_option maxHeartbeats 4000000
namespace RV
open PySem PySem.Spec PyProof.Rows L2
def fromN (lo : Int) (n : Nat) : List Int := (List.range n).map fun (i : Nat) => lo + (i : Int)
theorem fromN_get {lo : Int} {n k : Nat} (h : k < n) : (fromN lo n)[k]? = some (lo + (k : Int)) := by
  unfold fromN
  rw [List.getElem?_map, List.getElem?_range h]; rfl
theorem fromN_len (lo : Int) (n : Nat) : (fromN lo n).length = n := by unfold fromN; rw [List.length_map, List.length_range]
theorem mem_fromN {lo : Int} {n : Nat} {x : Int} : x ∈ fromN lo n ↔ lo ≤ x ∧ x < lo + (n : Int) := by
  unfold fromN
  rw [List.mem_map]
  constructor
  · rintro ⟨k, hk, rfl⟩
    have := List.mem_range.mp hk
    omega
  · rintro ⟨h0, h1⟩
    exact ⟨(x - lo).toNat, List.mem_range.mpr (by omega), by omega⟩
theorem pe_weakR {X : Cx} {e : Expr} {t t' : TE} (h : PE X e t) (imp : ∀ σ H Q, t' σ H Q → t σ H Q) : PE X e t' := ⟨fun pins s σ H Q I q => h.run pins s σ H Q I (imp σ H Q q)⟩
section
variable {X : Cx} {K : PySem.W.Frag}
theorem cr_allK (h : X.K = K) (hc : X.calm = true) : CallR X (.builtin "all") (rAll K) := h ▸ cr_all hc
theorem pi_listK {tg l : Expr} {tl : TE} (h : X.K = K) (hl : PE X l tl) : PI X tg l (iList K tl) := h ▸ pi_list hl
theorem pi_tupK {tg l : Expr} {tl : TE} (h : X.K = K) (hl : PE X l tl) : PI X tg l (iTup K tl) := h ▸ pi_tup hl
end
section
variable {K : PySem.W.Frag} {tt : TT} {te : TE} {f : Int → Bool} {h : Int → Int} {σ : L2.St} {H1 : Hp} {D : Addr} {v n : Nat} {lo : Int} {Qd : Hp → Prop}
/-- [h(x) for x in range(lo, ..) if f(x)] -/
theorem lc_mapR (hl : n ≤ 1000) (nD : H1 D = none)
    (htest : ∀ x ∈ fromN lo n, ∀ H', Same H1 H' → ∀ A B : Hp → Prop, (∀ H2, Same H' H2 → if f x = true then A H2 else B H2) → tt ((wipe σ [v]).set v (some (.int x))) H' (fun b H3 => if b = true then A H3 else B H3))
    (hte : ∀ x ∈ fromN lo n, ∀ (H' : Hp) (Q : VK), Same H1 H' → f x = true → (∀ H2, Same H' H2 → Q (.int (h x)) H2) → te ((wipe σ [v]).set v (some (.int x))) H' Q)
    (hd : ∀ H', Same H1 H' → H' D = some (.lst ((((fromN lo n).filter f).map h).map V.int)) → Qd H') :
    ∃ W : Nat → Nat → Hp → Prop, (∃ m, W 0 m (upd H1 D (.lst []))) ∧ ∀ i m H, W i m H →
      ((Itr lo n).stop i H ∧ Qd H) ∨ ((Itr lo n).go i H ∧ ∃ Nx : Hp → Prop, (∀ H', Nx H' → ∃ m', m' < m ∧ W (i + 1) m' H') ∧ ∀ x H', (Itr lo n).yld i H x H' → gName v x (wipe σ [v]) H' fun σ2 H2 => wipe σ2 [v] = wipe σ [v] ∧ tt σ2 H2 fun b H3 =>
        if b = true then te σ2 H3 fun y H4 => ∃ acc, H4 D = some (.lst acc) ∧ acc.length < sizeLine ∧ Nx (upd H4 D (.lst (acc ++ [y]))) else Nx H3) := by
  refine lc_range (lo := lo) (n := n) (fun i H' => Same H1 H' ∧ H' D = some (.lst (((((fromN lo n).take i).filter f).map h).map V.int))) ⟨same_upd nD, upd_same⟩ (fun i H' hi p => ?_) fun H' p => ?_
  · have g : (fromN lo n)[i]? = some (lo + (i : Int)) := fromN_get hi
    have hm := List.mem_of_getElem? g
    refine ⟨by simp [wipe, List.set_set], htest _ hm H' p.1 _ _ fun H2 s2 => ?_⟩
    have s12 := p.1.trans s2
    have e2 := s2 _ _ p.2
    by_cases e : f (lo + (i : Int)) = true
    · rw [if_pos e]
      refine hte _ hm H2 _ s12 e fun H3 s3 => ⟨_, s3 _ _ e2, ?_, fun b o z => ?_, ?_⟩
      · rw [List.length_map, List.length_map]
        exact few1 (Nat.le_trans (List.length_filter_le _ _) (by rw [List.length_take, fromN_len]; omega))
      · rw [upd_ne (ne_of_none z nD)]; exact s3 _ _ (s12 b o z)
      · rw [upd_same, take_filt g, if_pos e, List.map_append, List.map_append]; rfl
    · rw [if_neg e]
      exact ⟨s12, by rw [take_filt g, if_neg e, List.append_nil]; exact e2⟩
  · rw [List.take_of_length_le (by rw [fromN_len]; exact Nat.le_refl _)] at p
    exact hd H' p.1 p.2
end
/-- [c(x) for x in l] of truths, l a list of ints -/
theorem lc_blL {K : PySem.W.Frag} {te : TE} {c : Int → Bool} {σ : L2.St} {H1 : Hp} {a D : Addr} {v : Nat} {ns : List Int} {Qd : Hp → Prop} (hT : SqL K H1 a (ns.map V.int)) (hl : ns.length ≤ 1000) (nD : H1 D = none)
    (hte : ∀ x ∈ ns, ∀ (H' : Hp) (Q : VK), Same H1 H' → Q (.bl (c x)) H' → te ((wipe σ [v]).set v (some (.int x))) H' Q)
    (hd : ∀ H', Same H1 H' → H' D = some (.lst ((ns.map c).map V.bl)) → Qd H') :
    ∃ W : Nat → Nat → Hp → Prop, (∃ m, W 0 m (upd H1 D (.lst []))) ∧ ∀ i m H, W i m H →
      ((Itl K a).stop i H ∧ Qd H) ∨ ((Itl K a).go i H ∧ ∃ Nx : Hp → Prop, (∀ H', Nx H' → ∃ m', m' < m ∧ W (i + 1) m' H') ∧ ∀ x H', (Itl K a).yld i H x H' → gName v x (wipe σ [v]) H' fun σ2 H2 => wipe σ2 [v] = wipe σ [v] ∧ tYes σ2 H2 fun b H3 =>
        if b = true then te σ2 H3 fun y H4 => ∃ acc, H4 D = some (.lst acc) ∧ acc.length < sizeLine ∧ Nx (upd H4 D (.lst (acc ++ [y]))) else Nx H3) := by
  refine lc_list (K := K) (a := a) (xs := ns.map V.int) (fun i H' => Same H1 H' ∧ H' D = some (.lst (((ns.take i).map c).map V.bl))) ⟨same_upd nD, upd_same⟩ (fun i H' _ p => sqL_same p.1 hT) (fun i x H' hx p => ?_) fun H' p => ?_
  · obtain ⟨k, g, rfl⟩ := map_at hx
    refine ⟨by simp [wipe, List.set_set], tt_yes (hte k (List.mem_of_getElem? g) H' _ p.1 ⟨_, p.2, ?_, fun b o z => ?_, ?_⟩)⟩
    · rw [List.length_map, List.length_map, List.length_take]; exact few1 (by omega)
    · rw [upd_ne (ne_of_none z nD)]; exact p.1 b o z
    · rw [upd_same, List.take_add_one, g, List.map_append, List.map_append]; rfl
  · rw [List.length_map, List.take_of_length_le (Nat.le_refl _)] at p
    exact hd H' p.1 p.2
end RV
set_option maxHeartbeats 4000000
namespace K9
open PySem PySem.Spec PyProof.Rows L2 RV
/-! ### rings that stand -/
/-- a run: its tuple, its word's tuple, its times, its marks -/
abbrev Rk := Addr × Addr × Int × List Int
def valR (k : Rk) : Int × List Int := k.2.2
def RunOk (K : PySem.W.Frag) (H : Hp) (k : Rk) : Prop := SqT K H k.1 [.int k.2.2.1, .ref k.2.1] ∧ SqT K H k.2.1 (k.2.2.2.map V.int)
def RingAt (K : PySem.W.Frag) (H : Hp) (a : Addr) (rs : List (Int × List Int)) : Prop := ∃ ks : List Rk, ks.map valR = rs ∧ SqT K H a (ks.map fun k => V.ref k.1) ∧ ∀ k ∈ ks, RunOk K H k
theorem RunOk.same {K : PySem.W.Frag} {H H' : Hp} {k : Rk} (h : RunOk K H k) (s : Same H H') : RunOk K H' k := ⟨sqT_same s h.1, sqT_same s h.2⟩
theorem RingAt.same {K : PySem.W.Frag} {H H' : Hp} {a : Addr} {rs : List (Int × List Int)} (h : RingAt K H a rs) (s : Same H H') : RingAt K H' a rs :=
  let ⟨ks, h1, h2, h3⟩ := h; ⟨ks, h1, sqT_same s h2, fun k hk => (h3 k hk).same s⟩
theorem RingAt.pail {K : PySem.W.Frag} {H H' : Hp} {p a : Addr} {t : Nat} {rs : List (Int × List Int)} (h : RingAt K H a rs) (hp : PailAt H p t) (b : But p H H') : RingAt K H' a rs :=
  let ⟨ks, h1, h2, h3⟩ := h; ⟨ks, h1, sqT_pail hp b h2, fun k hk => ⟨sqT_pail hp b (h3 k hk).1, sqT_pail hp b (h3 k hk).2⟩⟩
/-- a ring as the law has them -/
structure Sz (rs : List (Int × List Int)) : Prop where
  few : rs.length ≤ 100
  ne : rs ≠ []
  rn : Rn rs
  wo : ∀ r ∈ rs, r.2.length ≤ 3000
section
variable {P : Program} {w : World} {K : PySem.W.Frag} {mg : Str → Option Value} {base : Heap}
/-! ### run_places -/
theorem scRunPl : FnScope ["run", "times", "marks"] ["run"] (defScope sRunPl) := ⟨rfl, rfl, rfl, by decide +kernel, rfl, by decide +kernel, by decide +kernel⟩
def spRunPl (K : PySem.W.Frag) : Sp := fun vs H Q _ => ∃ k : Rk, vs = [.ref k.1] ∧ RunOk K H k ∧ k.2.2.2.length ≤ 3000 ∧ Q (.int (rl (valR k))) H
theorem ok_runpl {f : Addr} {fd : FuncData} (F : Fun K "run_places" "run_places" sRunPl f fd) (B : Bare mg) : FnOk P w K mg base CX0 1 f fd ["run"] (spRunPl K) := by
  refine F.ok scRunPl (fun vs H Q E h => ?_) (fun cdv A outer s H vs Q E hr h => ?_)
  · obtain ⟨k, rfl, _⟩ := h
    rfl
  · obtain ⟨k, rfl, hk, hl, q⟩ := h
    refine ⟨_, pss_cons (ps_asg (pv 0) (pg_tup (by rfl) (pgs_cons (pg_name (i := 1) scRunPl.nd rfl (Or.inl rfl)) (pgs_cons (pg_name (i := 2) scRunPl.nd rfl (Or.inl rfl)) pgs_nil))))
      (pss_one (ps_ret (pe_op op_mul (pv 1) (pe_callB call_len_seq (by rfl) B.len PySem.boot_len (pa_cons (pv 2) pa_nil))))), ?_⟩
    refine ⟨.ref k.1, rfl, k.1, _, rfl, hk.1, rfl, _, _, rfl, _, _, rfl, rfl, ?_⟩
    refine ⟨.int k.2.2.1, rfl, .ref k.2.1, rfl, k.2.1, _, rfl, .inr hk.2, _, _, rfl, rfl, .inr ?_, ?_⟩
    · rw [List.length_map]; omega
    · rw [List.length_map]; exact q
/-! ### places -/
theorem scRPlaces : FnScope ["ring", "run"] ["ring"] (defScope sRPlaces) := ⟨rfl, rfl, rfl, by decide +kernel, rfl, by decide +kernel, by decide +kernel⟩
def spRPlaces (K : PySem.W.Frag) : Sp := fun vs H Q _ => ∃ (a : Addr) (rs : List (Int × List Int)), vs = [.ref a] ∧ RingAt K H a rs ∧ rs.length ≤ 200 ∧ (∀ r ∈ rs, r.2.length ≤ 3000) ∧ ∀ H', Same H H' → Q (.int (pl rs)) H'
theorem ok_rplaces {f fR : Addr} {fd dR : FuncData} (F : Fun K "places" "places" sRPlaces f fd) (B : Bare mg) (DR : DefAt K mg "run_places" sRunPl ["run"] fR dR) : FnOk P w K mg base CX0 2 f fd ["ring"] (spRPlaces K) := by
  have GR : FnOk P w K mg base CX0 1 fR dR ["run"] (spRunPl K) := ok_runpl DR.fn B
  refine F.ok scRPlaces (fun vs H Q E h => ?_) (fun cdv A outer s H vs Q E hr h => ?_)
  · obtain ⟨a, rs, rfl, _⟩ := h
    rfl
  · obtain ⟨a, rs, rfl, ⟨ks, rfl, hT, hk⟩, hl, hw, q⟩ := h
    rw [List.length_map] at hl
    refine ⟨_, pss_one (ps_ret (pe_callB (cr_sum rfl) (by rfl) B.sum (by decide +kernel) (pa_cons
        (pe_lc (own := [("run", 1)]) (g := gName 1) (tt := tYes) rfl scRPlaces.nd (pi_tup (pv 0)) (blkOk_by (N := ["ring", "run"]) (sc := defScope sRPlaces) (by decide +kernel))
          (fun _ _ _ _ _ => pg_name (i := 1) scRPlaces.nd rfl (Or.inl rfl)) (fun _ _ _ _ _ => pts_nil) (fun _ _ _ _ _ => pe_call GR hr (by rfl) DR.mg DR.fn.kp DR.bi .nil pass0 (pa_cons (pv 1) pa_nil))) pa_nil))), ?_⟩
    refine ⟨.ref a, rfl, a, rfl, ⟨_, hT⟩, fun D nD => ?_⟩
    refine lc_tup (K := K) (a := a) (xs := ks.map fun k => V.ref k.1) (fun i H' => Same H H' ∧ H' D = some (.lst (((ks.take i).map fun k => rl (valR k)).map V.int))) ⟨same_upd nD, upd_same⟩ (fun i H' _ p => sqT_same p.1 hT) (fun i x H' hx p => ?_) fun H' p => ?_
    · obtain ⟨k, g, rfl⟩ := map_at hx
      have hm := List.mem_of_getElem? g
      refine ⟨rfl, tt_yes ⟨.ref k.1, rfl, k, rfl, (hk k hm).same p.1, hw _ (List.mem_map_of_mem hm), _, p.2, ?_, fun b o e => ?_, ?_⟩⟩
      · rw [List.length_map, List.length_map, List.length_take]; exact few1 (by omega)
      · rw [upd_ne (ne_of_none e nD)]; exact p.1 b o e
      · rw [upd_same, List.take_add_one, g, List.map_append, List.map_append]; rfl
    · rw [List.length_map, List.take_of_length_le (Nat.le_refl _)] at p
      refine ⟨D, _, rfl, lstNew p.2, ?_⟩
      have e : (ks.map fun k => rl (valR k)).sum = pl (ks.map valR) := by unfold pl; rw [List.map_map]; rfl
      rw [e]
      exact q H' p.1
/-! ### spot -/
/-- the run and how far in it a place stands -/
structure At (rs : List (Int × List Int)) (place : Int) (at_ : Nat) (ins : Int) : Prop where
  run : ∃ r, rs[at_]? = some r ∧ ins < rl r
  nn : 0 ≤ ins
  eq : place % pl rs = pl (rs.take at_) + ins
theorem scSpot : FnScope ["ring", "place", "at", "inside"] ["ring", "place"] (defScope sSpot) := ⟨rfl, rfl, rfl, by decide +kernel, rfl, by decide +kernel, by decide +kernel⟩
def spSpot (K : PySem.W.Frag) : Sp := fun vs H Q _ => ∃ (a : Addr) (place : Int) (rs : List (Int × List Int)), vs = [.ref a, .int place] ∧ RingAt K H a rs ∧ Sz rs ∧
  ∀ (H' : Hp) (T : Addr) (at_ : Nat) (ins : Int), Same H H' → H' T = some (.tup [.int (at_ : Int), .int ins]) → At rs place at_ ins → Q (.ref T) H'
def atSp : L2.St → Nat
  | [_, _, some (.int a), _] => 100 - a.toNat
  | _ => 0
theorem pl_take_next {rs : List (Int × List Int)} {i : Nat} {r : Int × List Int} (h : rs[i]? = some r) : pl (rs.take (i + 1)) = pl (rs.take i) + rl r := by
  rw [List.take_add_one, h, pl_app]
  show pl (rs.take i) + pl [r] = _
  rw [pl_cons]; show _ + (rl r + 0) = _; omega
theorem ok_spot {f fR fP : Addr} {fd dR dP : FuncData} (F : Fun K "spot" "spot" sSpot f fd) (B : Bare mg) (DR : DefAt K mg "run_places" sRunPl ["run"] fR dR) (DP : DefAt K mg "places" sRPlaces ["ring"] fP dP) : FnOk P w K mg base CX0 3 f fd ["ring", "place"] (spSpot K) := by
  have GR : FnOk P w K mg base CX0 1 fR dR ["run"] (spRunPl K) := ok_runpl DR.fn B
  have GP : FnOk P w K mg base CX0 2 fP dP ["ring"] (spRPlaces K) := ok_rplaces DP.fn B DR
  refine F.ok scSpot (fun vs H Q E h => ?_) (fun cdv A outer s H vs Q E hr h => ?_)
  · obtain ⟨a, place, rs, rfl, _⟩ := h
    rfl
  · obtain ⟨a, place, rs, rfl, hR, hz, q⟩ := h
    have r1 := hr.mono (show 1 ≤ 2 by decide)
    have hp := hz.rn.pos hz.ne
    have hfew := hz.few
    refine ⟨_, pss_cons (ps_set (i := 2) scSpot.nd rfl (Or.inl rfl) pe_int)
      (pss_cons (ps_set (i := 3) scSpot.nd rfl (Or.inl rfl) (pe_op op_mod (pv 1) (pe_call GP hr (by rfl) DP.mg DP.fn.kp DP.bi .nil pass0 (pa_cons (pv 0) pa_nil))))
      (pss_cons (ps_while PassesOwn.never (pt_cmpR op_ge (pv 3) (pe_call GR r1 (by rfl) DR.mg DR.fn.kp DR.bi .nil pass0 (pa_cons (pe_ix ix_tup (pv 0) (pv 2) (fun _ _ => rfl)) pa_nil)) (nomark _))
        (pss_cons (ps_aug (i := 3) scSpot.nd rfl (.inl rfl) (pe_call GR r1 (by rfl) DR.mg DR.fn.kp DR.bi .nil pass0 (pa_cons (pe_ix ix_tup (pv 0) (pv 2) (fun _ _ => rfl)) pa_nil)) ip_sub)
        (pss_one (ps_aug (i := 2) scSpot.nd rfl (.inl rfl) pe_int ip_add))))
      (pss_one (ps_ret (pe_tup (pa_cons (pv 2) (pa_cons (pv 3) pa_nil))))))), ?_⟩
    refine ⟨.int place, rfl, .ref a, rfl, a, rs, rfl, hR, by omega, hz.wo, fun H1 s1 => ⟨place, pl rs, rfl, rfl, hp, ?_⟩⟩
    have m0 := Int.emod_nonneg place (show pl rs ≠ 0 by omega)
    have m1 := Int.emod_lt_of_pos place hp
    obtain ⟨ks, ek, hT, hk⟩ := hR.same s1
    have lk : ks.length = rs.length := by rw [← ek, List.length_map]
    -- the run at a place
    have get : ∀ i, i < rs.length → ∃ k, ks[i]? = some k ∧ rs[i]? = some (valR k) := fun i hi => by
      have z : i < ks.length := by omega
      exact ⟨ks[i], List.getElem?_eq_getElem z, by rw [← ek, List.getElem?_map, List.getElem?_eq_getElem z]; rfl⟩
    have inR : ∀ {i : Nat} {x : Int}, i ≤ rs.length → 0 ≤ x → place % pl rs = pl (rs.take i) + x → i < rs.length := fun {i x} h1 h2 h3 => by
      rcases Nat.lt_or_ge i rs.length with z | z
      · exact z
      · rw [List.take_of_length_le z] at h3; omega
    refine while_by (fun σ H' => ∃ (i : Nat) (x : Int), σ = [some (.ref a), some (.int place), some (.int (i : Int)), some (.int x)] ∧ H' = H1 ∧ i ≤ rs.length ∧ 0 ≤ x ∧ place % pl rs = pl (rs.take i) + x)
      (fun σ _ => atSp σ) ?_ ?_ ?_
    · exact ⟨0, place % pl rs, rfl, rfl, Nat.zero_le _, m0, by show _ = 0 + _; omega⟩
    · rintro σ H2 ⟨i, x, rfl, rfl, hi, hx, e⟩
      have hi2 := inR hi hx e
      obtain ⟨k, g, gr⟩ := get i hi2
      have km := List.mem_of_getElem? g
      have gk : (ks.map fun k => V.ref k.1)[i]? = some (.ref k.1) := by rw [List.getElem?_map, g]; rfl
      have kw : k.2.2.2.length ≤ 3000 := hz.wo _ (List.mem_of_getElem? gr)
      refine ⟨.int x, rfl, .ref a, rfl, .int (i : Int), rfl, a, _, _, .ref k.1, rfl, rfl, hT, atI_nat gk, k, rfl, hk k km, kw, _, _, rfl, rfl, _, rfl, ite2 (fun hge => ?_) (fun hlt => ?_)⟩
      · have hge := of_decide_eq_true hge
        refine ⟨.int x, rfl, .ref a, rfl, .int (i : Int), rfl, a, _, _, .ref k.1, rfl, rfl, hT, atI_nat gk, k, rfl, hk k km, kw, _, _, rfl, rfl, ?_⟩
        refine ⟨.int (i : Int), rfl, _, _, rfl, rfl, ?_⟩
        refine ⟨⟨i + 1, x - rl (valR k), rfl, rfl, by omega, by omega, ?_⟩, ?_⟩
        · rw [pl_take_next gr, e]; omega
        · show 100 - ((i : Int) + 1).toNat < 100 - (i : Int).toNat
          omega
      · have hlt := of_decide_eq_false (eq_false_of_ne_true hlt)
        refine ⟨.int (i : Int), rfl, .int x, rfl, (by show 2 ≤ sizeLine; decide), fun T nT => ?_⟩
        exact q _ T i x (s1.trans (same_upd nT)) upd_same ⟨⟨_, gr, by omega⟩, hx, e⟩
    · intro σ H1 Q1 Q2 hq h
      obtain ⟨v, e, a1, e1, i1, e2, a2, xs2, i2, v2, e3, e4, h1, h2, k, e5, h3, h4, i3, i4, e6, e7, b, e8, h5⟩ := h
      exact ⟨v, e, a1, e1, i1, e2, a2, xs2, i2, v2, e3, e4, h1, h2, k, e5, h3, h4, i3, i4, e6, e7, b, e8, hq _ _ h5⟩
end
end K9
set_option maxHeartbeats 4000000
namespace RV
open PySem PySem.Spec PyProof.Rows L2
section
variable {X : Cx} {K : PySem.W.Frag}
/-- t + u of any two tuples, wherever the sum stands -/
def rCatW (K : PySem.W.Frag) : R2 := fun x y H Q => ∃ a b xs ys, x = .ref a ∧ y = .ref b ∧ SqT K H a xs ∧ SqT K H b ys ∧ xs.length + ys.length ≤ sizeLine ∧ ∀ (p : Addr) (H' : Hp), Same H H' → SqT K H' p (xs ++ ys) → Q (.ref p) H'
theorem op_catW : OpR X (binaryOp .Add) (rCatW X.K) := by
  intro pins s σ H x y v u Q I rx ry h
  obtain ⟨a, b, xs, ys, e1, e2, h1, h2, hl, q⟩ := h
  refine op_catA pins s σ H x y v u Q I rx ry ⟨a, b, xs, ys, e1, e2, h1, h2, hl, fun z => ?_, fun _ z => ?_, fun _ _ p np => ?_⟩
  · exact q b H (fun _ _ e => e) (by rw [z]; exact h2)
  · exact q a H (fun _ _ e => e) (by rw [z, List.append_nil]; exact h1)
  · exact q p _ (same_upd np) (tupNew upd_same)
theorem op_catWK (h : X.K = K) : OpR X (binaryOp .Add) (rCatW K) := h ▸ op_catW
/-- t[lo:hi], wherever the slice stands -/
def rSlW (K : PySem.W.Frag) : V → Option Int → Option Int → Hp → VK → Prop := fun x lo hi H Q => ∃ a xs, x = .ref a ∧ SqT K H a xs ∧ ∀ (p : Addr) (H' : Hp), Same H H' → SqT K H' p (cutV xs lo hi) → Q (.ref p) H'
theorem sl_tupW : SlR X (rSlW X.K) := by
  intro pins s σ H x v vl vu lo hi sl Q I rx hs pl pu h
  obtain ⟨a, xs, e, h1, q⟩ := h
  refine sl_tupA pins s σ H x v vl vu lo hi sl Q I rx hs pl pu ⟨a, xs, e, h1, fun z => ?_, fun _ p np => ?_⟩
  · refine q a H (fun _ _ e => e) ?_
    unfold cutV
    rw [z.1, z.2, List.drop_zero, Nat.sub_zero, List.take_of_length_le (Nat.le_refl _)]
    exact h1
  · exact q p _ (same_upd np) (tupNew upd_same)
theorem sl_tupWK (h : X.K = K) : SlR X (rSlW K) := h ▸ sl_tupW
theorem cut_from (xs : List V) (k : Nat) : cutV xs (some (k : Int)) none = xs.drop k := by
  unfold cutV
  rw [HT.sIx_nat, HT.sIx_none]
  rcases Nat.le_total k xs.length with h | h
  · rw [Nat.min_eq_left h, List.take_of_length_le (by rw [List.length_drop]; exact Nat.le_refl _)]
  · rw [Nat.min_eq_right h, Nat.sub_self, List.take_zero, List.drop_eq_nil_of_le h]
theorem cut_to (xs : List V) (k : Nat) : cutV xs none (some (k : Int)) = xs.take k := by
  unfold cutV
  rw [HT.sIx_nat, HT.sIx_none, List.drop_zero, Nat.sub_zero]
  rcases Nat.le_total k xs.length with h | h
  · rw [Nat.min_eq_left h]
  · rw [Nat.min_eq_right h, List.take_of_length_le (Nat.le_refl _), List.take_of_length_le h]
theorem tuple_mul1 (l : Addr) (items : Array Value) (n : Nat) (dd : Option Addr) (sl : Array (Option Value)) (x : Int) (u : Tok) (c0 : (decide (x < -(2 ^ 63)) || decide (x ≥ 2 ^ 63)) = false) (c1 : (items.isEmpty || x == 1) = true) :
    Meets (Builtin.«tuple.__mul__» ⟨[.ref l, .int x u], []⟩) (fun _ R s => s.heap.get? l = some { cls := .type "tuple", dict := dd, data := .seq items n, slots := sl } ∧ R (.ok (.ret (Value.ref l))) s) :=
  .of_wp fun prog w A R s h => by
    obtain ⟨hp, g, d, tk, os⟩ := s
    obtain ⟨hl, h⟩ := h
    have f1 := AutoSeq1.idx_int
    wp_walk using wpAny_loadPart' hl
    repeat (first
      | (refine wpAny_ite_false (decide_eq_false (by rw [c0]; exact Bool.false_ne_true)) ?_; wp_walk using wpAny_loadPart' hl)
      | (refine wpAny_ite_true (decide_eq_true (by rw [c1])) ?_; wp_walk using wpAny_loadPart' hl))
    exact ⟨_, rfl, h⟩
theorem tuple_mul0 (l : Addr) (items : Array Value) (n : Nat) (dd : Option Addr) (sl : Array (Option Value)) (x : Int) (u : Tok) (c0 : (decide (x < -(2 ^ 63)) || decide (x ≥ 2 ^ 63)) = false) (c1 : (items.isEmpty || x == 1) = false) (c2 : (decide (x ≤ 0) || items.isEmpty) = true) :
    Meets (Builtin.«tuple.__mul__» ⟨[.ref l, .int x u], []⟩) (fun _ R s => s.heap.get? l = some { cls := .type "tuple", dict := dd, data := .seq items n, slots := sl } ∧ R (.ok (.ret (Value.ref s.heap.objs.size))) { s with heap := s.heap.push { cls := Value.type "tuple", data := Data.seq #[] }, toks := s.toks }) :=
  .of_wp fun prog w A R s h => by
    obtain ⟨hp, g, d, tk, os⟩ := s
    obtain ⟨hl, h⟩ := h
    have f1 := AutoSeq1.idx_int
    wp_walk using wpAny_loadPart' hl
    repeat (first
      | (refine wpAny_ite_false (decide_eq_false (by rw [c0]; exact Bool.false_ne_true)) ?_; wp_walk using wpAny_loadPart' hl)
      | (refine wpAny_ite_false (decide_eq_false (by rw [c1]; exact Bool.false_ne_true)) ?_; wp_walk using wpAny_loadPart' hl)
      | (refine wpAny_ite_true (decide_eq_true (by rw [c2])) ?_; wp_walk using wpAny_loadPart' hl))
    exact ⟨_, rfl, h⟩
/-- t * k, k from 0 on -/
def rRepW (K : PySem.W.Frag) : R2 := fun x y H Q => ∃ l k xs, x = .ref l ∧ y = .int k ∧ SqT K H l xs ∧ 0 ≤ k ∧ k ≤ 1000 ∧ xs.length ≤ 1000 ∧ ∀ (p : Addr) (H' : Hp), Same H H' → SqT K H' p (List.replicate k.toNat xs).flatten → Q (.ref p) H'
theorem flat_nil : ∀ m : Nat, (List.replicate m ([] : List V)).flatten = []
  | 0 => rfl
  | m + 1 => by rw [List.replicate_succ, List.flatten_cons, flat_nil m]; rfl
theorem op_repW : OpR X (binaryOp .Mult) (rRepW X.K) := by
  intro pins s σ H x y v u Q I rx ry h
  obtain ⟨l, k, xs, rfl, rfl, hT, h0, h1, hz, q⟩ := h
  by_cases hbig : xs ≠ [] ∧ 2 ≤ k
  · exact op_repT pins s σ H _ _ v u Q I rx ry ⟨l, k, xs, rfl, rfl, hT, hbig.1, hbig.2, h1, hz, fun p np => q p _ (same_upd np) (tupNew upd_same)⟩
  cases rx
  obtain ⟨t, rfl⟩ := ry
  obtain ⟨its, r, ⟨⟨cls, dd, data, sl⟩, ho, hc, n, hd⟩, hs⟩ := I.tuple hT
  simp only at hc hd
  subst hc hd
  have hle : its.length = xs.length := r.length.symm
  have c0 : (decide (k < -(2 ^ 63)) || decide (k ≥ 2 ^ 63)) = false := by
    rw [decide_eq_false (by omega), decide_eq_false (by omega)] <;> rfl
  by_cases e1 : xs = [] ∨ k = 1
  · have c1 : (its.toArray.isEmpty || k == 1) = true := by
      rcases e1 with e | e
      · have : its = [] := List.eq_nil_of_length_eq_zero (by rw [hle, e]; rfl)
        rw [this]; rfl
      · rw [e]; simp
    refine wpAny_binaryOp_repeat_ref (T := "tuple") (U := "int") (by decide) ⟨_, ho, rfl⟩ (fun s' => typeIs_int s' k t) noFill_tuple_mul F.fills_int_mul F.slot_int_rmul repeat_tuple F.slot_int_index.lookup
      (call_meets F.slot_int_rmul (typeIs_int s k t) F.entry_int_rmul (F.args_int_rmul_2 _ _) (int_rmul_tuple k t l its.toArray n dd sl)
        ⟨ho, rfl, ⟨_, ho, rfl⟩, call_meets F.slot_tuple_mul ⟨_, ho, rfl⟩ F.entry_tuple_mul (F.args_tuple_mul_2 _ _) (tuple_mul1 l its.toArray n dd sl k t c0 c1) ⟨ho, ?_⟩⟩)
    refine ⟨.ref l, H, I, rfl, q l H (fun _ _ e => e) ?_⟩
    rcases e1 with e | e
    · subst e; rw [flat_nil]; exact hT
    · subst e
      show SqT X.K H l ([xs].flatten)
      rw [List.flatten_cons, List.flatten_nil, List.append_nil]; exact hT
  · have e2 : xs ≠ [] := fun e => e1 (.inl e)
    have e3 : k = 0 := by
      rcases Int.lt_or_le k 2 with z | z
      · have : k ≠ 1 := fun e => e1 (.inr e)
        omega
      · exact absurd ⟨e2, z⟩ hbig
    have hi : its.toArray.isEmpty = false := by
      cases its with
      | nil => exact absurd (List.eq_nil_of_length_eq_zero hle.symm) e2
      | cons a b => rfl
    have c1 : (its.toArray.isEmpty || k == 1) = false := by
      rw [hi, e3]; rfl
    have c2 : (decide (k ≤ 0) || its.toArray.isEmpty) = true := by
      rw [e3]; rfl
    refine wpAny_binaryOp_repeat_ref (T := "tuple") (U := "int") (by decide) ⟨_, ho, rfl⟩ (fun s' => typeIs_int s' k t) noFill_tuple_mul F.fills_int_mul F.slot_int_rmul repeat_tuple F.slot_int_index.lookup
      (call_meets F.slot_int_rmul (typeIs_int s k t) F.entry_int_rmul (F.args_int_rmul_2 _ _) (int_rmul_tuple k t l its.toArray n dd sl)
        ⟨ho, rfl, ⟨_, ho, rfl⟩, call_meets F.slot_tuple_mul ⟨_, ho, rfl⟩ F.entry_tuple_mul (F.args_tuple_mul_2 _ _) (tuple_mul0 l its.toArray n dd sl k t c0 c1 c2) ⟨ho, ?_⟩⟩)
    refine ⟨.ref s.heap.objs.size, _, I.laid (t' := s.toks) (o := .tup []) (fun b ob q => Heap.get?_push_of_some _ q) (Nat.le_refl _) ?_, rfl, q _ _ (same_upd (I.hok.fresh (Nat.le_refl _))) (by rw [e3]; exact tupNew upd_same)⟩
    exact ⟨Nat.zero_le _, [], .nil, IsTup.new _ _⟩
theorem op_eqI1K (h : X.K = K) (hu : X.A.units + 64 < cLine) : OpR X (compareOp .Eq) (rEqI1 K) := h ▸ op_eqI1 hu
theorem op_repWK (h : X.K = K) : OpR X (binaryOp .Mult) (rRepW K) := h ▸ op_repW
end
/-- [h(x) for x in t], t a tuple of ints -/
theorem lc_mapT {K : PySem.W.Frag} {te : TE} {h : Int → Int} {σ : L2.St} {H1 : Hp} {a D : Addr} {v : Nat} {ns : List Int} {Qd : Hp → Prop} (hT : SqT K H1 a (ns.map V.int)) (hl : ns.length ≤ 1000) (nD : H1 D = none)
    (hte : ∀ x ∈ ns, ∀ (H' : Hp) (Q : VK), Same H1 H' → (∀ H2, Same H' H2 → Q (.int (h x)) H2) → te ((wipe σ [v]).set v (some (.int x))) H' Q)
    (hd : ∀ H', Same H1 H' → H' D = some (.lst ((ns.map h).map V.int)) → Qd H') :
    ∃ W : Nat → Nat → Hp → Prop, (∃ m, W 0 m (upd H1 D (.lst []))) ∧ ∀ i m H, W i m H →
      ((Itt K a).stop i H ∧ Qd H) ∨ ((Itt K a).go i H ∧ ∃ Nx : Hp → Prop, (∀ H', Nx H' → ∃ m', m' < m ∧ W (i + 1) m' H') ∧ ∀ x H', (Itt K a).yld i H x H' → gName v x (wipe σ [v]) H' fun σ2 H2 => wipe σ2 [v] = wipe σ [v] ∧ tYes σ2 H2 fun b H3 =>
        if b = true then te σ2 H3 fun y H4 => ∃ acc, H4 D = some (.lst acc) ∧ acc.length < sizeLine ∧ Nx (upd H4 D (.lst (acc ++ [y]))) else Nx H3) := by
  refine lc_tup (K := K) (a := a) (xs := ns.map V.int) (fun i H' => Same H1 H' ∧ H' D = some (.lst (((ns.take i).map h).map V.int))) ⟨same_upd nD, upd_same⟩ (fun i H' _ p => sqT_same p.1 hT) (fun i x H' hx p => ?_) fun H' p => ?_
  · obtain ⟨k, g, rfl⟩ := map_at hx
    refine ⟨by simp [wipe, List.set_set], tt_yes (hte k (List.mem_of_getElem? g) H' _ p.1 fun H2 s2 => ⟨_, s2 _ _ p.2, ?_, fun b o z => ?_, ?_⟩)⟩
    · rw [List.length_map, List.length_map, List.length_take]; exact few1 (by omega)
    · rw [upd_ne (ne_of_none z nD)]; exact s2 _ _ (p.1 b o z)
    · rw [upd_same, List.take_add_one, g, List.map_append, List.map_append]; rfl
  · rw [List.length_map, List.take_of_length_le (Nat.le_refl _)] at p
    exact hd H' p.1 p.2
end RV
set_option maxHeartbeats 4000000
namespace RV
open PySem PySem.Spec PyProof.Rows L2
/-! ### xs.extend(t), t a tuple; t * k of any size -/
theorem ext_tup (l : Addr) (xa : Array Value) (n : Nat) (b : Addr) (xb : Array Value) (n2 : Nat) (dd : Option Addr) (sl : Array (Option Value)) (c1 : ¬(!xa.isEmpty && Builtin.List.listTooLong (xa.size + xb.size)) = true) (c2 : xa.size ≤ sizeLine) (c3 : xa.size + xb.size ≤ sizeLine + 1) :
    Meets (Builtin.«list.extend» ⟨[.ref l, .ref b], []⟩) (fun _ R s => s.heap.get? l = some { cls := .type "list", dict := none, data := .seq xa n, slots := #[] } ∧ s.heap.get? b = some { cls := .type "tuple", dict := dd, data := .seq xb n2, slots := sl } ∧ R (.ok (.ret Value.none)) { s with heap := s.heap.update l (Obj.mapSeq fun x => x ++ xb), toks := s.toks }) :=
  .of_wp fun _ _ _ _ sh hh => by
    obtain ⟨_, _, _, _, _⟩ := sh
    obtain ⟨hl, hb, h⟩ := hh
    have q1 := AutoSeq1.idx_int
    have q2 := AutoSeq1.sub_tuple_tuple
    have q3 := AutoSeq1.sub_list_list
    have q4 := AutoSeq1.sub_tuple_list
    have q5 := AutoSeq1.sub_list_tuple
    have c4 : (xa ++ xb).size ≤ sizeLine + 1 := by
      rw [Array.size_append]
      exact c3
    wp_walk using (wpAny_updateSeq hl rfl (hz := c2) (_hz' := c4)), AutoSeq1.wpAny_loadPart' hl, AutoSeq1.wpAny_loadPart' hb
    exact ⟨_, rfl, h⟩
section
variable {X : Cx} {K : PySem.W.Frag}
def rExtendT (K : PySem.W.Frag) : V → List V → Hp → VK → Prop := fun x vs H Q => ∃ l b xs zs, x = .ref l ∧ vs = [.ref b] ∧ H l = some (.lst xs) ∧ SqT K H b zs ∧ xs.length + zs.length ≤ sizeLine ∧ Q .non (upd H l (.lst (xs ++ zs)))
theorem mt_extendT : MtM X "list.extend" (rExtendT X.K) := by
  intro pins s σ H x vs v us Q I rx rv h
  obtain ⟨l, b, xs, zs, rfl, rfl, hH, hB, hz, q⟩ := h
  cases rx
  obtain ⟨u, rfl, ru⟩ := rv.one
  cases ru
  obtain ⟨z, its, n, r, hl, e⟩ := I.lstM hH
  obtain ⟨jts, r2, ⟨⟨cls, dd, data, sl⟩, e2, hc, n2, hd⟩, hl2⟩ := I.tuple hB
  simp only at hc hd
  subst hc hd
  have le2 := r2.length
  have le1 := r.length
  have hsz : its.toArray.size + jts.toArray.size ≤ sizeLine := by simp only [List.size_toArray]; omega
  have hlong : ¬ (!its.toArray.isEmpty && Builtin.List.listTooLong (its.toArray.size + jts.toArray.size)) = true := by
    rw [notLongL hsz, Bool.and_false]; simp
  refine call_meets F.slot_list_extend ⟨_, e, rfl⟩ F.entry_list_extend (F.args_list_extend_2 _ _) (ext_tup l its.toArray n b jts.toArray n2 dd sl hlong (by rw [List.size_toArray]; omega) (by omega)) ⟨e, e2, ?_⟩
  refine ⟨.non, _, I.lset (its' := its ++ jts) hH e (by simp) (r.append r2) ?_, rfl, q⟩
  rw [List.length_append]; omega
/-- t * k of any size, k from 2 on, t not empty -/
theorem op_repC {Q : VK} {pins : List (Addr × Obj)} {s : Shared} {σ : L2.St} {H : Hp} {l : Addr} {k : Int} {t : Tok} {xs : List V} (I : Inv X pins σ H s) (hT : SqT X.K H l xs) (hne : xs ≠ []) (h1 : 2 ≤ k) (hz : xs.length * k.toNat ≤ 1000000)
    (q : ∀ p, H p = none → Q (.ref p) (upd H p (.tup (List.replicate k.toNat xs).flatten))) : wpAny (model X.prog X.w) X.A (binaryOp .Mult (.ref l) (.int k t)) (EP X pins σ Q) X.xe s := by
  obtain ⟨its, r, ⟨⟨cls, dd, data, sl⟩, ho, hc, n, hd⟩, hs⟩ := I.tuple hT
  simp only at hc hd
  subst hc hd
  have hle : xs.length = its.length := r.length
  have l1 : 1 ≤ xs.length := List.length_pos_iff.mpr hne
  have hk : k.toNat ≤ 1000000 := by
    have : 1 * k.toNat ≤ xs.length * k.toNat := Nat.mul_le_mul_right _ l1
    omega
  have hi : its.toArray.isEmpty = false := by
    cases its with
    | nil => rw [List.length_nil] at hle; omega
    | cons a b => rfl
  have hm : ((its.toArray.size : Nat) : Int) * k ≤ 1000000 := by
    rw [List.size_toArray, ← hle, show k = ((k.toNat : Nat) : Int) by omega, ← Int.natCast_mul]; omega
  have flen : (List.replicate k.toNat its).flatten.length ≤ sizeLine := by
    rw [PyProof.Rows.lm_len_rep_flat, ← hle, sizeLine_eq, Nat.mul_comm]; omega
  have c0 : (decide (k < -(2 ^ 63)) || decide (k ≥ 2 ^ 63)) = false := by
    rw [Bool.or_eq_false_iff]; exact ⟨decide_eq_false (by omega), decide_eq_false (by omega)⟩
  have c1 : (its.toArray.isEmpty || k == 1) = false := by
    rw [Bool.or_eq_false_iff]; exact ⟨hi, beq_eq_false_iff_ne.mpr (by omega)⟩
  have c2 : (decide (k ≤ 0) || its.toArray.isEmpty) = false := by
    rw [Bool.or_eq_false_iff]; exact ⟨decide_eq_false (by omega), hi⟩
  have c4 : Builtin.Tuple.tupleTooMany (((its.toArray.size : Nat) : Int) * k) = false := by
    simp only [Builtin.Tuple.tupleTooMany, sizeLine_eq]; exact decide_eq_false (by omega)
  refine wpAny_binaryOp_repeat_ref (T := "tuple") (U := "int") (by decide) ⟨_, ho, rfl⟩ (fun s' => typeIs_int s' k t) noFill_tuple_mul F.fills_int_mul F.slot_int_rmul repeat_tuple F.slot_int_index.lookup (call_meets F.slot_int_rmul (typeIs_int s k t) F.entry_int_rmul (F.args_int_rmul_2 _ _) (int_rmul_tuple k t l its.toArray n dd sl) ⟨ho, rfl, ⟨_, ho, rfl⟩, ?_⟩)
  refine call_meets F.slot_tuple_mul ⟨_, ho, rfl⟩ F.entry_tuple_mul (F.args_tuple_mul_2 _ _) (tuple_mulW l its.toArray n dd sl k t c0 c1 c2 (by omega) c4 (by rw [size_rep, List.size_toArray]; exact flen)) ⟨ho, ?_⟩
  rw [size_rep]
  refine ⟨.ref s.heap.objs.size, _, I.laid (t' := s.toks) (o := .tup (List.replicate k.toNat xs).flatten) (fun b ob q => Heap.get?_push_of_some _ q) (Nat.le_refl _) ?_, rfl, q _ (I.hok.fresh (Nat.le_refl _))⟩
  refine ⟨?_, _, r.rep k.toNat, IsTup.new _ _⟩
  rw [PyProof.Rows.lm_len_rep_flat, sizeLine_eq, Nat.mul_comm]; omega
/-- t * k of any size, k from 0 on -/
def rRepB (K : PySem.W.Frag) : R2 := fun x y H Q => ∃ l k xs, x = .ref l ∧ y = .int k ∧ SqT K H l xs ∧ 1 ≤ k ∧ xs ≠ [] ∧ xs.length * k.toNat ≤ 1000000 ∧ ∀ (p : Addr) (H' : Hp), Same H H' → SqT K H' p (List.replicate k.toNat xs).flatten → Q (.ref p) H'
theorem op_repB : OpR X (binaryOp .Mult) (rRepB X.K) := by
  intro pins s σ H x y v u Q I rx ry h
  obtain ⟨l, k, xs, rfl, rfl, hT, h0, hne, hz, q⟩ := h
  cases rx
  obtain ⟨t, rfl⟩ := ry
  by_cases h2 : 2 ≤ k
  · exact op_repC I hT hne h2 hz fun p np => q p _ (same_upd np) (tupNew upd_same)
  have e : k = 1 := by omega
  subst e
  obtain ⟨its, r, ⟨⟨cls, dd, data, sl⟩, ho, hc, n, hd⟩, hs⟩ := I.tuple hT
  simp only at hc hd
  subst hc hd
  refine wpAny_binaryOp_repeat_ref (T := "tuple") (U := "int") (by decide) ⟨_, ho, rfl⟩ (fun s' => typeIs_int s' 1 t) noFill_tuple_mul F.fills_int_mul F.slot_int_rmul repeat_tuple F.slot_int_index.lookup (call_meets F.slot_int_rmul (typeIs_int s 1 t) F.entry_int_rmul (F.args_int_rmul_2 _ _) (int_rmul_tuple 1 t l its.toArray n dd sl) ⟨ho, rfl, ⟨_, ho, rfl⟩, ?_⟩)
  refine call_meets F.slot_tuple_mul ⟨_, ho, rfl⟩ F.entry_tuple_mul (F.args_tuple_mul_2 _ _) (tuple_mul1 l its.toArray n dd sl 1 t (by decide) (by simp)) ⟨ho, ?_⟩
  refine ⟨.ref l, H, I, rfl, q l H (fun _ _ e => e) ?_⟩
  show SqT X.K H l ([xs].flatten)
  rw [List.flatten_cons, List.flatten_nil, List.append_nil]; exact hT
end
end RV
namespace RV
/-- so many marks from the place q on -/
def fst (l : List Int) (q : Int) (n : Nat) : List Int := (List.range n).map fun (i : Nat) => mP l (q + (i : Int))
theorem fst_len (l : List Int) (q : Int) (n : Nat) : (fst l q n).length = n := by unfold fst; rw [List.length_map, List.length_range]
theorem fst_get {l : List Int} {q : Int} {n i : Nat} (h : i < n) : (fst l q n)[i]? = some (mP l (q + (i : Int))) := by
  unfold fst; rw [List.getElem?_map, List.getElem?_range h]; rfl
theorem fst_add (l : List Int) (q : Int) (n m : Nat) : fst l q (n + m) = fst l q n ++ fst l (q + (n : Int)) m := by
  apply List.ext_getElem?
  intro i
  rcases Nat.lt_or_ge i n with h | h
  · rw [List.getElem?_append_left (by rw [fst_len]; exact h), fst_get h, fst_get (by omega)]
  · rw [List.getElem?_append_right (by rw [fst_len]; exact h), fst_len]
    rcases Nat.lt_or_ge i (n + m) with h2 | h2
    · rw [fst_get h2, fst_get (by omega), show q + (n : Int) + ((i - n : Nat) : Int) = q + (i : Int) by omega]
    · rw [List.getElem?_eq_none (by rw [fst_len]; exact h2), List.getElem?_eq_none (by rw [fst_len]; omega)]
theorem fst_all {l : List Int} : fst l 0 l.length = l := by
  apply List.ext_getElem?
  intro i
  rcases Nat.lt_or_ge i l.length with h | h
  · rw [fst_get h, Int.zero_add, mP_get h, List.getD_eq_getElem?_getD, List.getElem?_eq_getElem h]; rfl
  · rw [List.getElem?_eq_none (by rw [fst_len]; exact h), List.getElem?_eq_none h]
/-- the mark at the place i of the run that stands at a -/
theorem mP_run {rs : List (Int × List Int)} (rn : Rn rs) {a : Nat} {r : Int × List Int} (h : rs[a]? = some r) {q : Int} {i : Nat} (hi : (i : Int) < rl r) (e : (q - (pl (rs.take a) + (i : Int))) % pl rs = 0) : r.2[i % r.2.length]? = some (mP (mk rs) q) := by
  have ml := mk_len rn.nn
  have p0 : 0 ≤ pl (rs.take a) := pl_nn fun q hq => rn.nn q (List.mem_of_mem_take hq)
  have z := mk_at rn.nn h hi
  have e1 : mP (mk rs) q = mP (mk rs) (((pl (rs.take a)).toNat + i : Nat) : Int) := mP_mod _ _ _ (by
    rw [ml, show q - (((pl (rs.take a)).toNat + i : Nat) : Int) = q - (pl (rs.take a) + (i : Int)) by omega]; exact e)
  have hw : 0 < r.2.length := List.length_pos_iff.mpr (rn r (List.mem_of_getElem? h)).2
  have hl := Nat.mod_lt i hw
  have hx : (pl (rs.take a)).toNat + i < (mk rs).length := by
    rw [List.getElem?_eq_getElem hl] at z
    exact (List.getElem?_eq_some_iff.mp z).1
  rw [e1, mP_get hx, List.getD_eq_getElem?_getD, z, List.getElem?_eq_getElem hl]; rfl
/-- a piece of the run's word gone round -/
theorem piece {rs : List (Int × List Int)} (rn : Rn rs) {a : Nat} {r : Int × List Int} (h : rs[a]? = some r) {q ins : Int} (h0 : 0 ≤ ins) {n m : Nat} (hn : ins + (n : Int) ≤ rl r) (e : (q - (pl (rs.take a) + ins)) % pl rs = 0)
    (hm : (ins % (r.2.length : Int)).toNat + n ≤ m * r.2.length) : ((rp m r.2).drop (ins % (r.2.length : Int)).toNat).take n = fst (mk rs) q n := by
  apply List.ext_getElem?
  intro i
  have hw : 0 < r.2.length := List.length_pos_iff.mpr (rn r (List.mem_of_getElem? h)).2
  rcases Nat.lt_or_ge i n with hi | hi
  · rw [List.getElem?_take_of_lt hi, List.getElem?_drop, rp_get _ _ _ (by omega), fst_get hi]
    have z := mP_run rn h (q := q + (i : Int)) (i := ins.toNat + i) (by omega) (by rw [show q + (i : Int) - (pl (rs.take a) + ((ins.toNat + i : Nat) : Int)) = q - (pl (rs.take a) + ins) by omega]; exact e)
    rw [← z]
    congr 1
    have ei : (ins % (r.2.length : Int)).toNat = ins.toNat % r.2.length := by
      rw [show ins = ((ins.toNat : Nat) : Int) by omega, ← Int.natCast_emod]; rfl
    rw [ei, Nat.mod_add_mod]
  · rw [List.getElem?_eq_none (by rw [List.length_take]; omega), List.getElem?_eq_none (by rw [fst_len]; exact hi)]
theorem pl_take_nx {rs : List (Int × List Int)} {i : Nat} {r : Int × List Int} (h : rs[i]? = some r) : pl (rs.take (i + 1)) = pl (rs.take i) + rl r := by
  rw [List.take_add_one, h, pl_app]
  show pl (rs.take i) + pl [r] = _
  rw [pl_cons]; show _ + (rl r + 0) = _; omega
/-- on to the next run -/
theorem next_run {rs : List (Int × List Int)} {a : Nat} {r : Int × List Int} (h : rs[a]? = some r) {q : Int} (e : (q - (pl (rs.take a) + rl r)) % pl rs = 0) : (q - (pl (rs.take ((a + 1) % rs.length)) + 0)) % pl rs = 0 := by
  have ha := (List.getElem?_eq_some_iff.mp h).1
  rw [← pl_take_nx h] at e
  rcases Nat.lt_or_ge (a + 1) rs.length with z | z
  · rw [Nat.mod_eq_of_lt z, Int.add_zero]; exact e
  · rw [show a + 1 = rs.length by omega] at e ⊢
    rw [List.take_length] at e
    rw [Nat.mod_self, List.take_zero]
    show (q - (0 + 0)) % pl rs = 0
    rw [show q - (0 + 0) = q - pl rs + pl rs * 1 by omega, Int.add_mul_emod_self_left]; exact e
end RV
set_option maxHeartbeats 4000000
/-! list(zip(s, t)) of two tuples -/
namespace RV
open PySem PySem.Spec PyProof.Rows L2
section
variable {prog : Program} {w : World} {A : Around} {E : Value → Shared → Prop} {s : Shared}
/-- the next pair, while the first one is still out -/
theorem zt_item {z TI TO T0 i1 i2 u1 u2 : Addr} {f : Bool} {ob : Obj} {j : Nat} {xs ys : Array Value} {x y : Value} {Q : Option Value → Shared → Prop} (D : ZipApart z TI TO i1 i2 u1 u2)
    (hz : IsZipHeld s.heap z TI TO T0 f) (h0 : s.heap.get? T0 = some ob) (hP : IsPair s.heap TI (.ref i1) (.ref i2)) (a1 : s.heap.IsTupleIter i1 u1 j) (a2 : s.heap.IsTupleIter i2 u2 j) (b1 : s.heap.IsTuple u1 xs) (b2 : s.heap.IsTuple u2 ys)
    (ex : xs[j]? = some x) (ey : ys[j]? = some y)
    (q : ∀ hh, IsZipHeld hh z TI TO T0 true → hh.IsTupleIter i1 u1 (j + 1) → hh.IsTupleIter i2 u2 (j + 1) → IsPair hh s.heap.objs.size x y → hh.objs.size = s.heap.objs.size + 1 → (∀ c o, c ≠ z → c ≠ i1 → c ≠ i2 → s.heap.get? c = some o → hh.get? c = some o) → Q (some (.ref s.heap.objs.size)) { s with heap := hh }) :
    wpAny (model prog w) A (pyNext (.ref z)) Q E s := by
  have tz : s.TypeIs (.ref z) "zip" := ⟨_, hz, rfl⟩
  unfold pyNext
  refine wpAny_bind (wpAny_attempt (wpAny_callSpecial?_slot (name := Str.ofString "__next__") tz F.slot_zip_next (wpAny_call_entry F.slot_zip_next tz F.entry_zip_next ?_ (F.args_zip_next_1 _))))
  show wpAny _ _ (field (.ref z) 2 >>= fun _ => _) _ _ s
  refine wpAny_bind (wpAny_field hz rfl (x := .bool false) rfl (wpAny_bind (wpAny_field hz rfl (x := .ref TI) rfl (wpAny_bind (wpAny_seqItems hP rfl (wpAny_bind (wpAny_tupleHeld_zip hz h0 fun g1 z1 k1 => ?_)))))))
  simp only [Bool.false_eq_true, if_false]
  refine wpAny_bind ?_
  rw [← Array.forIn_toList]; simp only [List.forIn_cons, List.forIn_nil]
  refine wpAny_bind (wpAny_bind (wpAny_holding (wpAny_bind (wpAny_nextOf_tuple_item (s := { s with heap := g1 }) (a1.extBut k1.extBut D.i1z) (b1.extBut k1.extBut D.l1z) ex fun g2 c1 k2 => wpAny_pure (wpAny_pure ?_)))))
  refine wpAny_bind (wpAny_bind (wpAny_holding (wpAny_bind (wpAny_nextOf_tuple_item (s := { s with heap := g2 }) ((a2.extBut k1.extBut D.i2z).extBut k2.extBut D.i12.symm) ((b2.extBut k1.extBut D.l2z).extBut k2.extBut D.l2i1) ey fun g3 c2 k3 => wpAny_pure (wpAny_pure (wpAny_pure ?_))))))
  show wpAny _ _ (newTuple [x, y] >>= fun _ => _) _ _ _
  refine wpAny_bind (wpAny_newTuple ?_)
  have ez : g3.objs.size = s.heap.objs.size := by rw [k3.1, k2.1, k1.1]
  have z3 : IsZipHeld g3 z TI TO T0 true := k3.extBut _ _ D.i2z.symm (k2.extBut _ _ D.i1z.symm z1)
  have c13 := c1.extBut k3.extBut D.i12
  have np : IsPair (g3.push { cls := .type "tuple", data := .seq #[x, y] }) g3.objs.size x y := Heap.get?_push_size _ rfl
  have nz : (g3.push { cls := .type "tuple", data := .seq #[x, y] }).objs.size = g3.objs.size + 1 := Heap.size_push ..
  refine wpAny_pure ⟨_, rfl, wpAny_pure ?_⟩
  show Q (some (.ref g3.objs.size)) _
  rw [ez] at np nz ⊢
  exact q _ (Heap.get?_push_of_some _ z3) (c13.at fun o e => Heap.get?_push_of_some _ e) (c2.at fun o e => Heap.get?_push_of_some _ e) np nz fun c o n1 n2 n3 e => Heap.get?_push_of_some _ (k3.extBut _ _ n3 (k2.extBut _ _ n2 (k1.extBut _ _ n1 e)))
theorem zt_end {z TI TO T0 i1 i2 u1 u2 : Addr} {f : Bool} {ob : Obj} {j : Nat} {xs ys : Array Value} {Q : Option Value → Shared → Prop} (hh : A.handled = none) (D : ZipApart z TI TO i1 i2 u1 u2)
    (hz : IsZipHeld s.heap z TI TO T0 f) (h0 : s.heap.get? T0 = some ob) (hP : IsPair s.heap TI (.ref i1) (.ref i2)) (a1 : s.heap.IsTupleIter i1 u1 j) (a2 : s.heap.IsTupleIter i2 u2 j) (b1 : s.heap.IsTuple u1 xs) (b2 : s.heap.IsTuple u2 ys)
    (no : xs[j]? = none ∨ ys[j]? = none) (q : ∀ hp, (∀ c o, c ≠ z → c ≠ i1 → c ≠ i2 → s.heap.get? c = some o → hp.get? c = some o) → Q none { s with heap := hp }) : wpAny (model prog w) A (pyNext (.ref z)) Q E s := by
  have tz : s.TypeIs (.ref z) "zip" := ⟨_, hz, rfl⟩
  unfold pyNext
  have fin : ∀ (hp : Heap) (e : Addr), (∀ c o, c ≠ z → c ≠ i1 → c ≠ i2 → s.heap.get? c = some o → hp.get? c = some o) → (∃ o, hp.get? e = some o ∧ o.cls = .type "StopIteration") →
      wpAny (model prog w) A (do if ← isInstance (.ref e) (.type "StopIteration") then pure none else throw (.ref e)) Q E { s with heap := hp } := fun hp e k ⟨o, ho, hc⟩ => by
    refine wpAny_bind (wpAny_isInstance (T := "StopIteration") (b := true) ⟨o, ho, hc⟩ isSubtype_stop ?_)
    exact wpAny_pure (q _ k)
  refine wpAny_bind (wpAny_attempt (wpAny_callSpecial?_slot (name := Str.ofString "__next__") tz F.slot_zip_next (wpAny_call_entry F.slot_zip_next tz F.entry_zip_next ?_ (F.args_zip_next_1 _))))
  show wpAny _ _ (field (.ref z) 2 >>= fun _ => _) _ _ s
  refine wpAny_bind (wpAny_field hz rfl (x := .bool false) rfl (wpAny_bind (wpAny_field hz rfl (x := .ref TI) rfl (wpAny_bind (wpAny_seqItems hP rfl (wpAny_bind (wpAny_tupleHeld_zip hz h0 fun g1 z1 k1 => ?_)))))))
  simp only [Bool.false_eq_true, if_false]
  refine wpAny_bind ?_
  rw [← Array.forIn_toList]; simp only [List.forIn_cons, List.forIn_nil]
  refine wpAny_bind (wpAny_bind (wpAny_holding ?_))
  cases ex : xs[j]? with
  | none => exact wpAny_bind (wpAny_nextOf_tuple_end (s := { s with heap := g1 }) hh (a1.extBut k1.extBut D.i1z) (b1.extBut k1.extBut D.l1z) ex fun g2 e k2 he => fin g2 e (fun c o n1 n2 _ y => k2 _ _ n2 (k1.extBut _ _ n1 y)) he)
  | some x =>
    have ey : ys[j]? = none := by
      rcases no with n | n
      · rw [ex] at n; cases n
      · exact n
    refine wpAny_bind (wpAny_nextOf_tuple_item (s := { s with heap := g1 }) (a1.extBut k1.extBut D.i1z) (b1.extBut k1.extBut D.l1z) ex fun g2 c1 k2 => wpAny_pure (wpAny_pure (wpAny_bind (wpAny_bind (wpAny_holding ?_)))))
    exact wpAny_bind (wpAny_nextOf_tuple_end (s := { s with heap := g2 }) hh ((a2.extBut k1.extBut D.i2z).extBut k2.extBut D.i12.symm) ((b2.extBut k1.extBut D.l2z).extBut k2.extBut D.l2i1) ey fun g3 e k3 he => fin g3 e (fun c o n1 n2 n3 y => k3 _ _ n3 (k2.extBut _ _ n2 (k1.extBut _ _ n1 y))) he)
/-- where the walk stands behind j pairs -/
structure ZSt (h : Heap) (z TI TO i1 i2 u1 u2 S : Addr) (j : Nat) : Prop where
  pr : IsPair h TI (.ref i1) (.ref i2)
  a1 : h.IsTupleIter i1 u1 j
  a2 : h.IsTupleIter i2 u2 j
  st : (j = 0 ∧ IsZip h z TI TO .none ∧ ∃ a b, IsPair h TO a b) ∨ ∃ T0 f ob, IsZipHeld h z TI TO T0 f ∧ h.get? T0 = some ob ∧ T0 ≠ z ∧ T0 ≠ i1 ∧ T0 ≠ i2 ∧ T0 ≠ S
theorem ZSt.keep {h h' : Heap} {z TI TO i1 i2 u1 u2 S : Addr} {j : Nat} (x : ZSt h z TI TO i1 i2 u1 u2 S j) (k : ∀ b o, b ≠ S → h.get? b = some o → h'.get? b = some o) (n1 : z ≠ S) (n2 : TI ≠ S) (n3 : TO ≠ S) (n4 : i1 ≠ S) (n5 : i2 ≠ S) : ZSt h' z TI TO i1 i2 u1 u2 S j := by
  obtain ⟨p, a1, a2, st⟩ := x
  refine ⟨k _ _ n2 p, a1.at fun o e => k _ _ n4 e, a2.at fun o e => k _ _ n5 e, ?_⟩
  rcases st with ⟨e, hz, a, b, ho⟩ | ⟨T0, f, ob, hz, h0, m1, m2, m3, m4⟩
  · exact .inl ⟨e, k _ _ n1 hz, a, b, k _ _ n3 ho⟩
  · exact .inr ⟨T0, f, ob, k _ _ n1 hz, k _ _ m4 h0, m1, m2, m3, m4⟩
theorem zs_item {z TI TO i1 i2 u1 u2 S : Addr} {j : Nat} {xs ys : Array Value} {x y : Value} {Q : Option Value → Shared → Prop} (D : ZipApart z TI TO i1 i2 u1 u2) (x0 : ZSt s.heap z TI TO i1 i2 u1 u2 S j) (hS : S < s.heap.objs.size) (b1 : s.heap.IsTuple u1 xs) (b2 : s.heap.IsTuple u2 ys) (ex : xs[j]? = some x) (ey : ys[j]? = some y)
    (q : ∀ hh, ZSt hh z TI TO i1 i2 u1 u2 S (j + 1) → IsPair hh s.heap.objs.size x y → (∀ c o, c ≠ z → c ≠ TO → c ≠ i1 → c ≠ i2 → s.heap.get? c = some o → hh.get? c = some o) → Q (some (.ref s.heap.objs.size)) { s with heap := hh }) : wpAny (model prog w) A (pyNext (.ref z)) Q E s := by
  obtain ⟨p, a1, a2, st⟩ := x0
  have lt : ∀ {c o}, s.heap.get? c = some o → s.heap.objs.size ≠ c := fun e => Nat.ne_of_gt (Heap.lt_size e)
  have l1 : s.heap.objs.size ≠ i1 := by obtain ⟨_, e, _⟩ := a1; exact lt e
  have l2 : s.heap.objs.size ≠ i2 := by obtain ⟨_, e, _⟩ := a2; exact lt e
  rcases st with ⟨e, hz, a, b, ho⟩ | ⟨T0, f, ob, hz, h0, m1, m2, m3, m4⟩
  · exact RZ.pyNext_zipT_item D hz p ho a1 a2 b1 b2 ex ey fun hh z' o' c1 c2 np nz k => q hh ⟨k _ _ D.TIz D.TITO D.TIi1 D.TIi2 p, c1, c2, .inr ⟨s.heap.objs.size, false, _, z', np, lt hz, l1, l2, Nat.ne_of_gt hS⟩⟩ np k
  · exact zt_item D hz h0 p a1 a2 b1 b2 ex ey fun hh z' c1 c2 np nz k => q hh ⟨k _ _ D.TIz D.TIi1 D.TIi2 p, c1, c2, .inr ⟨T0, true, ob, z', k _ _ m1 m2 m3 h0, m1, m2, m3, m4⟩⟩ np fun c o n1 _ n3 n4 e => k c o n1 n3 n4 e
theorem zs_end {z TI TO i1 i2 u1 u2 S : Addr} {j : Nat} {xs ys : Array Value} {Q : Option Value → Shared → Prop} (hh : A.handled = none) (D : ZipApart z TI TO i1 i2 u1 u2) (x0 : ZSt s.heap z TI TO i1 i2 u1 u2 S j) (b1 : s.heap.IsTuple u1 xs) (b2 : s.heap.IsTuple u2 ys) (no : xs[j]? = none ∨ ys[j]? = none)
    (q : ∀ hp, (∀ c o, c ≠ z → c ≠ TO → c ≠ i1 → c ≠ i2 → s.heap.get? c = some o → hp.get? c = some o) → Q none { s with heap := hp }) : wpAny (model prog w) A (pyNext (.ref z)) Q E s := by
  obtain ⟨p, a1, a2, st⟩ := x0
  rcases st with ⟨e, hz, a, b, ho⟩ | ⟨T0, f, ob, hz, h0, m1, m2, m3, m4⟩
  · exact RZ.pyNext_zipT_end hh D hz p ho a1 a2 b1 b2 no q
  · exact zt_end hh D hz h0 p a1 a2 b1 b2 no fun hp k => q hp fun c o n1 _ n3 n4 e => k c o n1 n3 n4 e
/-- the tuples told so far -/
structure ZG (xs ys : Array Value) (lo : Addr) (h : Heap) (as : List Addr) : Prop where
  up : as.Pairwise (· < ·)
  hi : ∀ a ∈ as, lo < a
  at_ : ∀ (j : Nat) (a : Addr), as[j]? = some a → ∃ x y, xs[j]? = some x ∧ ys[j]? = some y ∧ IsPair h a x y
theorem ZG.lt {xs ys : Array Value} {lo : Addr} {h : Heap} {as : List Addr} (g : ZG xs ys lo h as) {a : Addr} (ha : a ∈ as) : a < h.objs.size := by
  obtain ⟨j, hj⟩ := List.mem_iff_getElem?.mp ha
  obtain ⟨_, _, _, _, e⟩ := g.at_ j a hj
  exact Heap.lt_size e
theorem zs_loop {R : Result → Shared → Prop} {z TI TO i1 i2 u1 u2 S : Addr} {xs ys : Array Value} (hh : A.handled = none) (D : ZipApart z TI TO i1 i2 u1 u2) (n1 : z < S) (n2 : TI < S) (n3 : TO < S) (n4 : i1 < S) (n5 : i2 < S) (n6 : u1 < S) (n7 : u2 < S) (hn : min xs.size ys.size ≤ sizeLine) (res : Value) {h1 : Heap}
    (q : ∀ h' tk acc c as, (∀ b o, b ≠ S → b ≠ z → b ≠ TO → b ≠ i1 → b ≠ i2 → h1.get? b = some o → h'.get? b = some o) → h'.get? S = some { cls := .type "list", dict := none, data := .seq acc c, slots := #[] } → as.length = min xs.size ys.size → ZG xs ys S h' as → acc.toList = as.map Value.ref → R (.ok (.ret res)) { s with heap := h', toks := tk }) :
    ∀ (k j : Nat) (h : Heap) (tk c : Nat) (acc : Array Value) (as : List Addr), min xs.size ys.size - j = k → j ≤ min xs.size ys.size → ZSt h z TI TO i1 i2 u1 u2 S j → h.IsTuple u1 xs → h.IsTuple u2 ys → (∀ b o, b ≠ S → b ≠ z → b ≠ TO → b ≠ i1 → b ≠ i2 → h1.get? b = some o → h.get? b = some o) →
      h.get? S = some { cls := .type "list", dict := none, data := .seq acc c, slots := #[] } → acc.toList = as.map Value.ref → as.length = j → ZG xs ys S h as → codeAny (model prog w) A (.builtin "list.extend.loop" ⟨[.ref S, .ref z, res], []⟩) R { s with heap := h, toks := tk } := by
  intro k
  induction k with
  | zero =>
    intro j h tk c acc as hk hj x0 b1 b2 kp hS ea la g
    refine codeAny_builtin PySem.F.entry_extend_loop ?_
    rw [Around.under_plainId PySem.F.plain_extend_loop _]
    show wpAny _ A.in1 (pyNext (.ref z) >>= fun _ => _) _ _ _
    have no : xs[j]? = none ∨ ys[j]? = none := by
      by_cases e : xs.size ≤ j
      · exact .inl (by simp; omega)
      · exact .inr (by simp; omega)
    refine wpAny_bind (zs_end (s := { s with heap := h, toks := tk }) (A := A.in1) hh D x0 b1 b2 no fun hp k2 => ?_)
    have up : ∀ b o, S ≤ b → h.get? b = some o → hp.get? b = some o := fun b o lb e => k2 b o (Nat.ne_of_gt (Nat.lt_of_lt_of_le n1 lb)) (Nat.ne_of_gt (Nat.lt_of_lt_of_le n3 lb)) (Nat.ne_of_gt (Nat.lt_of_lt_of_le n4 lb)) (Nat.ne_of_gt (Nat.lt_of_lt_of_le n5 lb)) e
    refine wpAny_pure (q hp tk acc c as (fun b o m0 m1 m2 m3 m4 e => k2 b o m1 m2 m3 m4 (kp b o m0 m1 m2 m3 m4 e)) (up S _ (Nat.le_refl _) hS) (by omega) ⟨g.up, g.hi, fun i a hi => ?_⟩ ea)
    obtain ⟨x, y, e1, e2, e3⟩ := g.at_ i a hi
    exact ⟨x, y, e1, e2, up a _ (Nat.le_of_lt (g.hi a (List.mem_of_getElem? hi))) e3⟩
  | succ k ih =>
    intro j h tk c acc as hk hj x0 b1 b2 kp hS ea la g
    have hlt : j < min xs.size ys.size := by omega
    have ex : xs[j]? = some (xs[j]'(by omega)) := Array.getElem?_eq_getElem _
    have ey : ys[j]? = some (ys[j]'(by omega)) := Array.getElem?_eq_getElem _
    have sz : acc.size = j := by rw [← Array.length_toList, ea, List.length_map, la]
    refine codeAny_builtin PySem.F.entry_extend_loop ?_
    rw [Around.under_plainId PySem.F.plain_extend_loop _]
    show wpAny _ A.in1 (pyNext (.ref z) >>= fun _ => _) _ _ _
    refine wpAny_bind (zs_item (s := { s with heap := h, toks := tk }) D x0 (Heap.lt_size hS) b1 b2 ex ey fun hp x1 np k2 => ?_)
    have hSl : S < h.objs.size := Heap.lt_size hS
    have ge : ∀ b o, S ≤ b → h.get? b = some o → hp.get? b = some o := fun b o lb e => k2 b o (Nat.ne_of_gt (Nat.lt_of_lt_of_le n1 lb)) (Nat.ne_of_gt (Nat.lt_of_lt_of_le n3 lb)) (Nat.ne_of_gt (Nat.lt_of_lt_of_le n4 lb)) (Nat.ne_of_gt (Nat.lt_of_lt_of_le n5 lb)) e
    have hS' := ge S _ (Nat.le_refl _) hS
    replace np : IsPair hp h.objs.size _ _ := np
    have up : ∀ b o, b ≠ S → hp.get? b = some o → (hp.update S (Obj.mapSeq (·.push (Value.ref h.objs.size)))).get? b = some o := fun b o hb e => (Heap.get?_update_other _ _ (Ne.symm hb)).trans e
    have ut : ∀ {u : Addr} {vs : Array Value}, u < S → u ≠ z → u ≠ TO → u ≠ i1 → u ≠ i2 → h.IsTuple u vs → (hp.update S (Obj.mapSeq (·.push (Value.ref h.objs.size)))).IsTuple u vs := fun {u vs} lu m1 m2 m3 m4 ⟨o, e, r⟩ => ⟨o, up u o (Nat.ne_of_lt lu) (k2 u o m1 m2 m3 m4 e), r⟩
    show wpAny _ A.in1 (updateSeq S (·.push (Value.ref h.objs.size)) >>= fun _ => _) _ _ _
    refine wpAny_bind ?_
    refine wpAny_updateSeq hS' rfl (wpAny_pure ⟨plainId_quiet PySem.F.plain_extend_loop _, ih (j + 1) _ tk _ (acc.push (Value.ref h.objs.size)) (as ++ [h.objs.size]) (by omega) hlt (x1.keep up (Nat.ne_of_lt n1) (Nat.ne_of_lt n2) (Nat.ne_of_lt n3) (Nat.ne_of_lt n4) (Nat.ne_of_lt n5)) (ut n6 D.l1z D.l1TO D.l1i1 D.l1i2 b1) (ut n7 D.l2z D.l2TO D.l2i1 D.l2i2 b2)
      (fun b o m0 m1 m2 m3 m4 e => up b o m0 (k2 b o m1 m2 m3 m4 (kp b o m0 m1 m2 m3 m4 e))) (Heap.get?_update_self _ hS' rfl) (by rw [Array.toList_push, ea, List.map_append]; rfl) (by rw [List.length_append, la]; rfl) ⟨?_, ?_, ?_⟩⟩) (by rw [sz]; omega) (by show (acc.push (Value.ref h.objs.size)).size ≤ sizeLine + 1; rw [Array.size_push, sz]; omega)
    · refine List.pairwise_append.mpr ⟨g.up, List.pairwise_singleton _ _, fun a ha b hb => ?_⟩
      rw [List.mem_singleton.mp hb]; exact g.lt ha
    · intro a ha
      rcases List.mem_append.mp ha with y | y
      · exact g.hi a y
      · rw [List.mem_singleton.mp y]; exact hSl
    · intro i b hi
      by_cases e : i < as.length
      · rw [List.getElem?_append_left e] at hi
        obtain ⟨x, y, e1, e2, e3⟩ := g.at_ i b hi
        have lb := g.hi b (List.mem_of_getElem? hi)
        exact ⟨x, y, e1, e2, up b _ (Nat.ne_of_gt lb) (ge b _ (Nat.le_of_lt lb) e3)⟩
      · have hl := (List.getElem?_eq_some_iff.mp hi).1
        rw [List.length_append] at hl
        have ei : i = as.length := by
          have : [h.objs.size].length = 1 := rfl
          omega
        subst ei
        rw [List.getElem?_append_right (Nat.le_refl _), Nat.sub_self] at hi
        have eb : h.objs.size = b := Option.some.inj hi
        subst eb
        exact ⟨_, _, by rw [la]; exact ex, by rw [la]; exact ey, up _ _ (Nat.ne_of_gt hSl) np⟩
theorem zip_nolen : typeLookup (.type "zip") "__len__" = pure none := am_miss_of_fast (by decide +kernel)
theorem zip_nohint : typeLookup (.type "zip") "__length_hint__" = pure none := am_miss_of_fast (by decide +kernel)
theorem zs_extend {R : Result → Shared → Prop} {z TI TO i1 i2 u1 u2 S : Addr} {xs ys : Array Value} (hh : A.handled = none) (D : ZipApart z TI TO i1 i2 u1 u2) (x0 : ZSt s.heap z TI TO i1 i2 u1 u2 S 0) (hz : IsZip s.heap z TI TO .none) (b1 : s.heap.IsTuple u1 xs) (b2 : s.heap.IsTuple u2 ys) (n1 : z < S) (n2 : TI < S) (n3 : TO < S) (n4 : i1 < S) (n5 : i2 < S) (n6 : u1 < S) (n7 : u2 < S) (hn : min xs.size ys.size ≤ sizeLine) (res : Value) (c0 : Nat) (hS : s.heap.get? S = some { cls := .type "list", data := .seq #[] c0 })
    (q : ∀ h' tk acc c as, (∀ b o, b ≠ S → b ≠ z → b ≠ TO → b ≠ i1 → b ≠ i2 → s.heap.get? b = some o → h'.get? b = some o) → h'.get? S = some { cls := .type "list", dict := none, data := .seq acc c, slots := #[] } → as.length = min xs.size ys.size → ZG xs ys S h' as → acc.toList = as.map Value.ref → R (.ok (.ret res)) { s with heap := h', toks := tk }) :
    wpAny (model prog w) A.in1 (Builtin.List.listExtendWith (.ref S) (.ref z) res)
      (fun fin s' => match fin with | .done f => R (.ok f) s' | .again c' => c'.quiet = true ∧ codeAny (model prog w) A c' R s') (fun e s' => R (.error e) s') s := by
  have tz : s.TypeIs (.ref z) "zip" := ⟨_, hz, rfl⟩
  have key : ∀ (h : Heap) (c1 : Nat), (∀ b o, b ≠ S → s.heap.get? b = some o → h.get? b = some o) → h.get? S = some { cls := .type "list", data := .seq #[] c1 } → codeAny (model prog w) A (.builtin "list.extend.loop" ⟨[.ref S, .ref z, res], []⟩) R { s with heap := h, toks := s.toks } := fun h c1 k hS1 =>
    zs_loop (s := s) (h1 := s.heap) hh D n1 n2 n3 n4 n5 n6 n7 hn res q (min xs.size ys.size) 0 h s.toks c1 #[] [] (Nat.sub_zero _) (Nat.zero_le _) (x0.keep k (Nat.ne_of_lt n1) (Nat.ne_of_lt n2) (Nat.ne_of_lt n3) (Nat.ne_of_lt n4) (Nat.ne_of_lt n5))
      (let ⟨o, e, r⟩ := b1; ⟨o, k _ _ (Nat.ne_of_lt n6) e, r⟩) (let ⟨o, e, r⟩ := b2; ⟨o, k _ _ (Nat.ne_of_lt n7) e, r⟩) (fun b o m0 _ _ _ _ e => k b o m0 e) hS1 rfl rfl ⟨List.Pairwise.nil, (fun _ ha => nomatch ha), (fun j a hj => by simp at hj)⟩
  unfold Builtin.List.listExtendWith
  refine wpAny_bind (wpAny_typeOf (T := "zip") tz ?_)
  have e1 : Builtin.List.listSameRef (.ref S) (.ref z) = false := by simp [Builtin.List.listSameRef, Nat.ne_of_gt n1]
  have e2 : (Value.type "zip" == Value.type "list") = false := by decide
  have e3 : (Value.type "zip" == Value.type "tuple") = false := by decide
  simp only [e1, e2, e3, Bool.or_false, Bool.false_eq_true, if_false]
  refine wpAny_bind (wpAny_pyIter_zip hz (wpAny_bind (wpAny_holding ?_)))
  unfold Builtin.List.listLengthHint
  refine wpAny_bind (wpAny_specialOf tz zip_nolen ?_)
  show wpAny _ A.in1 (specialOf (Value.ref z) (Str.ofString "__length_hint__") >>= fun _ => _) _ _ _
  refine wpAny_bind (wpAny_specialOf tz zip_nohint (wpAny_pure ?_))
  show wpAny _ A.in1 (rule "list.extend.makes-room" >>= fun _ => Builtin.List.listTouch (.ref S) >>= fun _ => again (.builtin "list.extend.loop" ⟨[.ref S, .ref z, res], []⟩)) _ _ _
  refine wpAny_bind (wpAny_rule (wpAny_bind ?_))
  show wpAny _ _ (updateSeq S (·.push .none) >>= fun _ => updateSeq S (·.pop)) _ _ _
  refine wpAny_bind (wpAny_updateSeq hS rfl ?_)
  have g2 := Heap.get?_update_self (Obj.mapSeq (·.push Value.none)) hS rfl
  refine wpAny_updateSeq (hz := by seq_fits) g2 rfl ?_
  have g3 := Heap.get?_update_self (Obj.mapSeq (·.pop)) g2 rfl
  refine wpAny_pure ⟨plainId_quiet PySem.F.plain_extend_loop _, key _ _ (fun b o hb e => ?_) g3⟩
  exact (Heap.get?_update_other _ _ (Ne.symm hb)).trans ((Heap.get?_update_other _ _ (Ne.symm hb)).trans e)
theorem ZG.low {xs ys : Array Value} {lo lo' : Addr} {h : Heap} {as : List Addr} (g : ZG xs ys lo h as) (l : lo' ≤ lo) : ZG xs ys lo' h as := ⟨g.up, fun a ha => Nat.lt_of_le_of_lt l (g.hi a ha), g.at_⟩
theorem zs_call {z TI TO i1 i2 u1 u2 : Addr} {xs ys : Array Value} {Q : Value → Shared → Prop} (hh : A.handled = none) (D : ZipApart z TI TO i1 i2 u1 u2) (hz : IsZip s.heap z TI TO .none) (hP : IsPair s.heap TI (.ref i1) (.ref i2)) (hO : ∃ a b, IsPair s.heap TO a b) (a1 : s.heap.IsTupleIter i1 u1 0) (a2 : s.heap.IsTupleIter i2 u2 0) (b1 : s.heap.IsTuple u1 xs) (b2 : s.heap.IsTuple u2 ys) (hn : min xs.size ys.size ≤ sizeLine)
    (q : ∀ h' tk acc c as, (∀ b o, b ≠ z → b ≠ TO → b ≠ i1 → b ≠ i2 → s.heap.get? b = some o → h'.get? b = some o) → h'.get? s.heap.objs.size = some { cls := .type "list", dict := none, data := .seq acc c, slots := #[] } → as.length = min xs.size ys.size → ZG xs ys s.heap.objs.size h' as → acc.toList = as.map Value.ref → Q (.ref s.heap.objs.size) { s with heap := h', toks := tk }) :
    wpAny (model prog w) A (call (.type "list") [.ref z]) Q E s := by
  refine callType_codes (Q₁ := fun obj s₁ => obj = .ref s.heap.objs.size ∧ s₁ = { s with heap := s.heap.push { cls := .type "list", data := .seq #[] } }) PySem.F.called_list (PySem.F.typeCall_list_1 _) PySem.F.entry_list_init (code_list_new _ ⟨rfl, rfl⟩) fun obj s₁ h₁ => ?_
  obtain ⟨rfl, rfl⟩ := h₁
  have hS : (s.heap.push { cls := .type "list", data := .seq #[] }).get? s.heap.objs.size = some { cls := .type "list", data := .seq #[] } := Heap.get?_push_size _ rfl
  refine ⟨⟨_, hS, rfl⟩, PySem.F.args_list_init_2 _ _, ?_⟩
  show wpAny _ A.in1.in1 (do let old ← Builtin.List.listItems (.ref s.heap.objs.size); Builtin.List.listUpdate (.ref s.heap.objs.size) (fun _ => #[]); letGo old.toList.reverse; Builtin.List.listExtendWith (.ref s.heap.objs.size) (.ref z) .none) _ _ _
  refine wpAny_bind ?_
  unfold Builtin.List.listItems
  refine wpAny_bind (wpAny_seqItems hS rfl (wpAny_pure ?_))
  show wpAny _ _ (updateSeq s.heap.objs.size (fun _ => #[]) >>= fun _ => letGo (#[] : Array Value).toList.reverse >>= fun _ => Builtin.List.listExtendWith (.ref s.heap.objs.size) (.ref z) .none) _ _ _
  refine wpAny_bind (wpAny_updateSeq hS rfl ?_)
  have g2 := Heap.get?_update_self (Obj.mapSeq (fun _ => (#[] : Array Value))) hS rfl
  have oth : ∀ b o, s.heap.get? b = some o → ((s.heap.push { cls := .type "list", data := .seq #[] }).update s.heap.objs.size (Obj.mapSeq (fun _ => (#[] : Array Value)))).get? b = some o :=
    fun b o e => (Heap.get?_update_other _ _ (Nat.ne_of_gt (Heap.lt_size e))).trans (Heap.get?_push_of_some _ e)
  refine wpAny_bind (wpAny_letGo ?_)
  obtain ⟨oa, ob, hO⟩ := hO
  have l1 : i1 < s.heap.objs.size := by obtain ⟨_, e, _⟩ := a1; exact Heap.lt_size e
  have l2 : i2 < s.heap.objs.size := by obtain ⟨_, e, _⟩ := a2; exact Heap.lt_size e
  have l3 : u1 < s.heap.objs.size := by obtain ⟨_, e, _⟩ := b1; exact Heap.lt_size e
  have l4 : u2 < s.heap.objs.size := by obtain ⟨_, e, _⟩ := b2; exact Heap.lt_size e
  have key := zs_extend (prog := prog) (w := w) (A := A.in1) (s := { s with heap := (s.heap.push { cls := .type "list", data := .seq #[] }).update s.heap.objs.size (Obj.mapSeq (fun _ => (#[] : Array Value))) }) (R := wants (fun v s' => v = .none ∧ Q (.ref s.heap.objs.size) s') E) hh D
    ⟨oth _ _ hP, a1.at fun o e => oth _ _ e, a2.at fun o e => oth _ _ e, .inl ⟨rfl, oth _ _ hz, oa, ob, oth _ _ hO⟩⟩ (oth _ _ hz) (let ⟨o, e, r⟩ := b1; ⟨o, oth _ _ e, r⟩) (let ⟨o, e, r⟩ := b2; ⟨o, oth _ _ e, r⟩) (Heap.lt_size hz) (Heap.lt_size hP) (Heap.lt_size hO) l1 l2 l3 l4 hn .none _ g2
    (fun h' tk acc c as k hS' la g ea => ⟨rfl, q h' tk acc c as (fun b o m1 m2 m3 m4 e => k b o (Nat.ne_of_lt (Heap.lt_size e)) m1 m2 m3 m4 (oth b o e)) hS' la g ea⟩)
  exact key
end
theorem lookup_zip {β : Type} : ∀ {as : List Addr} {ps : List β}, as.Nodup → ∀ {j : Nat} {a : Addr} {p : β}, as[j]? = some a → ps[j]? = some p → (as.zip ps).lookup a = some p
  | [], _, _, j, a, p, h, _ => by simp at h
  | _ :: _, [], _, j, a, p, _, h => by simp at h
  | b :: as, r :: ps, nd, 0, a, p, h1, h2 => by
    have e1 : b = a := Option.some.inj h1
    have e2 : r = p := Option.some.inj h2
    subst e1 e2
    simp [List.lookup]
  | b :: as, r :: ps, nd, j + 1, a, p, h1, h2 => by
    have h1' : as[j]? = some a := h1
    have hn := List.nodup_cons.mp nd
    have ne : (a == b) = false := by
      rw [beq_eq_false_iff_ne]
      intro e
      exact hn.1 (e ▸ List.mem_of_getElem? h1')
    show ((b, r) :: as.zip ps).lookup a = some p
    rw [List.lookup_cons, ne]
    exact lookup_zip hn.2 h1' h2
theorem lookup_not {β : Type} : ∀ {as : List Addr} {ps : List β} {a : Addr}, a ∉ as → (as.zip ps).lookup a = none
  | [], _, _, _ => by simp
  | _ :: _, [], _, _ => by simp
  | b :: as, r :: ps, a, h => by
    have ne : (a == b) = false := by
      rw [beq_eq_false_iff_ne]
      intro e
      exact h (by rw [e]; exact List.mem_cons_self ..)
    show ((b, r) :: as.zip ps).lookup a = none
    rw [List.lookup_cons, ne]
    exact lookup_not fun z => h (List.mem_cons_of_mem _ z)
def putZ (H : Hp) (S : Addr) (as : List Addr) (ps : List (V × V)) : Hp := fun b => if b = S then some (.lst (as.map V.ref)) else match (as.zip ps).lookup b with
  | some p => some (.tup [p.1, p.2])
  | none => H b
def tListZip (K : PySem.W.Frag) (ta : TA) : TE := fun σ H Q => ta σ H fun vs H1 => ∃ a b xs ys, vs = [.ref a, .ref b] ∧ SqT K H1 a xs ∧ SqT K H1 b ys ∧
  ∀ (H' : Hp) (p : Addr) (ts : List Addr), Same H1 H' → H1 p = none → H' p = some (.lst (ts.map V.ref)) → ts.length = min xs.length ys.length → (∀ (j : Nat) (t : Addr), ts[j]? = some t → ∃ x y, xs[j]? = some x ∧ ys[j]? = some y ∧ H' t = some (.tup [x, y])) → Q (.ref p) H'
section
variable {X : Cx} {e e2 : Expr} {ta : TA} {p p2 pos pos2 : Pos}
/-- list(zip(s, t)) -/
theorem pe_listZip (hc : X.calm = true) (hg : Gl X "list") (hm : X.mg "list" = none) (hg2 : Gl X "zip") (hm2 : X.mg "zip" = none) (ha : PA X [e, e2] ta)
    (hs : starEach [.Call (.Name "zip" p2) [e, e2] [] pos2] X.env = (false, eval (.Call (.Name "zip" p2) [e, e2] [] pos2) X.env) :: starEach [] X.env := by rfl)
    (hs2 : starEach [e, e2] X.env = (false, eval e X.env) :: starEach [e2] X.env := by rfl) (hpl : (backTo pos2 (starEach [e2] X.env)).any (·.1) = false := by rfl) :
    PE X (.Call (.Name "list" p) [.Call (.Name "zip" p2) [e, e2] [] pos2] [] pos) (tListZip X.K ta) := by
  refine ⟨fun pins s σ H Q I hq => ?_⟩
  refine wpAny_Call_Name_kw (ld_blt I hg hm boot_list (PyProof.Rows.callWith_type1 ?_ hs rfl))
  rw [hs]
  refine Calls.spliced_cons (Call_ (ld_blt I hg2 hm2 PyProof.Rows.boot_zip (PyProof.Rows.callWith_type1 (thn (ha.run pos2 pins s σ H _ I hq) fun us s1 ⟨vs, H1, I1, r1, q1⟩ => ?_) hs2 hpl)))
  obtain ⟨a, b, xs, ys, ex, hx, hy, q⟩ := q1
  subst ex
  obtain ⟨v1, v2, rfl, r2, r3⟩ := vals2 r1
  cases r2
  cases r3
  obtain ⟨its, rv, t1, z1⟩ := I1.tuple hx
  obtain ⟨its2, rv2, t2, z2⟩ := I1.tuple hy
  obtain ⟨o1, ho1, _⟩ := id t1
  obtain ⟨o2, ho2, _⟩ := id t2
  have l1 := rv.length
  have l2 := rv2.length
  refine RZ.call_zipT (show s1.heap.IsTuple a its.toArray from t1) (show s1.heap.IsTuple b its2.toArray from t2) fun h1 hz hP hO i1 i2 hsz hk => Calls.spliced_nil ?_
  have D := PySem.W.ktu_apart s1.heap.objs.size a b (Heap.lt_size ho1) (Heap.lt_size ho2)
  refine zs_call (s := { s1 with heap := h1 }) (I1.ok.hd hc) D hz hP ⟨_, _, hO⟩ i1 i2 (let ⟨o, e, r⟩ := t1; ⟨o, hk _ _ e, r⟩) (let ⟨o, e, r⟩ := t2; ⟨o, hk _ _ e, r⟩) (by rw [List.size_toArray, List.size_toArray]; omega) fun h' tk acc c as k hS la g ea => ?_
  dsimp only at k hS g ⊢
  rw [List.size_toArray, List.size_toArray, ← l1, ← l2] at la
  have kp : ∀ b o, s1.heap.get? b = some o → h'.get? b = some o := fun b o e => by
    have lb := Heap.lt_size e
    exact k b o (Nat.ne_of_lt (Nat.lt_of_lt_of_le lb (Nat.le_add_right _ _))) (Nat.ne_of_lt (Nat.lt_of_lt_of_le lb (Nat.le_add_right _ _))) (Nat.ne_of_lt lb) (Nat.ne_of_lt (Nat.lt_succ_of_lt lb)) (hk b o e)
  have sz5 : s1.heap.objs.size ≤ h1.objs.size := by rw [hsz]; exact Nat.le_add_right _ _
  have ab : ∀ t ∈ as, s1.heap.objs.size ≤ t := fun t ht => Nat.le_of_lt (Nat.lt_of_le_of_lt sz5 (g.hi t ht))
  have nd : as.Nodup := List.Pairwise.imp (fun {a b} (h : a < b) => Nat.ne_of_lt h) g.up
  have new : ∀ t, s1.heap.objs.size ≤ t → H1 t = none := fun t ht => I1.hok.fresh ht
  have hSn : h1.objs.size ∉ as := fun z => Nat.lt_irrefl _ (g.hi _ z)
  have atH : ∀ (j : Nat) (t : Addr), as[j]? = some t → ∃ x y, xs[j]? = some x ∧ ys[j]? = some y ∧ putZ H1 h1.objs.size as (xs.zip ys) t = some (.tup [x, y]) ∧ ∃ u v, RelV x u ∧ RelV y v ∧ IsPair h' t u v := fun j t hj => by
    have hjl := (List.getElem?_eq_some_iff.mp hj).1
    obtain ⟨u, v, e1, e2, e3⟩ := g.at_ j t hj
    have ex : xs[j]? = some (xs[j]'(by omega)) := List.getElem?_eq_getElem _
    have ey : ys[j]? = some (ys[j]'(by omega)) := List.getElem?_eq_getElem _
    obtain ⟨u', hu', ru⟩ := rv.get ex
    obtain ⟨v', hv', rv'⟩ := rv2.get ey
    have eu : u' = u := by
      have z : its[j]? = some u := by simpa using e1
      rw [hu'] at z; exact Option.some.inj z
    have ev : v' = v := by
      have z : its2[j]? = some v := by simpa using e2
      rw [hv'] at z; exact Option.some.inj z
    subst eu ev
    refine ⟨_, _, ex, ey, ?_, u', v', ru, rv', e3⟩
    have ez : (xs.zip ys)[j]? = some (xs[j]'(by omega), ys[j]'(by omega)) := by
      rw [List.getElem?_zip_eq_some]; exact ⟨ex, ey⟩
    unfold putZ
    rw [if_neg (show ¬ t = h1.objs.size from fun z => hSn (by rw [← z]; exact List.mem_of_getElem? hj)), lookup_zip nd hj ez]
  have eS : putZ H1 h1.objs.size as (xs.zip ys) h1.objs.size = some (.lst (as.map V.ref)) := by unfold putZ; rw [if_pos rfl]
  have off : ∀ t, t ∉ as → t ≠ h1.objs.size → putZ H1 h1.objs.size as (xs.zip ys) t = H1 t := fun t n1 n2 => by
    unfold putZ
    rw [if_neg n2, lookup_not n1]
  have kpH : ∀ t o, H1 t = some o → putZ H1 h1.objs.size as (xs.zip ys) t = some o := fun t o e => by
    rw [off t (fun z => by rw [new t (ab t z)] at e; cases e) (fun z => by rw [z, new _ sz5] at e; cases e)]
    exact e
  refine ⟨.ref h1.objs.size, putZ H1 h1.objs.size as (xs.zip ys), ?_, rfl, q _ _ as kpH (new _ sz5) eS la fun j t hj => ?_⟩
  · have J := I1.call' (ch := []) (H' := putZ H1 h1.objs.size as (xs.zip ys)) (s' := { s1 with heap := h', toks := tk }) rfl ⟨fun b o q _ _ _ => kp b o q, fun b o q _ _ _ => ⟨o.slots, kp b o q⟩, fun b o q n _ => ?_, fun b o q _ => ⟨o, kp b o q⟩, fun b xs q => kpH b _ q, fun b o u q => kpH b _ q, fun b ps q => ⟨#[], by rw [kpH b _ q]; simp⟩⟩ (fun b u q => ?_) I1.bare fun b z => by simp at z
    · exact J
    · have lb := Heap.lt_size q
      rw [off b (fun z => absurd lb (Nat.not_lt.mpr (ab b z))) (fun z => absurd lb (Nat.not_lt.mpr (by rw [z]; exact sz5)))]
      exact n
    · by_cases hb : b ∈ as
      · obtain ⟨j, hj⟩ := List.mem_iff_getElem?.mp hb
        obtain ⟨x, y, _, _, e3, u1, v1, ru, rv', pr⟩ := atH j b hj
        rw [e3] at q
        cases q
        exact ⟨by show 2 ≤ sizeLine; decide, [u1, v1], .cons ru (.cons rv' .nil), ⟨_, pr, rfl, _, rfl⟩⟩
      · by_cases hb2 : b = h1.objs.size
        · subst hb2
          rw [eS] at q
          cases q
          refine ⟨by rw [List.length_map]; omega, acc.toList, c, by rw [ea]; exact LiI.vals_refs as, ?_⟩
          rw [Array.toArray_toList]
          exact hS
        · rw [off b hb hb2] at q
          exact (I1.hok b u q).stay (fun d v _ y => kp d v y) (fun d y => kpH d _ y) fun d xs y => kpH d _ y
  · obtain ⟨x, y, e1, e2, e3, _⟩ := atH j t hj
    exact ⟨x, y, e1, e2, e3⟩
end
end RV
set_option maxHeartbeats 4000000
namespace K9
open PySem PySem.Spec PyProof.Rows L2 RV
theorem cut_mid {xs : List V} {i j : Nat} (h : i ≤ j) (h2 : j ≤ xs.length) : cutV xs (some (i : Int)) (some (j : Int)) = (xs.drop i).take (j - i) := by
  unfold cutV
  rw [HT.sIx_nat, HT.sIx_nat, Nat.min_eq_left h2, Nat.min_eq_left (by omega)]
theorem rep_map (n : Nat) (w : List Int) : (List.replicate n (w.map V.int)).flatten = (rp n w).map V.int := by
  unfold rp
  rw [List.map_flatten, List.map_replicate]
section
variable {P : Program} {w : World} {K : PySem.W.Frag} {mg : Str → Option Value} {base : Heap}
/-! ### stretch -/
theorem scStretch : FnScope ["ring", "first", "many", "at", "inside", "found", "marks", "wanted", "start", "rounds"] ["ring", "first", "many"] (defScope sStretch) := ⟨rfl, rfl, rfl, by decide +kernel, rfl, by decide +kernel, by decide +kernel⟩
def spStretch (K : PySem.W.Frag) : Sp := fun vs H Q _ => ∃ (a : Addr) (q0 : Int) (n : Nat) (rs : List (Int × List Int)), vs = [.ref a, .int q0, .int (n : Int)] ∧ RingAt K H a rs ∧ Sz rs ∧ n ≤ 100000 ∧
  ∀ (H' : Hp) (T : Addr), Same H H' → H' T = some (.tup ((fst (mk rs) q0 n).map V.int)) → Q (.ref T) H'
def leftSt (n : Nat) (c : Addr) (H : Hp) : Nat := match H c with
  | some (.lst xs) => n - xs.length
  | _ => 0
theorem leftSt_eq {n : Nat} {c : Addr} {H : Hp} {xs : List V} (h : H c = some (.lst xs)) : leftSt n c H = n - xs.length := by unfold leftSt; rw [h]
theorem ok_stretch {f fR fP fS : Addr} {fd dR dP dS : FuncData} (F : Fun K "stretch" "stretch" sStretch f fd) (B : Bare mg) (DR : DefAt K mg "run_places" sRunPl ["run"] fR dR) (DP : DefAt K mg "places" sRPlaces ["ring"] fP dP) (DS : DefAt K mg "spot" sSpot ["ring", "place"] fS dS) :
    FnOk P w K mg base CX0 4 f fd ["ring", "first", "many"] (spStretch K) := by
  have GS : FnOk P w K mg base CX0 3 fS dS ["ring", "place"] (spSpot K) := ok_spot DS.fn B DR DP
  have GR : FnOk P w K mg base CX0 1 fR dR ["run"] (spRunPl K) := ok_runpl DR.fn B
  refine F.ok scStretch (fun vs H Q E h => ?_) (fun cdv A outer s H vs Q E hr h => ?_)
  · obtain ⟨a, q0, n, rs, rfl, _⟩ := h
    rfl
  · obtain ⟨a, q0, n, rs, rfl, hR, hz, hn, q⟩ := h
    have r1 := hr.mono (show 1 ≤ 3 by decide)
    refine ⟨_, pss_cons (ps_asg (pe_call GS hr (by rfl) DS.mg DS.fn.kp DS.bi .nil pass0 (pa_cons (pv 0) (pa_cons (pv 1) pa_nil))) (pg_tup (by rfl) (pgs_cons (pg_name (i := 3) scStretch.nd rfl (Or.inl rfl)) (pgs_cons (pg_name (i := 4) scStretch.nd rfl (Or.inl rfl)) pgs_nil))))
      (pss_cons (ps_set (i := 5) scStretch.nd rfl (Or.inl rfl) (pe_lst pa_nil))
      (pss_cons (ps_while PassesOwn.never (pt_cmpR op_lt (pe_callB call_len_seq (by rfl) B.len PySem.boot_len (pa_cons (pv 5) pa_nil)) (pv 2) (nomark _))
        (pss_cons (ps_set (i := 6) scStretch.nd rfl (Or.inl rfl) (pe_ix ix_tup (pe_ix ix_tup (pv 0) (pv 3) (fun _ _ => rfl)) pe_int (fun _ _ => rfl)))
        (pss_cons (ps_set (i := 7) scStretch.nd rfl (Or.inl rfl) (pe_callB (call_min2 rfl) (by rfl) B.min (by decide +kernel) (pa_cons (pe_op op_sub (pv 2) (pe_callB call_len_seq (by rfl) B.len PySem.boot_len (pa_cons (pv 5) pa_nil)))
            (pa_cons (pe_op op_sub (pe_call GR r1 (by rfl) DR.mg DR.fn.kp DR.bi .nil pass0 (pa_cons (pe_ix ix_tup (pv 0) (pv 3) (fun _ _ => rfl)) pa_nil)) (pv 4)) pa_nil))))
        (pss_cons (ps_set (i := 8) scStretch.nd rfl (Or.inl rfl) (pe_op op_mod (pv 4) (pe_callB call_len_seq (by rfl) B.len PySem.boot_len (pa_cons (pv 6) pa_nil))))
        (pss_cons (ps_set (i := 9) scStretch.nd rfl (Or.inl rfl) (pe_op op_add (pe_op op_fdiv (pe_op op_add (pv 8) (pv 7)) (pe_callB call_len_seq (by rfl) B.len PySem.boot_len (pa_cons (pv 6) pa_nil))) pe_int))
        (pss_cons (ps_expr (pe_bm PySem.F.plainAttrs_list PySem.F.slot_list_extend PySem.F.type_list_extend mt_extendT (pv 5) (pa_cons (pe_slice sl_tupW (pe_op op_repB (pv 6) (pv 9)) (po_some (pv 8)) (po_some (pe_op op_add (pv 8) (pv 7)))) pa_nil)))
        (pss_cons (ps_set (i := 3) scStretch.nd rfl (Or.inl rfl) (pe_op op_mod (pe_op op_add (pv 3) pe_int) (pe_callB call_len_seq (by rfl) B.len PySem.boot_len (pa_cons (pv 0) pa_nil))))
        (pss_one (ps_set (i := 4) scStretch.nd rfl (Or.inl rfl) pe_int)))))))))
      (pss_one (ps_ret (pe_tupleOf (by rfl) B.tuple (pv 5)))))), ?_⟩
    refine ⟨.ref a, rfl, .int q0, rfl, a, q0, rs, rfl, hR, hz, fun H1 T i x s1 eT hA => ?_⟩
    refine ⟨T, _, rfl, tupNew eT, rfl, _, _, rfl, _, _, rfl, rfl, ?_⟩
    refine ⟨Nat.zero_le _, fun c nc => ?_⟩
    have sc := same_upd (o := .lst []) nc
    have hp := hz.rn.pos hz.ne
    have ncH : H c = none := s1.free nc
    have hq0 : (q0 - (pl (rs.take i) + x)) % pl rs = 0 := by
      rw [← hA.eq, Int.sub_emod, Int.emod_emod_of_dvd q0 (Int.dvd_refl _), Int.sub_self, Int.zero_emod]
    refine while_by (fun σ H' => ∃ (m i : Nat) (x : Int) (y6 y7 y8 y9 : Option V), σ = [some (.ref a), some (.int q0), some (.int (n : Int)), some (.int (i : Int)), some (.int x), some (.ref c), y6, y7, y8, y9] ∧ Same H H' ∧ H' c = some (.lst ((fst (mk rs) q0 m).map V.int)) ∧ m ≤ n ∧
        (m = n ∨ (0 ≤ x ∧ (∃ r, rs[i]? = some r ∧ x < rl r) ∧ (q0 + (m : Int) - (pl (rs.take i) + x)) % pl rs = 0)))
      (fun _ H' => leftSt n c H') ?_ ?_ ?_
    · exact ⟨0, i, x, none, none, none, none, rfl, s1.trans sc, upd_same, Nat.zero_le _, .inr ⟨hA.nn, hA.run, by rw [show q0 + ((0 : Nat) : Int) - (pl (rs.take i) + x) = q0 - (pl (rs.take i) + x) by omega]; exact hq0⟩⟩
    · rintro σ H2 ⟨m, i, x, y6, y7, y8, y9, rfl, s2, ec, hm, hd⟩
      have lf := fst_len (mk rs) q0 m
      refine ⟨.ref c, rfl, c, _, rfl, .inl (lstNew ec), .int (n : Int), rfl, _, _, rfl, rfl, _, rfl, ite2 (fun hlt => ?_) (fun hge => ?_)⟩
      · have hlt := of_decide_eq_true hlt
        rw [List.length_map, lf] at hlt
        obtain ⟨x0, ⟨r, gr, hx⟩, hmod⟩ := hd.resolve_left (by omega)
        obtain ⟨ks, ek, hT, hk⟩ := hR.same s2
        obtain ⟨k, gk, ekk⟩ : ∃ k, ks[i]? = some k ∧ r = valR k := map_at (by rw [ek]; exact gr)
        have km := List.mem_of_getElem? gk
        have kt : (ks.map fun k => V.ref k.1)[i]? = some (.ref k.1) := by rw [List.getElem?_map, gk]; rfl
        have hw := (hk k km).2
        have wl : r.2.length ≤ 3000 := hz.wo r (List.mem_of_getElem? gr)
        have wp : 0 < r.2.length := List.length_pos_iff.mpr (hz.rn r (List.mem_of_getElem? gr)).2
        have e2 : k.2.2.2 = r.2 := by rw [ekk]; rfl
        rw [e2] at hw
        -- marks
        refine ⟨.ref a, rfl, .int (i : Int), rfl, a, _, _, .ref k.1, rfl, rfl, hT, atI_nat kt, k.1, _, 1, .ref k.2.1, rfl, rfl, (hk k km).1, rfl, ?_⟩
        -- wanted
        refine ⟨.int (n : Int), rfl, .ref c, rfl, c, _, rfl, .inl (lstNew ec), _, _, rfl, rfl, .ref a, rfl, .int (i : Int), rfl, a, _, _, .ref k.1, rfl, rfl, hT, atI_nat kt, k, rfl, hk k km, by rw [e2]; exact wl, .int x, rfl, _, _, rfl, rfl, _, _, rfl, ?_⟩
        rw [List.length_map, lf, ← ekk]
        obtain ⟨wn, ewn, hw1, hw2, hw3, hw4⟩ : ∃ wn : Nat, (if rl r - x < (n : Int) - (m : Int) then rl r - x else (n : Int) - (m : Int)) = (wn : Int) ∧ 0 < wn ∧ m + wn ≤ n ∧ x + (wn : Int) ≤ rl r ∧ (m + wn = n ∨ x + (wn : Int) = rl r) := by
          split
          · exact ⟨(rl r - x).toNat, by omega, by omega, by omega, by omega, .inr (by omega)⟩
          · exact ⟨((n : Int) - (m : Int)).toNat, by omega, by omega, by omega, by omega, .inl (by omega)⟩
        rw [ewn]
        -- start
        refine ⟨.int x, rfl, .ref k.2.1, rfl, k.2.1, _, rfl, .inr hw, _, _, rfl, rfl, by rw [List.length_map]; omega, ?_⟩
        rw [List.length_map]
        obtain ⟨st, est⟩ : ∃ st : Nat, x % (r.2.length : Int) = (st : Int) := ⟨(x % (r.2.length : Int)).toNat, by have := Int.emod_nonneg x (show (r.2.length : Int) ≠ 0 by omega); omega⟩
        have stl := Int.emod_lt_of_pos x (show (0 : Int) < (r.2.length : Int) by omega)
        have est' : (x % (r.2.length : Int)).toNat = st := by omega
        show gName 8 (.int (x % (r.2.length : Int))) _ _ _
        rw [est]
        -- rounds
        refine ⟨.int (st : Int), rfl, .int (wn : Int), rfl, _, _, rfl, rfl, .ref k.2.1, rfl, k.2.1, _, rfl, .inr hw, _, _, rfl, rfl, by rw [List.length_map]; exact ⟨by omega, by omega⟩, _, _, rfl, rfl, ?_⟩
        rw [List.length_map]
        have d1 := Nat.div_add_mod (st + wn) r.2.length
        have d2 := Nat.mod_lt (st + wn) wp
        have erd : ((st : Int) + (wn : Int)) / (r.2.length : Int) + 1 = (((st + wn) / r.2.length + 1 : Nat) : Int) := by
          rw [Int.natCast_add, Int.natCast_ediv, Int.natCast_add]; rfl
        generalize (st + wn) / r.2.length = dv at d1 erd
        have d3 : r.2.length * (dv + 1) = r.2.length * dv + r.2.length := by rw [Nat.mul_add, Nat.mul_one]
        have d4 : (dv + 1) * r.2.length = r.2.length * (dv + 1) := Nat.mul_comm _ _
        generalize dv + 1 = rd at erd d3 d4
        have rd1 : 1 ≤ rd := by
          rcases Nat.eq_zero_or_pos rd with z | z
          · subst z; omega
          · exact z
        show gName 9 (.int (((st : Int) + (wn : Int)) / (r.2.length : Int) + 1)) _ _ _
        rw [erd]
        -- extend
        refine ⟨.ref c, rfl, .inl ⟨rfl, _, lstNew ec⟩, .ref k.2.1, rfl, .int (rd : Int), rfl, k.2.1, _, _, rfl, rfl, hw, by omega, ?_, ?_, fun p3 H3 s3 h3 => ?_⟩
        · intro z; rw [List.map_eq_nil_iff] at z; rw [z] at wp; exact absurd wp (by decide)
        · rw [List.length_map, Int.toNat_natCast]; omega
        rw [Int.toNat_natCast, rep_map] at h3
        refine ⟨_, rfl, _, rfl, _, rfl, _, rfl, _, _, rfl, rfl, _, rfl, p3, _, rfl, h3, fun p4 H4 s4 h4 => ?_⟩
        rw [show (st : Int) + (wn : Int) = ((st + wn : Nat) : Int) by omega, cut_mid (by omega) (by rw [List.length_map, rp_len]; omega), show st + wn - st = wn by omega, ← List.map_drop, ← List.map_take, ← est', piece hz.rn gr (q := q0 + (m : Int)) x0 hw3 hmod (by omega)] at h4
        have ec4 := (s3.trans s4) _ _ ec
        refine ⟨c, p4, _, _, rfl, rfl, ec4, h4, ?_, ?_⟩
        · rw [List.length_map, List.length_map, lf, fst_len, sizeLine_eq]; omega
        rw [← List.map_append, ← fst_add]
        have s04 : Same H (upd H4 c (.lst ((fst (mk rs) q0 (m + wn)).map V.int))) := fun b o e => by
          rw [upd_ne (ne_of_none e ncH)]; exact ((s2.trans s3).trans s4) b o e
        have hT5 := (hR.same s04)
        obtain ⟨ks5, ek5, hT5, _⟩ := hT5
        have lk5 : ks5.length = rs.length := by rw [← ek5, List.length_map]
        have il : i < rs.length := (List.getElem?_eq_some_iff.mp gr).1
        refine ⟨.int (i : Int), rfl, _, _, rfl, rfl, .ref a, rfl, a, _, rfl, .inr hT5, _, _, rfl, rfl, by rw [List.length_map]; omega, ?_⟩
        rw [List.length_map, lk5]
        show gName 3 (.int (((i : Int) + 1) % (rs.length : Int))) _ _ _
        rw [show ((i : Int) + 1) % (rs.length : Int) = (((i + 1) % rs.length : Nat) : Int) by rw [Int.natCast_emod, Int.natCast_add]; rfl]
        refine ⟨⟨m + wn, (i + 1) % rs.length, 0, _, _, _, _, rfl, s04, upd_same, hw2, ?_⟩, ?_⟩
        · rcases hw4 with z | z
          · exact .inl z
          · have nx : (i + 1) % rs.length < rs.length := Nat.mod_lt _ (by omega)
            refine .inr ⟨Int.le_refl _, ⟨rs[(i + 1) % rs.length], List.getElem?_eq_getElem nx, rl_pos (hz.rn _ (List.getElem_mem _))⟩, next_run gr ?_⟩
            rw [show q0 + ((m + wn : Nat) : Int) - (pl (rs.take i) + rl r) = q0 + (m : Int) - (pl (rs.take i) + x) by omega]; exact hmod
        · rw [leftSt_eq ec, leftSt_eq (xs := (fst (mk rs) q0 (m + wn)).map V.int) upd_same, List.length_map, List.length_map, fst_len, fst_len]; omega
      · have hge := of_decide_eq_false (eq_false_of_ne_true hge)
        rw [List.length_map, lf] at hge
        have em : m = n := by omega
        subst em
        refine ⟨.ref c, rfl, .inl ⟨c, _, rfl, lstNew ec, fun u nu => ?_⟩⟩
        exact q _ u (s2.trans (same_upd nu)) upd_same
    · intro σ H1 Q1 Q2 hq h
      obtain ⟨v, e, z, y, e1, o, v2, e2, i1, i2, e3, e4, b, e5, h6⟩ := h
      exact ⟨v, e, z, y, e1, o, v2, e2, i1, i2, e3, e4, b, e5, hq _ _ h6⟩
/-! ### spelled, of few places -/
theorem scSpelled : FnScope ["ring", "many"] ["ring"] (defScope sSpelled) := ⟨rfl, rfl, rfl, by decide +kernel, rfl, by decide +kernel, by decide +kernel⟩
def spSpelled (K : PySem.W.Frag) : Sp := fun vs H Q _ => ∃ (a : Addr) (rs : List (Int × List Int)), vs = [.ref a] ∧ RingAt K H a rs ∧ Sz rs ∧ pl rs ≤ 6000 ∧
  ∀ (H' : Hp) (T : Addr), Same H H' → H' T = some (.tup ((mk rs).map V.int)) → Q (.ref T) H'
theorem ok_spelled {f fR fP fS fT : Addr} {fd dR dP dS dT : FuncData} {t : Tok} (F : Fun K "spelled" "spelled" sSpelled f fd) (B : Bare mg) (ms : mg "MOST_SPELLED" = some (.int 6000 t)) (DR : DefAt K mg "run_places" sRunPl ["run"] fR dR) (DP : DefAt K mg "places" sRPlaces ["ring"] fP dP) (DS : DefAt K mg "spot" sSpot ["ring", "place"] fS dS)
    (DT : DefAt K mg "stretch" sStretch ["ring", "first", "many"] fT dT) : FnOk P w K mg base CX0 5 f fd ["ring"] (spSpelled K) := by
  have GP : FnOk P w K mg base CX0 2 fP dP ["ring"] (spRPlaces K) := ok_rplaces DP.fn B DR
  have GT : FnOk P w K mg base CX0 4 fT dT ["ring", "first", "many"] (spStretch K) := ok_stretch DT.fn B DR DP DS
  refine F.ok scSpelled (fun vs H Q E h => ?_) (fun cdv A outer s H vs Q E hr h => ?_)
  · obtain ⟨a, rs, rfl, _⟩ := h
    rfl
  · obtain ⟨a, rs, rfl, hR, hz, hn, q⟩ := h
    have r2 := hr.mono (show 2 ≤ 4 by decide)
    refine ⟨_, pss_cons (ps_set (i := 1) scSpelled.nd rfl (Or.inl rfl) (pe_call GP r2 (by rfl) DP.mg DP.fn.kp DP.bi .nil pass0 (pa_cons (pv 0) pa_nil)))
      (pss_cons (ps_if (pt_cmpR op_gt (pv 1) (pe_glob (v := .int 6000) rfl ms ⟨_, rfl⟩) (nomark _)) (pss_one ps_never) pss_nil)
      (pss_one (ps_ret (pe_call GT hr (by rfl) DT.mg DT.fn.kp DT.bi .nil pass0 (pa_cons (pv 0) (pa_cons pe_int (pa_cons (pv 1) pa_nil))))))), ?_⟩
    have hf := hz.few
    refine ⟨.ref a, rfl, a, rs, rfl, hR, by omega, hz.wo, fun H1 s1 => ?_⟩
    refine ⟨.int (pl rs), rfl, _, _, rfl, rfl, _, rfl, ?_⟩
    rw [decide_eq_false (by omega)]
    refine iteF ?_
    have ml := mk_len hz.rn.nn
    refine ⟨.ref a, rfl, .int (pl rs), rfl, a, 0, (mk rs).length, rs, by rw [ml]; rfl, hR.same s1, hz, by omega, fun H2 T s2 eT => q H2 T (s1.trans s2) (by rw [fst_all] at eT; exact eT)⟩
end
end K9
set_option maxHeartbeats 4000000
namespace RV
open PySem PySem.Spec PyProof.Rows L2
theorem walk_revT {K : PySem.W.Frag} {a : Addr} {xs : List V} : Walk (RT.ItvT K a xs.length) xs.length (fun H => SqT K H a xs) (YAt xs.reverse) := by
  refine ⟨fun i H hi g => ⟨hi, xs, xs[xs.length - 1 - i], g, List.getElem?_eq_getElem (by omega)⟩, fun H _ => Nat.le_refl _, fun i H x H' hi g y => ⟨y.1, ?_⟩⟩
  rw [List.getElem?_reverse hi]
  exact y.2 xs g
/-- [h(x) for x in reversed(t)], t a tuple of ints -/
theorem lc_mapRev {K : PySem.W.Frag} {te : TE} {h : Int → Int} {σ : L2.St} {H1 : Hp} {a D : Addr} {v : Nat} {ns : List Int} {Qd : Hp → Prop} (hT : SqT K H1 a (ns.map V.int)) (hl : ns.length ≤ 1000) (nD : H1 D = none)
    (hte : ∀ x ∈ ns, ∀ (H' : Hp) (Q : VK), Same H1 H' → (∀ H2, Same H' H2 → Q (.int (h x)) H2) → te ((wipe σ [v]).set v (some (.int x))) H' Q)
    (hd : ∀ H', Same H1 H' → H' D = some (.lst ((ns.reverse.map h).map V.int)) → Qd H') :
    ∃ W : Nat → Nat → Hp → Prop, (∃ m, W 0 m (upd H1 D (.lst []))) ∧ ∀ i m H, W i m H →
      ((RT.ItvT K a (ns.map V.int).length).stop i H ∧ Qd H) ∨ ((RT.ItvT K a (ns.map V.int).length).go i H ∧ ∃ Nx : Hp → Prop, (∀ H', Nx H' → ∃ m', m' < m ∧ W (i + 1) m' H') ∧ ∀ x H', (RT.ItvT K a (ns.map V.int).length).yld i H x H' → gName v x (wipe σ [v]) H' fun σ2 H2 => wipe σ2 [v] = wipe σ [v] ∧ tYes σ2 H2 fun b H3 =>
        if b = true then te σ2 H3 fun y H4 => ∃ acc, H4 D = some (.lst acc) ∧ acc.length < sizeLine ∧ Nx (upd H4 D (.lst (acc ++ [y]))) else Nx H3) := by
  refine lc_it walk_revT (fun i H' => Same H1 H' ∧ H' D = some (.lst (((ns.reverse.take i).map h).map V.int))) ⟨same_upd nD, upd_same⟩ (fun i H' _ p => sqT_same p.1 hT) (fun i x Hx H' hx p y => ?_) fun H' p => ?_
  · obtain ⟨rfl, hx⟩ := y
    rw [← List.map_reverse] at hx
    obtain ⟨k, g, rfl⟩ := map_at hx
    refine ⟨by simp [wipe, List.set_set], tt_yes (hte k (List.mem_reverse.mp (List.mem_of_getElem? g)) H' _ p.1 fun H2 s2 => ⟨_, s2 _ _ p.2, ?_, fun b o z => ?_, ?_⟩)⟩
    · rw [List.length_map, List.length_map, List.length_take, List.length_reverse]; exact few1 (by omega)
    · rw [upd_ne (ne_of_none z nD)]; exact s2 _ _ (p.1 b o z)
    · rw [upd_same, List.take_add_one, g, List.map_append, List.map_append]; rfl
  · rw [List.length_map, List.take_of_length_le (by rw [List.length_reverse]; exact Nat.le_refl _)] at p
    exact hd H' p.1 p.2
/-- [c(x) for x in range(n)] of truths -/
theorem lc_blR {te : TE} {c : Int → Bool} {σ : L2.St} {H1 : Hp} {D : Addr} {v n : Nat} {Qd : Hp → Prop} (hl : n ≤ 1000) (nD : H1 D = none)
    (hte : ∀ x : Int, 0 ≤ x → x < (n : Int) → ∀ (H' : Hp) (Q : VK), Same H1 H' → (∀ H2, Same H' H2 → Q (.bl (c x)) H2) → te ((wipe σ [v]).set v (some (.int x))) H' Q)
    (hd : ∀ H', Same H1 H' → H' D = some (.lst (((upN n).map c).map V.bl)) → Qd H') :
    ∃ W : Nat → Nat → Hp → Prop, (∃ m, W 0 m (upd H1 D (.lst []))) ∧ ∀ i m H, W i m H →
      ((Itr 0 n).stop i H ∧ Qd H) ∨ ((Itr 0 n).go i H ∧ ∃ Nx : Hp → Prop, (∀ H', Nx H' → ∃ m', m' < m ∧ W (i + 1) m' H') ∧ ∀ x H', (Itr 0 n).yld i H x H' → gName v x (wipe σ [v]) H' fun σ2 H2 => wipe σ2 [v] = wipe σ [v] ∧ tYes σ2 H2 fun b H3 =>
        if b = true then te σ2 H3 fun y H4 => ∃ acc, H4 D = some (.lst acc) ∧ acc.length < sizeLine ∧ Nx (upd H4 D (.lst (acc ++ [y]))) else Nx H3) := by
  refine lc_range (lo := 0) (n := n) (fun i H' => Same H1 H' ∧ H' D = some (.lst ((((upN n).take i).map c).map V.bl))) ⟨same_upd nD, upd_same⟩ (fun i H' hi p => ?_) fun H' p => ?_
  · have g : (upN n)[i]? = some (i : Int) := upN_get hi
    rw [Int.zero_add]
    refine ⟨by simp [wipe, List.set_set], tt_yes (hte (i : Int) (by omega) (by omega) H' _ p.1 fun H2 s2 => ⟨_, s2 _ _ p.2, ?_, fun b o z => ?_, ?_⟩)⟩
    · rw [List.length_map, List.length_map, List.length_take, upN_len]; exact few1 (by omega)
    · rw [upd_ne (ne_of_none z nD)]; exact s2 _ _ (p.1 b o z)
    · rw [upd_same, List.take_add_one, g, List.map_append, List.map_append]; rfl
  · rw [List.take_of_length_le (by rw [upN_len]; exact Nat.le_refl _)] at p
    exact hd H' p.1 p.2
theorem decV (a b : Int) : decide (V.int a = V.int b) = decide (a = b) := by
  by_cases h : a = b
  · rw [h, decide_eq_true rfl, decide_eq_true rfl]
  · rw [decide_eq_false h, decide_eq_false fun z => h (V.int.inj z)]
end RV
set_option maxHeartbeats 4000000
namespace K9
open PySem PySem.Spec PyProof.Rows L2 RV
theorem atI_m1 {xs : List V} {v : V} (h : xs[xs.length - 1]? = some v) : atI xs (-1) = some v := by
  obtain ⟨hl, e⟩ := List.getElem?_eq_some_iff.mp h
  have ne : xs ≠ [] := fun z => by rw [z] at hl; exact absurd hl (by decide)
  have z : xs = xs.dropLast ++ [v] := by rw [← e, ← List.getLast_eq_getElem ne, List.dropLast_concat_getLast]
  rw [z]
  exact atI_last _ _
/-! ### pairs of marks that stand beside one another -/
def zpW (w : List Int) : List (List Int) := (w.zip (w.drop 1)).map fun p => [p.1, p.2]
theorem zpW_len (w : List Int) : (zpW w).length = min w.length (w.length - 1) := by unfold zpW; rw [List.length_map, List.length_zip, List.length_drop]
theorem zpW_get {w : List Int} {j : Nat} {x y : Int} (h1 : w[j]? = some x) (h2 : w[j + 1]? = some y) : (zpW w)[j]? = some [x, y] := by
  unfold zpW
  rw [List.getElem?_map, show (w.zip (w.drop 1))[j]? = some (x, y) from List.getElem?_zip_eq_some.mpr ⟨h1, by rw [List.getElem?_drop, Nat.add_comm]; exact h2⟩]; rfl
def lsW (w : List Int) : Int := w.getD (w.length - 1) 0
def fsW (w : List Int) : Int := w.getD 0 0
def wdR (rs : List (Int × List Int)) (i : Nat) : List Int := (rs.getD i (0, [])).2
def nbR (rs : List (Int × List Int)) (i : Nat) : List (List Int) := zpW (wdR rs i) ++ (if 1 < (rs.getD i (0, [])).1 then [[lsW (wdR rs i), fsW (wdR rs i)]] else []) ++ [[lsW (wdR rs i), fsW (wdR rs ((i + 1) % rs.length))]]
def nbs (rs : List (Int × List Int)) (n : Nat) : List (List Int) := (List.range n).flatMap (nbR rs)
theorem nbs_next (rs : List (Int × List Int)) (n : Nat) : nbs rs (n + 1) = nbs rs n ++ nbR rs n := by
  unfold nbs; rw [List.range_succ, List.flatMap_append, List.flatMap_cons, List.flatMap_nil, List.append_nil]
theorem nbR_len {rs : List (Int × List Int)} {i k : Nat} (h : (wdR rs i).length ≤ k) : (nbR rs i).length ≤ k + 2 := by
  unfold nbR
  rw [List.length_append, List.length_append, zpW_len]
  have : (if 1 < (rs.getD i (0, [])).1 then [[lsW (wdR rs i), fsW (wdR rs i)]] else []).length ≤ 1 := by split <;> simp
  simp only [List.length_cons, List.length_nil]; omega
theorem nbs_len {rs : List (Int × List Int)} {k : Nat} (h : ∀ r ∈ rs, r.2.length ≤ k) : ∀ n, (nbs rs n).length ≤ n * (k + 2)
  | 0 => by unfold nbs; simp
  | n + 1 => by
    rw [nbs_next, List.length_append, Nat.succ_mul]
    have := nbs_len h n
    have z : (wdR rs n).length ≤ k := by
      unfold wdR
      rw [List.getD_eq_getElem?_getD]
      cases e : rs[n]? with
      | none => exact Nat.zero_le _
      | some r => exact h r (List.mem_of_getElem? e)
    have := nbR_len z
    omega
theorem getD_of {α : Type} {l : List α} {i : Nat} {x d : α} (h : l[i]? = some x) : l.getD i d = x := by rw [List.getD_eq_getElem?_getD, h]; rfl
theorem get_D {l : List Int} {i : Nat} (h : i < l.length) : l[i]? = some (l.getD i 0) := by rw [List.getD_eq_getElem?_getD, List.getElem?_eq_getElem h]; rfl
theorem nbR_at {rs : List (Int × List Int)} {i : Nat} {r r2 : Int × List Int} (h : rs[i]? = some r) (h2 : rs[(i + 1) % rs.length]? = some r2) : nbR rs i = zpW r.2 ++ (if 1 < r.1 then [[lsW r.2, fsW r.2]] else []) ++ [[lsW r.2, fsW r2.2]] := by
  unfold nbR wdR; rw [getD_of h, getD_of h2]
/-- of a ring that may go round all of them are steps -/
theorem nbs_in {rs : List (Int × List Int)} {ps : List (List Int)} (rn : Rn rs) (c : Cyc ps (mk rs)) : ∀ p ∈ nbs rs rs.length, p ∈ ps := by
  intro p hp
  unfold nbs at hp
  obtain ⟨i, hi, hp⟩ := List.mem_flatMap.mp hp
  have hi := List.mem_range.mp hi
  have g : rs[i]? = some rs[i] := List.getElem?_eq_getElem hi
  have nx : (i + 1) % rs.length < rs.length := Nat.mod_lt _ (by omega)
  have g2 : rs[(i + 1) % rs.length]? = some rs[(i + 1) % rs.length] := List.getElem?_eq_getElem nx
  rw [nbR_at g g2] at hp
  generalize rs[i] = r at g hp
  generalize rs[(i + 1) % rs.length] = r2 at g2 hp
  have hr := rn r (List.mem_of_getElem? g)
  have hr2 := rn r2 (List.mem_of_getElem? g2)
  have hw : 0 < r.2.length := List.length_pos_iff.mpr hr.2
  have hw2 : 0 < r2.2.length := List.length_pos_iff.mpr hr2.2
  -- the pair of two places beside one another in the run
  have pos : ∀ (j : Nat) (x y : Int), (j : Int) + 1 < rl r → r.2[j % r.2.length]? = some x → r.2[(j + 1) % r.2.length]? = some y → [x, y] ∈ ps := fun j x y hj e1 e2 => by
    have z1 := mP_run rn g (q := pl (rs.take i) + (j : Int)) (i := j) (by omega) (by rw [Int.sub_self, Int.zero_emod])
    have z2 := mP_run rn g (q := pl (rs.take i) + (j : Int) + 1) (i := j + 1) (by omega) (by rw [show pl (rs.take i) + (j : Int) + 1 - (pl (rs.take i) + ((j + 1 : Nat) : Int)) = 0 by omega, Int.zero_emod])
    have := c (pl (rs.take i) + (j : Int))
    rw [e1] at z1; rw [e2] at z2
    cases z1; cases z2
    exact this
  have rle : (r.2.length : Int) ≤ rl r := by
    unfold rl
    have := Int.mul_le_mul_of_nonneg_right (show (1 : Int) ≤ r.1 from hr.1) (show (0 : Int) ≤ (r.2.length : Int) by omega)
    omega
  rcases List.mem_append.mp hp with hp | hp
  · rcases List.mem_append.mp hp with hp | hp
    · obtain ⟨q, hq, rfl⟩ := List.mem_map.mp hp
      obtain ⟨j, hj⟩ := List.getElem?_of_mem hq
      obtain ⟨h1, h2⟩ := List.getElem?_zip_eq_some.mp hj
      rw [List.getElem?_drop, Nat.add_comm] at h2
      have b := (List.getElem?_eq_some_iff.mp h2).1
      exact pos j q.1 q.2 (by omega) (by rw [Nat.mod_eq_of_lt (by omega)]; exact h1) (by rw [Nat.mod_eq_of_lt b]; exact h2)
    · split at hp
      · rename_i ht
        rw [List.mem_singleton.mp hp]
        have rle2 : 2 * (r.2.length : Int) ≤ rl r := by
          unfold rl
          have := Int.mul_le_mul_of_nonneg_right (show (2 : Int) ≤ r.1 by omega) (show (0 : Int) ≤ (r.2.length : Int) by omega)
          omega
        exact pos (r.2.length - 1) _ _ (by omega) (by rw [Nat.mod_eq_of_lt (by omega)]; exact get_D (by omega)) (by rw [Nat.sub_add_cancel hw, Nat.mod_self]; exact get_D hw)
      · exact absurd hp (List.not_mem_nil)
  · rw [List.mem_singleton.mp hp]
    obtain ⟨e, he⟩ : ∃ e : Nat, rl r = (e : Int) := ⟨(rl r).toNat, by have := rl_pos hr; omega⟩
    have hrl := rl_pos hr
    have ee : e = r.1.toNat * r.2.length := by have := rl_nat (r := r) (by have := hr.1; omega); omega
    have z1 := mP_run rn g (q := pl (rs.take i) + (((e - 1 : Nat) : Int))) (i := e - 1) (by omega) (by rw [Int.sub_self, Int.zero_emod])
    have z2 := mP_run rn g2 (q := pl (rs.take i) + (((e - 1 : Nat) : Int)) + 1) (i := 0) (rl_pos hr2) (by
      refine next_run g ?_
      rw [show pl (rs.take i) + (((e - 1 : Nat) : Int)) + 1 - (pl (rs.take i) + rl r) = 0 by omega, Int.zero_emod])
    have := c (pl (rs.take i) + (((e - 1 : Nat) : Int)))
    have lm : (e - 1) % r.2.length = r.2.length - 1 := by
      have h1 : 1 ≤ r.1.toNat := by have := hr.1; omega
      obtain ⟨k, hk⟩ : ∃ k, r.1.toNat = k + 1 := ⟨r.1.toNat - 1, by omega⟩
      have : e - 1 = (r.2.length - 1) + r.2.length * k := by rw [ee, hk, Nat.succ_mul, Nat.mul_comm]; omega
      rw [this, Nat.add_mul_mod_self_left, Nat.mod_eq_of_lt (by omega)]
    rw [lm, get_D (by omega)] at z1
    rw [Nat.zero_mod, get_D hw2] at z2
    have a1 : lsW r.2 = mP (mk rs) (pl (rs.take i) + (((e - 1 : Nat) : Int))) := Option.some.inj z1
    have a2 : fsW r2.2 = mP (mk rs) (pl (rs.take i) + (((e - 1 : Nat) : Int)) + 1) := Option.some.inj z2
    rw [a1, a2]; exact this
/-- the list at l holds the pairs ks, over the heap H -/
structure Bag (l : Addr) (H H' : Hp) (ks : List (Addr × List Int)) : Prop where
  sm : Same H H'
  li : H' l = some (.lst (ks.map fun q => V.ref q.1))
  tu : ∀ q ∈ ks, H' q.1 = some (.tup (q.2.map V.int))
theorem Bag.new {l a : Addr} {H H' : Hp} {o : HO} {ks : List (Addr × List Int)} (c : Bag l H H' ks) (h : H' a = none) : Bag l H (upd H' a o) ks :=
  ⟨c.sm.trans (same_upd h), same_upd h _ _ c.li, fun q hq => same_upd h _ _ (c.tu q hq)⟩
theorem Bag.same {l : Addr} {H H' H2 : Hp} {ks : List (Addr × List Int)} (c : Bag l H H' ks) (s : Same H' H2) : Bag l H H2 ks := ⟨c.sm.trans s, s _ _ c.li, fun q hq => s _ _ (c.tu q hq)⟩
theorem Bag.more {l : Addr} {H H' : Hp} {ks js : List (Addr × List Int)} (c : Bag l H H' ks) (hl : H l = none) (hj : ∀ q ∈ js, H' q.1 = some (.tup (q.2.map V.int))) : Bag l H (upd H' l (.lst ((ks.map fun q => V.ref q.1) ++ js.map fun q => V.ref q.1))) (ks ++ js) := by
  refine ⟨fun b o e => ?_, by rw [upd_same, List.map_append], fun q hq => ?_⟩
  · rw [upd_ne (ne_of_none e hl)]; exact c.sm b o e
  · have e : H' q.1 = some (.tup (q.2.map V.int)) := by
      rcases List.mem_append.mp hq with w | w
      · exact c.tu q w
      · exact hj q w
    rw [upd_ne (ne_of e c.li (by intro z; cases z))]; exact e
section
variable {P : Program} {w : World} {K : PySem.W.Frag} {mg : Str → Option Value} {base : Heap}
/-! ### is_run -/
theorem scIsRun : FnScope ["rule", "thing", "times", "marks"] ["rule", "thing"] (defScope sIsRun) := ⟨rfl, rfl, rfl, by decide +kernel, rfl, by decide +kernel, by decide +kernel⟩
def spIsRun (K : PySem.W.Frag) (C : Addr) : Sp := fun vs H Q _ => ∃ (r : Addr) (k : Rk) (ns : List Int) (ps : List (List Int)), vs = [.ref r, .ref k.1] ∧ RuleAt K C H r ns ps ∧ RunOk K H k ∧ 1 ≤ k.2.2.1 ∧ k.2.2.2 ≠ [] ∧ k.2.2.2.length ≤ 1000 ∧ (∀ x ∈ k.2.2.2, 0 ≤ x ∧ x < (ns.length : Int)) ∧ ∀ H', Same H H' → Q (.bl true) H'
theorem ok_isrun {f C fM fA fK fW : Addr} {fd dM dA dK dW : FuncData} (F : Fun K "is_run" "is_run" sIsRun f fd) (T : Txt K mg C) (B : Bare mg)
    (FM : Fun K "marks" "Rule.marks" sMarksM fM dM) (bM : Binds K dM ["self"] []) (mM : Meth K C "marks" fM)
    (DA : DefAt K mg "are_marks" sMarks ["thing", "many"] fA dA) (DK : DefAt K mg "is_below" sMark ["thing", "many"] fK dK) (DW : DefAt K mg "is_whole" sWhole ["thing"] fW dW) : FnOk P w K mg base CX0 4 f fd ["rule", "thing"] (spIsRun K C) := by
  have GM : FnOk P w K mg base CX0 1 fM dM ["self"] (spMarksM K C) := ok_marksM FM T B
  have GA : FnOk P w K mg base CX0 3 fA dA ["thing", "many"] (spMarks K) := ok_marks DA.fn DK DW B
  have GW : FnOk P w K mg base CX0 1 fW dW ["thing"] spWhole := ok_whole DW.fn B
  refine F.ok scIsRun (fun vs H Q E h => ?_) (fun cdv A outer s H vs Q E hr h => ?_)
  · obtain ⟨r, k, ns, ps, rfl, _⟩ := h
    rfl
  · obtain ⟨r, k, ns, ps, rfl, R, hk, t1, w1, w2, hin, q⟩ := h
    have r1 := hr.mono (show 1 ≤ 3 by decide)
    refine ⟨_, pss_cons (ps_if (PW.pt (pw_or (pt_not (pt_val (pe_callB call_isi (by rfl) B.isinstance (by decide +kernel) (pa_cons (pv 1) (pa_cons (pe_bltn (v := .ty "tuple") (by rfl) B.tuple (by decide +kernel) rfl) pa_nil)))))
        (pw_or1 (pt_cmpR op_ne (pe_callB call_len_seq (by rfl) B.len PySem.boot_len (pa_cons (pv 1) pa_nil)) pe_int (nomark _))))) (pss_one (ps_ret pe_bl)) pss_nil)
      (pss_cons (ps_asg (pv 1) (pg_tup (by rfl) (pgs_cons (pg_name (i := 2) scIsRun.nd rfl (Or.inl rfl)) (pgs_cons (pg_name (i := 3) scIsRun.nd rfl (Or.inl rfl)) pgs_nil))))
      (pss_one (ps_ret (pe_and (pe_call GW r1 (by rfl) DW.mg DW.fn.kp DW.bi .nil pass0 (pa_cons (pv 2) pa_nil)) (pe_and (pe_cmpR op_ge (pv 2) pe_int (nomark _)) (pe_one (pe_call GA hr (by rfl) DA.mg DA.fn.kp DA.bi .nil pass0 (pa_cons (pv 3) (pa_cons (pe_meth0 (pv 0) T.cl mM GM r1 bM .nil pass0) pa_nil))))))))), ?_⟩
    refine ⟨.ref k.1, rfl, .ref k.1, .ty "tuple", _, _, true, rfl, .ty "tuple", tyT hk.1, kit_ty (by decide +kernel), true, rfl, iteF ?_⟩
    refine ⟨.ref k.1, rfl, k.1, _, rfl, .inr hk.1, rfl, _, rfl, ?_⟩
    refine iteF ?_
    refine ⟨.ref k.1, rfl, k.1, _, rfl, hk.1, rfl, _, _, rfl, _, _, rfl, rfl, ?_⟩
    refine ⟨.int k.2.2.1, rfl, k.2.2.1, rfl, true, rfl, iteT ?_⟩
    refine ⟨.int k.2.2.1, rfl, _, _, rfl, rfl, _, rfl, ?_⟩
    rw [decide_eq_true (show k.2.2.1 ≥ 1 from t1)]
    obtain ⟨dx, a0, b0, t0, g1, g2, g3, g4⟩ := R.ex
    have fno := flds_no a0 b0 t0 (m := "marks") (by decide +kernel) (by decide +kernel) (by decide +kernel)
    refine iteT ⟨.ref k.2.1, rfl, .ref r, rfl, r, dx, _, rfl, g1, fno, r, ns, ps, rfl, R, ?_⟩
    exact ⟨k.2.1, k.2.2.2, _, rfl, hk.2, List.length_pos_iff.mpr w1, w2, hin, q⟩
/-! ### neighbours -/
theorem scNeighb : FnScope ["ring", "pairs", "at", "times", "marks", "coming"] ["ring"] (defScope sNeighb) := ⟨rfl, rfl, rfl, by decide +kernel, rfl, by decide +kernel, by decide +kernel⟩
def spNeighb (K : PySem.W.Frag) : Sp := fun vs H Q _ => ∃ (a : Addr) (rs : List (Int × List Int)), vs = [.ref a] ∧ RingAt K H a rs ∧ Sz rs ∧
  ∀ (H' : Hp) (l : Addr) (ks : List (Addr × List Int)), Bag l H H' ks → ks.map (·.2) = nbs rs rs.length → Q (.ref l) H'
theorem ok_neighb {f : Addr} {fd : FuncData} (F : Fun K "neighbours" "neighbours" sNeighb f fd) (B : Bare mg) : FnOk P w K mg base CX0 1 f fd ["ring"] (spNeighb K) := by
  refine F.ok scNeighb (fun vs H Q E h => ?_) (fun cdv A outer s H vs Q E hr h => ?_)
  · obtain ⟨a, rs, rfl, _⟩ := h
    rfl
  · obtain ⟨a, rs, rfl, ⟨ks, rfl, hT, hk⟩, hz, q⟩ := h
    have hf := hz.few
    rw [List.length_map] at hf
    refine ⟨_, pss_cons (ps_set (i := 1) scNeighb.nd rfl (Or.inl rfl) (pe_lst pa_nil))
      (pss_cons (ps_for PassesOwn.never rfl (pi_enT (by rfl) B.enumerate (pa_cons (pv 0) pa_nil)) (pg_tup rfl (pgs_cons (pg_name (i := 2) scNeighb.nd rfl (Or.inl rfl)) (pgs_cons (pg_tup rfl (pgs_cons (pg_name (i := 3) scNeighb.nd rfl (Or.inl rfl)) (pgs_cons (pg_name (i := 4) scNeighb.nd rfl (Or.inl rfl)) pgs_nil))) pgs_nil)))
        (pss_cons (ps_expr (pe_bm PySem.F.plainAttrs_list PySem.F.slot_list_extend PySem.F.type_list_extend mt_extend (pv 1) (pa_cons (pe_listZip rfl (by rfl) B.list (by rfl) B.zip (pa_cons (pv 4) (pa_cons (pe_slice sl_tupW (pv 4) (po_some pe_int) po_none) pa_nil))) pa_nil)))
        (pss_cons (ps_if (pt_cmpR op_gt (pv 3) pe_int (nomark _))
          (pss_one (ps_expr (pe_bm PySem.F.plainAttrs_list PySem.F.slot_list_append PySem.F.type_list_append mt_append (pv 1) (pa_cons (pe_tup (pa_cons (pe_ix ix_tup (pv 4) (pe_un un_neg pe_int) (fun _ _ => rfl)) (pa_cons (pe_ix ix_tup (pv 4) pe_int (fun _ _ => rfl)) pa_nil))) pa_nil)))) pss_nil)
        (pss_cons (ps_set (i := 5) scNeighb.nd rfl (Or.inl rfl) (pe_ix ix_tup (pe_ix ix_tup (pv 0) (pe_op op_mod (pe_op op_add (pv 2) pe_int) (pe_callB call_len_seq (by rfl) B.len PySem.boot_len (pa_cons (pv 0) pa_nil))) (fun _ _ => rfl)) pe_int (fun _ _ => rfl)))
        (pss_one (ps_expr (pe_bm PySem.F.plainAttrs_list PySem.F.slot_list_append PySem.F.type_list_append mt_append (pv 1) (pa_cons (pe_tup (pa_cons (pe_ix ix_tup (pv 4) (pe_un un_neg pe_int) (fun _ _ => rfl)) (pa_cons (pe_ix ix_tup (pv 5) pe_int (fun _ _ => rfl)) pa_nil))) pa_nil))))))))
      (pss_one (ps_ret (pv 1)))), ?_⟩
    refine ⟨Nat.zero_le _, fun l nl => ?_⟩
    have sl := same_upd (o := .lst []) nl
    refine ⟨.ref a, rfl, a, _, rfl, sqT_same sl hT, ?_⟩
    refine for_it (walk_enT (K := K) (a := a) (xs := ks.map fun k => V.ref k.1)) (fun i σ H' => ∃ (qs : List (Addr × List Int)) (y2 y3 y4 y5 : Option V), σ = [some (.ref a), some (.ref l), y2, y3, y4, y5] ∧ Bag l H H' qs ∧ qs.map (·.2) = nbs (ks.map valR) i)
      ⟨[], none, none, none, none, rfl, ⟨sl, upd_same, fun _ z => nomatch z⟩, rfl⟩ (fun i σ H' _ h => ?_) (fun i x σ H2 H3 hi h y => ?_) (fun σ H' h => ?_)
    · obtain ⟨_, _, _, _, _, _, b, _⟩ := h
      exact sqT_same b.sm hT
    · obtain ⟨qs, y2, y3, y4, y5, rfl, b, eq⟩ := h
      obtain ⟨T0, x1, x2, rfl, nT, rfl, e1, e2⟩ := y
      have e1' : x1 = .int (i : Nat) := (Option.some.inj e1).symm
      subst e1'
      obtain ⟨k, g, rfl⟩ := map_at e2
      have km := List.mem_of_getElem? g
      have hik : i < ks.length := (List.getElem?_eq_some_iff.mp g).1
      have b2 := b.new (o := .tup [.int (i : Nat), .ref k.1]) nT
      have gr : (ks.map valR)[i]? = some (valR k) := by rw [List.getElem?_map, g]; rfl
      have nx : (i + 1) % ks.length < ks.length := Nat.mod_lt _ (by omega)
      obtain ⟨k2, gk2⟩ : ∃ k2, ks[(i + 1) % ks.length]? = some k2 := ⟨_, List.getElem?_eq_getElem nx⟩
      have gr2 : (ks.map valR)[(i + 1) % (ks.map valR).length]? = some (valR k2) := by rw [List.length_map, List.getElem?_map, gk2]; rfl
      have km2 := List.mem_of_getElem? gk2
      have nbe := nbR_at gr gr2
      have w1 : 0 < k.2.2.2.length := List.length_pos_iff.mpr (hz.rn _ (List.mem_of_getElem? gr)).2
      have w2 : 0 < k2.2.2.2.length := List.length_pos_iff.mpr (hz.rn _ (List.mem_of_getElem? gr2)).2
      have wl : k.2.2.2.length ≤ 3000 := hz.wo _ (List.mem_of_getElem? gr)
      have hk3 := (hk k km).same b2.sm
      have ql : qs.length ≤ 400000 := by
        have z := congrArg List.length eq
        rw [List.length_map] at z
        have n := nbs_len hz.wo i
        have : i * 3002 ≤ 100 * 3002 := Nat.mul_le_mul_right _ (by omega)
        omega
      refine ⟨T0, _, rfl, tupNew upd_same, rfl, _, _, rfl, _, _, rfl, ⟨k.1, _, rfl, hk3.1, rfl, _, _, rfl, _, _, rfl, rfl, rfl, ?_⟩⟩
      generalize upd H2 T0 (.tup [.int (i : Nat), .ref k.1]) = H4 at b2 hk3 ⊢
      -- extend by the pairs within the word
      refine ⟨.ref l, rfl, .inl ⟨rfl, _, lstNew b2.li⟩, .ref k.2.1, rfl, .ref k.2.1, rfl, 1, rfl, k.2.1, _, rfl, hk3.2, fun p5 H5 s5 h5 => ?_⟩
      rw [show (some (1 : Int)) = some ((1 : Nat) : Int) from rfl, cut_from, ← List.map_drop] at h5
      refine ⟨k.2.1, p5, _, _, rfl, sqT_same s5 hk3.2, h5, fun H6 p6 ts s6 np6 hp6 lt6 at6 => ?_⟩
      rw [List.length_map, List.length_map, List.length_drop] at lt6
      have b6 := b2.same (s5.trans s6)
      have zl := zpW_len k.2.2.2
      have tsl : ts.length = (zpW k.2.2.2).length := by rw [zl, lt6]
      have eJ1 : (ts.zip (zpW k.2.2.2)).map (fun q => V.ref q.1) = ts.map V.ref := by
        have z : (ts.zip (zpW k.2.2.2)).map Prod.fst = ts := List.map_fst_zip (by omega)
        conv => rhs; rw [← z]
        rw [List.map_map]; rfl
      have eJ2 : (ts.zip (zpW k.2.2.2)).map (·.2) = zpW k.2.2.2 := List.map_snd_zip (by omega)
      have b7 := b6.more nl (js := ts.zip (zpW k.2.2.2)) (fun u hu => by
        obtain ⟨j, hj⟩ := List.getElem?_of_mem hu
        obtain ⟨h1, h2⟩ := List.getElem?_zip_eq_some.mp hj
        obtain ⟨x, y, ex, ey, et⟩ := at6 j _ h1
        obtain ⟨x', gx, rfl⟩ := map_at ex
        obtain ⟨y', gy, rfl⟩ := map_at ey
        rw [List.getElem?_drop, Nat.add_comm] at gy
        rw [zpW_get gx gy] at h2
        rw [← Option.some.inj h2]; exact et)
      rw [eJ1] at b7
      refine ⟨l, p6, _, _, rfl, rfl, b6.li, hp6, ?_, ?_⟩
      · rw [List.length_map, List.length_map, tsl, zl, sizeLine_eq]; omega
      have eq7 : (qs ++ ts.zip (zpW k.2.2.2)).map (·.2) = nbs (ks.map valR) i ++ zpW k.2.2.2 := by rw [List.map_append, eq, eJ2]
      have ql7 : (qs ++ ts.zip (zpW k.2.2.2)).length ≤ 404000 := by rw [List.length_append, List.length_zip]; omega
      generalize upd H6 l (.lst ((qs.map fun q => V.ref q.1) ++ ts.map V.ref)) = H7 at b7 ⊢
      generalize qs ++ ts.zip (zpW k.2.2.2) = q7 at b7 eq7 ql7
      -- round again
      have gl : (k.2.2.2.map V.int)[(k.2.2.2.map V.int).length - 1]? = some (.int (lsW k.2.2.2)) := by
        rw [List.length_map, List.getElem?_map, get_D (by omega)]; rfl
      have g0 : (k.2.2.2.map V.int)[0]? = some (.int (fsW k.2.2.2)) := by rw [List.getElem?_map, get_D w1]; rfl
      have g02 : (k2.2.2.2.map V.int)[0]? = some (.int (fsW k2.2.2.2)) := by rw [List.getElem?_map, get_D w2]; rfl
      dsimp only
      refine seq_mid (fun σ H' => ∃ q8 : List (Addr × List Int), σ = [some (.ref a), some (.ref l), some (.int (i : Nat)), some (.int k.2.2.1), some (.ref k.2.1), y5] ∧ Bag l H H' q8 ∧ q8.length ≤ 404001 ∧ q8.map (·.2) = nbs (ks.map valR) i ++ zpW k.2.2.2 ++ (if 1 < k.2.2.1 then [[lsW k.2.2.2, fsW k.2.2.2]] else [])) ?_ fun tail => ?_
      · rintro σ H8 ⟨q8, rfl, b8, l8, e8⟩
        have hT8 := sqT_same b8.sm hT
        refine ⟨.ref a, rfl, .int (i : Nat), rfl, _, _, rfl, rfl, .ref a, rfl, a, _, rfl, .inr hT8, _, _, rfl, rfl, by rw [List.length_map]; omega, ?_⟩
        refine ⟨a, _, _, .ref k2.1, rfl, rfl, hT8, ?_, ?_⟩
        · rw [List.length_map, show ((i : Int) + 1) % (ks.length : Int) = (((i + 1) % ks.length : Nat) : Int) by rw [Int.natCast_emod, Int.natCast_add]; rfl]
          exact atI_nat (by rw [List.getElem?_map, gk2]; rfl)
        refine ⟨k2.1, _, 1, .ref k2.2.1, rfl, rfl, ((hk k2 km2).same b8.sm).1, rfl, ?_⟩
        refine ⟨.ref l, rfl, .inl ⟨rfl, _, lstNew b8.li⟩, .ref k.2.1, rfl, 1, rfl, k.2.1, _, _, .int (lsW k.2.2.2), rfl, rfl, sqT_same b8.sm (hk k km).2, atI_m1 gl, ?_⟩
        refine ⟨.ref k2.2.1, rfl, k2.2.1, _, 0, .int (fsW k2.2.2.2), rfl, rfl, sqT_same b8.sm (hk k2 km2).2, atI_nat (j := 0) g02, (by show 2 ≤ sizeLine; decide), fun T9 nT9 => ?_⟩
        have b9 := b8.new (o := .tup [.int (lsW k.2.2.2), .int (fsW k2.2.2.2)]) nT9
        have b10 := b9.more nl (js := [(T9, [lsW k.2.2.2, fsW k2.2.2.2])]) (fun u hu => by rw [List.mem_singleton.mp hu]; exact upd_same)
        refine ⟨l, _, _, rfl, rfl, b9.li, ?_, ?_⟩
        · rw [List.length_map, sizeLine_eq]; omega
        refine ⟨_, _, _, _, _, rfl, b10, ?_⟩
        rw [List.map_append, e8, nbs_next, nbe, List.append_assoc, List.append_assoc, List.append_assoc]
        rfl
      · refine ⟨.int k.2.2.1, rfl, _, _, rfl, rfl, _, rfl, ite2 (fun h1 => ?_) (fun h1 => ?_)⟩
        · have h1 : 1 < k.2.2.1 := of_decide_eq_true h1
          refine ⟨.ref l, rfl, .inl ⟨rfl, _, lstNew b7.li⟩, .ref k.2.1, rfl, 1, rfl, k.2.1, _, _, .int (lsW k.2.2.2), rfl, rfl, sqT_same b7.sm (hk k km).2, atI_m1 gl, ?_⟩
          refine ⟨.ref k.2.1, rfl, k.2.1, _, 0, .int (fsW k.2.2.2), rfl, rfl, sqT_same b7.sm (hk k km).2, atI_nat (j := 0) g0, (by show 2 ≤ sizeLine; decide), fun T9 nT9 => ?_⟩
          have b9 := b7.new (o := .tup [.int (lsW k.2.2.2), .int (fsW k.2.2.2)]) nT9
          have b10 := b9.more nl (js := [(T9, [lsW k.2.2.2, fsW k.2.2.2])]) (fun u hu => by rw [List.mem_singleton.mp hu]; exact upd_same)
          refine ⟨l, _, _, rfl, rfl, b9.li, ?_, ?_⟩
          · rw [List.length_map, sizeLine_eq]; omega
          refine tail _ _ ⟨_, rfl, b10, ?_, ?_⟩
          · rw [List.length_append]; simp only [List.length_cons, List.length_nil]; omega
          · rw [List.map_append, eq7, if_pos h1]; rfl
        · have h1 : ¬ 1 < k.2.2.1 := fun z => h1 (decide_eq_true z)
          exact tail _ _ ⟨_, rfl, b7, by omega, by rw [eq7, if_neg h1, List.append_nil]⟩
    · obtain ⟨qs, y2, y3, y4, y5, rfl, b, eq⟩ := h
      rw [List.length_map] at eq
      exact ⟨.ref l, rfl, q H' l qs b (by rw [eq, List.length_map])⟩
/-! ### is_ring -/
theorem scIsRing : FnScope ["rule", "thing", "run", "a", "b"] ["rule", "thing"] (defScope sIsRing) := ⟨rfl, rfl, rfl, by decide +kernel, rfl, by decide +kernel, by decide +kernel⟩
/-- a ring of small words whose marks are the rule's -/
structure Rg (ns : List Int) (rs : List (Int × List Int)) : Prop where
  sz : Sz rs
  wo : ∀ r ∈ rs, r.2.length ≤ 1000
  inn : ∀ r ∈ rs, ∀ x ∈ r.2, 0 ≤ x ∧ x < (ns.length : Int)
def spIsRing (K : PySem.W.Frag) (C : Addr) : Sp := fun vs H Q _ => ∃ (r a : Addr) (rs : List (Int × List Int)) (ns : List Int) (ps : List (List Int)), vs = [.ref r, .ref a] ∧ RuleAt K C H r ns ps ∧ Mir ns ∧ Stp ns ps ∧ RingAt K H a rs ∧ Rg ns rs ∧
  ∀ H', Same H H' → Q (.bl ((nbs rs rs.length).all fun p => decide (p ∈ ps))) H'
theorem nbs_marks {ns : List Int} {rs : List (Int × List Int)} (g : Rg ns rs) : ∀ p ∈ nbs rs rs.length, Pr (ns.length : Int) p := by
  intro p hp
  unfold nbs at hp
  obtain ⟨i, hi, hp⟩ := List.mem_flatMap.mp hp
  have hi := List.mem_range.mp hi
  have gi : rs[i]? = some rs[i] := List.getElem?_eq_getElem hi
  have nx : (i + 1) % rs.length < rs.length := Nat.mod_lt _ (by omega)
  have g2 : rs[(i + 1) % rs.length]? = some rs[(i + 1) % rs.length] := List.getElem?_eq_getElem nx
  rw [nbR_at gi g2] at hp
  generalize rs[i] = r at gi hp
  generalize rs[(i + 1) % rs.length] = r2 at g2 hp
  have m1 := g.inn r (List.mem_of_getElem? gi)
  have m2 := g.inn r2 (List.mem_of_getElem? g2)
  have w1 : 0 < r.2.length := List.length_pos_iff.mpr (g.sz.rn r (List.mem_of_getElem? gi)).2
  have w2 : 0 < r2.2.length := List.length_pos_iff.mpr (g.sz.rn r2 (List.mem_of_getElem? g2)).2
  have ml : lsW r.2 ∈ r.2 := List.mem_of_getElem? (get_D (show r.2.length - 1 < r.2.length by omega))
  have mf : fsW r.2 ∈ r.2 := List.mem_of_getElem? (get_D w1)
  have mf2 : fsW r2.2 ∈ r2.2 := List.mem_of_getElem? (get_D w2)
  rcases List.mem_append.mp hp with hp | hp
  · rcases List.mem_append.mp hp with hp | hp
    · obtain ⟨q, hq, rfl⟩ := List.mem_map.mp hp
      obtain ⟨h1, h2⟩ := List.of_mem_zip hq
      exact ⟨q.1, q.2, rfl, m1 _ h1, m1 _ (List.mem_of_mem_drop h2)⟩
    · split at hp
      · rw [List.mem_singleton.mp hp]; exact ⟨_, _, rfl, m1 _ ml, m1 _ mf⟩
      · exact absurd hp (List.not_mem_nil)
  · rw [List.mem_singleton.mp hp]; exact ⟨_, _, rfl, m1 _ ml, m2 _ mf2⟩
theorem ok_isring {f C fM fB fR fN fA fK fW : Addr} {fd dM dB dR dN dA dK dW : FuncData} (F : Fun K "is_ring" "is_ring" sIsRing f fd) (T : Txt K mg C) (B : Bare mg)
    (FM : Fun K "marks" "Rule.marks" sMarksM fM dM) (bM : Binds K dM ["self"] []) (mM : Meth K C "marks" fM) (FB : Fun K "behind" "Rule.behind" sBehindM fB dB) (bB : Binds K dB ["self", "mark"] []) (mB : Meth K C "behind" fB)
    (DR : DefAt K mg "is_run" sIsRun ["rule", "thing"] fR dR) (DN : DefAt K mg "neighbours" sNeighb ["ring"] fN dN)
    (DA : DefAt K mg "are_marks" sMarks ["thing", "many"] fA dA) (DK : DefAt K mg "is_below" sMark ["thing", "many"] fK dK) (DW : DefAt K mg "is_whole" sWhole ["thing"] fW dW) : FnOk P w K mg base CX0 5 f fd ["rule", "thing"] (spIsRing K C) := by
  have GR : FnOk P w K mg base CX0 4 fR dR ["rule", "thing"] (spIsRun K C) := ok_isrun DR.fn T B FM bM mM DA DK DW
  have GN : FnOk P w K mg base CX0 1 fN dN ["ring"] (spNeighb K) := ok_neighb DN.fn B
  have GB : FnOk P w K mg base CX0 1 fB dB ["self", "mark"] (spBehindM K C) := ok_behindM FB T
  refine F.ok scIsRing (fun vs H Q E h => ?_) (fun cdv A outer s H vs Q E hr h => ?_)
  · obtain ⟨r, a, rs, ns, ps, rfl, _⟩ := h
    rfl
  · obtain ⟨r, a, rs, ns, ps, rfl, R, M, S, hR, g, q⟩ := h
    have r1 := hr.mono (show 1 ≤ 4 by decide)
    have hu5 := un65 hr
    have nbp := nbs_marks g
    have nbl := nbs_len g.sz.wo rs.length
    obtain ⟨ks, rfl, hT, hk⟩ := hR
    have hf := g.sz.few
    rw [List.length_map] at hf
    have lne : 0 < ks.length := by
      have := List.length_pos_iff.mpr g.sz.ne
      rwa [List.length_map] at this
    have nbl2 : (nbs (ks.map valR) (ks.map valR).length).length ≤ 400000 := by
      rw [List.length_map] at nbl ⊢
      have : ks.length * 3002 ≤ 100 * 3002 := Nat.mul_le_mul_right _ hf
      omega
    obtain ⟨dx, a0, b0, t0, g1, g2, g3, g4⟩ := R.ex
    have fno := flds_no a0 b0 t0 (m := "behind") (by decide +kernel) (by decide +kernel) (by decide +kernel)
    refine ⟨_, pss_cons (ps_if (PW.pt (pw_or (pt_not (pt_val (pe_callB call_isi (by rfl) B.isinstance (by decide +kernel) (pa_cons (pv 1) (pa_cons (pe_bltn (v := .ty "tuple") (by rfl) B.tuple (by decide +kernel) rfl) pa_nil)))))
        (pw_or1 (pt_cmpR op_eq (pe_callB call_len_seq (by rfl) B.len PySem.boot_len (pa_cons (pv 1) pa_nil)) pe_int (nomark _))))) (pss_one (ps_ret pe_bl)) pss_nil)
      (pss_cons (ps_if (pt_not (pt_val (pe_callB (cr_all rfl) (by rfl) B.all (by decide +kernel) (pa_cons
          (pe_lc (own := [("run", 2)]) (g := gName 2) (tt := tYes) rfl scIsRing.nd (pi_tup (pv 1)) (blkOk_by (N := ["rule", "thing", "run", "a", "b"]) (sc := defScope sIsRing) (by decide +kernel))
            (fun _ _ _ _ _ => pg_name (i := 2) scIsRing.nd rfl (Or.inl rfl)) (fun _ _ _ _ _ => pts_nil) (fun _ _ _ _ _ => pe_call GR hr (by rfl) DR.mg DR.fn.kp DR.bi .nil pass0 (pa_cons (pv 0) (pa_cons (pv 2) pa_nil)))) pa_nil)))) (pss_one (ps_ret pe_bl)) pss_nil)
      (pss_one (ps_ret (pe_callB (cr_all rfl) (by rfl) B.all (by decide +kernel) (pa_cons
          (pe_lc (own := [("a", 3), ("b", 4)]) (g := gTup K 2 (gCons (gName 3) (gCons (gName 4) gNil))) (tt := tYes) rfl scIsRing.nd (pi_list (pe_call GN r1 (by rfl) DN.mg DN.fn.kp DN.bi .nil pass0 (pa_cons (pv 1) pa_nil))) (blkOk_by (N := ["rule", "thing", "run", "a", "b"]) (sc := defScope sIsRing) (by decide +kernel))
            (fun _ _ _ _ _ => pg_tupK rfl rfl (pgs_cons (pg_name (i := 3) scIsRing.nd rfl (Or.inl rfl)) (pgs_cons (pg_name (i := 4) scIsRing.nd rfl (Or.inl rfl)) pgs_nil))) (fun _ _ _ _ _ => pts_nil)
            (fun _ _ _ _ _ => pe_cmpR (op_inTIK (K := K) rfl hu5) (pv 4) (pe_meth (pv 0) T.cl mB GB r1 bB .nil pass0 (pa_cons (pv 3) pa_nil)) (by rfl))) pa_nil))))), ?_⟩
    refine ⟨.ref a, rfl, .ref a, .ty "tuple", _, _, true, rfl, .ty "tuple", tyT hT, kit_ty (by decide +kernel), true, rfl, iteF ?_⟩
    refine ⟨.ref a, rfl, a, _, rfl, .inr hT, rfl, _, rfl, ?_⟩
    rw [decV, List.length_map, decide_eq_false (show ¬ ((ks.length : Int) = 0) by omega)]
    refine iteF ?_
    refine ⟨.ref a, rfl, a, rfl, ⟨_, hT⟩, fun D nD => ?_⟩
    refine lc_tup (K := K) (a := a) (xs := ks.map fun k => V.ref k.1) (fun i H' => Same H H' ∧ H' D = some (.lst (List.replicate i (V.bl true)))) ⟨same_upd nD, upd_same⟩ (fun i H' _ p => sqT_same p.1 hT) (fun i x H' hx p => ?_) fun H1 p => ?_
    · obtain ⟨k, gk, rfl⟩ := map_at hx
      have km := List.mem_of_getElem? gk
      have il := (List.getElem?_eq_some_iff.mp gk).1
      have kr := List.mem_map_of_mem (f := valR) km
      refine ⟨rfl, tt_yes ⟨.ref r, rfl, .ref k.1, rfl, r, k, ns, ps, rfl, R.same p.1, (hk k km).same p.1, (g.sz.rn _ kr).1, (g.sz.rn _ kr).2, g.wo _ kr, g.inn _ kr, fun H2 s2 => ⟨_, s2 _ _ p.2, ?_, fun b o e => ?_, ?_⟩⟩⟩
      · rw [List.length_replicate]; exact few1 (by omega)
      · rw [upd_ne (ne_of_none e nD)]; exact s2 _ _ (p.1 b o e)
      · rw [upd_same, rep_next]
    · rw [rep_bl] at p
      refine ⟨D, _, rfl, lstNew p.2, true, by rw [all_true], iteF ?_⟩
      have s1 := p.1
      refine ⟨.ref a, rfl, a, _, rfl, ⟨ks, rfl, sqT_same s1 hT, fun k hx => (hk k hx).same s1⟩, g.sz, fun H2 l qs b2 eq => ?_⟩
      have s02 := s1.trans b2.sm
      refine ⟨l, rfl, ⟨_, lstNew b2.li⟩, fun D2 nD2 => ?_⟩
      refine lc_list (K := K) (a := l) (xs := qs.map fun k => V.ref k.1) (fun i H' => Same H2 H' ∧ H' D2 = some (.lst (((qs.take i).map fun k => decide (k.2 ∈ ps)).map V.bl))) ⟨same_upd nD2, upd_same⟩ (fun i H' _ p => lstNew (p.1 _ _ b2.li)) (fun i x H' hx p => ?_) fun H3 p => ?_
      · obtain ⟨k, gk, rfl⟩ := map_at hx
        have km := List.mem_of_getElem? gk
        obtain ⟨x, y, e, hx, hy⟩ := nbp k.2 (by rw [← eq]; exact List.mem_map_of_mem km)
        have tk := p.1 _ _ (b2.tu k km)
        rw [e] at tk
        have ql : qs.length ≤ 400000 := by
          have := congrArg List.length eq
          rw [List.length_map] at this; omega
        refine ⟨k.1, _, rfl, tupNew tk, rfl, _, _, rfl, _, _, rfl, rfl, rfl, tt_yes ⟨.int y, rfl, .ref r, rfl, r, dx, _, rfl, (s02.trans p.1) _ _ g1, fno, .int x, rfl, r, ns, ps, x.toNat, by rw [Int.toNat_of_nonneg hx.1]; rfl, R.same (s02.trans p.1), by omega, fun c hc => ?_⟩⟩
        rw [Int.toNat_of_nonneg hx.1] at hc
        refine ⟨c, y, _, rfl, rfl, hc, _, p.2, ?_, fun b o z => ?_, ?_⟩
        · rw [List.length_map, List.length_map, List.length_take, sizeLine_eq]; omega
        · rw [upd_ne (ne_of_none z nD2)]; exact p.1 b o z
        · have em : decide (y ∈ behindOf ps x) = decide (k.2 ∈ ps) := by
            rw [e]; exact decide_eq_decide.mpr (mem_behind (fun p hp => S.pair p hp))
          rw [upd_same, List.take_add_one, gk, List.map_append, List.map_append, em]; rfl
      · rw [List.length_map, List.take_of_length_le (Nat.le_refl _)] at p
        refine ⟨D2, _, rfl, lstNew p.2, ?_⟩
        have e2 : (qs.map fun k => decide (k.2 ∈ ps)).all id = (nbs (ks.map valR) (ks.map valR).length).all fun p => decide (p ∈ ps) := by
          rw [← eq, List.all_map, List.all_map]; rfl
        rw [e2]
        exact q H3 (s02.trans p.1)
end
end K9
namespace RV
theorem mk_filter : ∀ {rs : List (Int × List Int)}, (∀ r ∈ rs, 0 ≤ r.1) → mk (rs.filter fun r => decide (rl r > 0)) = mk rs
  | [], _ => rfl
  | r :: rs, h => by
    have ih := mk_filter (rs := rs) fun q hq => h q (List.mem_cons_of_mem _ hq)
    rw [List.filter_cons]
    by_cases z : rl r > 0
    · rw [if_pos (decide_eq_true z)]
      show rp r.1.toNat r.2 ++ mk _ = rp r.1.toNat r.2 ++ mk rs
      rw [ih]
    · rw [if_neg (by rw [decide_eq_true_eq]; exact z), ih]
      have e : rp r.1.toNat r.2 = [] := List.eq_nil_of_length_eq_zero (by
        rw [rp_len]
        have := rl_nat (r := r) (h r (List.mem_cons_self ..))
        omega)
      show mk rs = rp r.1.toNat r.2 ++ mk rs
      rw [e, List.nil_append]
/-- what a turned ring is -/
structure Trn (rs : List (Int × List Int)) (by_ : Int) (qs : List (Int × List Int)) : Prop where
  rn : Rn qs
  ne : qs ≠ []
  len : qs.length ≤ rs.length + 3
  wo : ∀ r ∈ qs, ∃ r0 ∈ rs, r.2.length ≤ r0.2.length ∧ ∀ x ∈ r.2, x ∈ r0.2
  rot : ∃ A B, mk rs = A ++ B ∧ mk qs = B ++ A ∧ (A.length : Int) = by_ % pl rs
def turnL (rs : List (Int × List Int)) (a : Nat) (r : Int × List Int) (rounds rest : Nat) : List (Int × List Int) :=
  [(1, r.2.drop rest), (r.1 - (rounds : Int) - 1, r.2)] ++ rs.drop (a + 1) ++ rs.take a ++ [((rounds : Int), r.2), (1, r.2.take rest)]
theorem turn_trn {rs : List (Int × List Int)} (rn : Rn rs) {a : Nat} {r : Int × List Int} (h : rs[a]? = some r) {by_ x : Int} {rounds rest : Nat} (x0 : 0 ≤ x) (x1 : x < rl r) (e : by_ % pl rs = pl (rs.take a) + x) (e1 : (rounds : Int) = x / (r.2.length : Int)) (e2 : (rest : Int) = x % (r.2.length : Int)) :
    Trn rs by_ ((turnL rs a r rounds rest).filter fun r => decide (rl r > 0)) := by
  have hr := rn r (List.mem_of_getElem? h)
  have hw : 0 < r.2.length := List.length_pos_iff.mpr hr.2
  have al := (List.getElem?_eq_some_iff.mp h).1
  have dm := Int.mul_ediv_add_emod x (r.2.length : Int)
  rw [← e1, ← e2] at dm
  have m1 := Int.emod_lt_of_pos x (show (0 : Int) < (r.2.length : Int) by omega)
  rw [← e2] at m1
  have rt : (rounds : Int) < r.1 := by
    rcases Int.lt_or_le (rounds : Int) r.1 with z | z
    · exact z
    · have : r.1 * (r.2.length : Int) ≤ (rounds : Int) * (r.2.length : Int) := Int.mul_le_mul_of_nonneg_right z (by omega)
      have e3 : (r.2.length : Int) * (rounds : Int) = (rounds : Int) * (r.2.length : Int) := Int.mul_comm _ _
      unfold rl at x1
      omega
  have nn : ∀ q ∈ turnL rs a r rounds rest, 0 ≤ q.1 := fun q hq => by
    unfold turnL at hq
    simp only [List.mem_append, List.mem_cons, List.not_mem_nil, or_false] at hq
    rcases hq with (((rfl | rfl) | z) | z) | (rfl | rfl)
    · show (0 : Int) ≤ 1; decide
    · show 0 ≤ r.1 - (rounds : Int) - 1; omega
    · exact rn.nn q (List.mem_of_mem_drop z)
    · exact rn.nn q (List.mem_of_mem_take z)
    · show 0 ≤ (rounds : Int); omega
    · show (0 : Int) ≤ 1; decide
  have em : mk ((turnL rs a r rounds rest).filter fun r => decide (rl r > 0)) = (r.2.drop rest ++ rp (r.1 - (rounds : Int) - 1).toNat r.2 ++ mk (rs.drop (a + 1))) ++ (mk (rs.take a) ++ rp rounds r.2 ++ r.2.take rest) := by
    rw [mk_filter nn]
    unfold turnL
    rw [mk_app, mk_app, mk_app]
    show rp (Int.toNat 1) (r.2.drop rest) ++ (rp (r.1 - (rounds : Int) - 1).toNat r.2 ++ []) ++ mk (rs.drop (a + 1)) ++ mk (rs.take a) ++ (rp ((rounds : Int)).toNat r.2 ++ (rp (Int.toNat 1) (r.2.take rest) ++ [])) = _
    rw [show Int.toNat 1 = 1 from rfl, rp_one, rp_one, Int.toNat_natCast, List.append_nil, List.append_nil]
    simp only [List.append_assoc]
  have eo : mk rs = (mk (rs.take a) ++ rp rounds r.2 ++ r.2.take rest) ++ (r.2.drop rest ++ rp (r.1 - (rounds : Int) - 1).toNat r.2 ++ mk (rs.drop (a + 1))) := by
    conv => lhs; rw [split_at h]
    rw [mk_app]
    show mk (rs.take a) ++ (rp r.1.toNat r.2 ++ mk (rs.drop (a + 1))) = _
    rw [show r.1.toNat = rounds + (1 + (r.1 - (rounds : Int) - 1).toNat) by omega, rp_add, rp_add, rp_one]
    simp only [List.append_assoc]
    rw [← List.append_assoc (r.2.take rest), List.take_append_drop]
  have la : (((mk (rs.take a) ++ rp rounds r.2 ++ r.2.take rest).length : Nat) : Int) = by_ % pl rs := by
    have l1 := mk_len (rs := rs.take a) fun q hq => rn.nn q (List.mem_of_mem_take hq)
    rw [List.length_append, List.length_append, rp_len, List.length_take, Nat.min_eq_left (by omega), Int.natCast_add, Int.natCast_add, l1, e, Int.natCast_mul, Int.mul_comm]
    omega
  have np := rn.pos (fun z => by rw [z] at h; cases h)
  refine ⟨fun q hq => ?_, fun z => ?_, ?_, fun q hq => ?_, _, _, eo, em, la⟩
  · obtain ⟨h1, h2⟩ := List.mem_filter.mp hq
    have h2 : 0 < rl q := of_decide_eq_true h2
    have q0 := nn q h1
    refine ⟨?_, fun z => ?_⟩
    · rcases Int.lt_or_le 0 q.1 with z | z
      · omega
      · have : q.1 = 0 := by omega
        unfold rl at h2
        rw [this, Int.zero_mul] at h2; omega
    · unfold rl at h2
      rw [z] at h2
      simp at h2
  · have l := mk_len rn.nn
    rw [z] at em
    have := congrArg List.length em
    have l2 := congrArg List.length eo
    simp only [List.length_append] at this l2
    have : (mk ([] : List (Int × List Int))).length = 0 := rfl
    omega
  · refine Nat.le_trans (List.length_filter_le _ _) ?_
    unfold turnL
    simp only [List.length_append, List.length_cons, List.length_nil, List.length_drop, List.length_take]
    omega
  · have h1 := (List.mem_filter.mp hq).1
    have rm := List.mem_of_getElem? h
    unfold turnL at h1
    simp only [List.mem_append, List.mem_cons, List.not_mem_nil, or_false] at h1
    rcases h1 with (((rfl | rfl) | z) | z) | (rfl | rfl)
    · exact ⟨r, rm, by rw [List.length_drop]; omega, fun x hx => List.mem_of_mem_drop hx⟩
    · exact ⟨r, rm, Nat.le_refl _, fun x hx => hx⟩
    · exact ⟨q, List.mem_of_mem_drop z, Nat.le_refl _, fun x hx => hx⟩
    · exact ⟨q, List.mem_of_mem_take z, Nat.le_refl _, fun x hx => hx⟩
    · exact ⟨r, rm, Nat.le_refl _, fun x hx => hx⟩
    · exact ⟨r, rm, by rw [List.length_take]; omega, fun x hx => List.mem_of_mem_take hx⟩
/-- the ring read from the other side -/
def mirL (f : Int → Int) (rs : List (Int × List Int)) : List (Int × List Int) := rs.reverse.map fun r => (r.1, r.2.reverse.map f)
theorem mk_mir (f : Int → Int) : ∀ rs : List (Int × List Int), mk (mirL f rs) = (mk rs).reverse.map f
  | [] => rfl
  | r :: rs => by
    have ih := mk_mir f rs
    unfold mirL at ih ⊢
    rw [List.reverse_cons, List.map_append, mk_app, ih]
    show _ ++ (rp r.1.toNat (r.2.reverse.map f) ++ []) = ((rp r.1.toNat r.2 ++ mk rs).reverse).map f
    rw [List.append_nil, List.reverse_append, List.map_append, rp_rev, rp_map]
theorem trn_mP {rs qs : List (Int × List Int)} {b : Int} (t : Trn rs b qs) (rn : Rn rs) (p : Int) : mP (mk qs) p = mP (mk rs) (p + b) := by
  obtain ⟨A, B, h1, h2, h3⟩ := t.rot
  have l := mk_len rn.nn
  have ne : A ++ B ≠ [] := fun z => t.ne (by
    cases e : qs with
    | nil => rfl
    | cons q qs' =>
      have z2 := mk_len t.rn.nn
      have z3 := t.rn.pos t.ne
      rw [h2] at z2
      rw [List.append_eq_nil_iff] at z
      rw [z.1, z.2] at z2
      simp at z2; omega)
  rw [h2, mP_rot ne, ← h1]
  apply mP_mod
  rw [h3, l, show p + b % pl rs - (p + b) = -(b - b % pl rs) by omega]
  refine Int.emod_eq_zero_of_dvd (Int.dvd_neg.mpr (Int.dvd_of_emod_eq_zero ?_))
  rw [Int.sub_emod, Int.emod_emod_of_dvd b (Int.dvd_refl _), Int.sub_self, Int.zero_emod]
theorem trn_pl {rs qs : List (Int × List Int)} {b : Int} (t : Trn rs b qs) (rn : Rn rs) : pl qs = pl rs := by
  obtain ⟨A, B, h1, h2, h3⟩ := t.rot
  rw [← mk_len rn.nn, ← mk_len t.rn.nn, h1, h2, List.length_append, List.length_append]; omega
theorem mk_ne {rs : List (Int × List Int)} (rn : Rn rs) (ne : rs ≠ []) : mk rs ≠ [] := fun z => by
  have := mk_len rn.nn
  have := rn.pos ne
  rw [z] at *; simp at *; omega
theorem trn_cyc {rs qs : List (Int × List Int)} {b : Int} (t : Trn rs b qs) (rn : Rn rs) (ne : rs ≠ []) {ps : List (List Int)} (c : Cyc ps (mk rs)) : Cyc ps (mk qs) := by
  obtain ⟨A, B, h1, h2, h3⟩ := t.rot
  rw [h2]
  rw [h1] at c
  exact c.rot (by rw [← h1]; exact mk_ne rn ne)
end RV
set_option maxHeartbeats 4000000
/-! {elt for a in x for b in y}: ints, two clauses, no tests -/
namespace RV
open PySem PySem.Spec PyProof.Rows L2
/-- two clauses, no tests -/
abbrev sc2 (el ta ia tb ib : Expr) (sco : Scope) (p : Pos) : Expr := .SetComp el [⟨ta, ia, [], 0⟩, ⟨tb, ib, [], 0⟩] sco p
/-- the code of a comprehension's turn: store what comes, then body -/
def turnOf (p : Pos) (tg : Expr) (it : Value) (env : Env) (rest : Sem Fin) : Sem Fin := standAt p >>= fun _ => pyNext it >>= fun r => match r with
  | none => pure (.done .next)
  | some v => letOwnedTupleGo tg it v >>= fun _ => assign tg env v >>= fun _ => rest
/-- a loop of a comprehension's block whose turns are of that form -/
theorem walk {Y : Cx} {el ta ia t1 ib tg : Expr} {sco : Scope} {pp : Pos} {d : Nat} {it : Addr} {acc : Value} {p : Pos} {rest : Sem Fin} {fp : List Addr} {tn : Nat → Heap → Prop} {J : It} {pins : List (Addr × Obj)} {σ0 : L2.St} {H0 : Hp} {s0 : Shared} {g : TG} {tb : L2.St → Hp → (Hp → Prop) → Prop} {R : Result → Shared → Prop}
    (hc : Y.calm = true) (T : Turn Y.prog Y.w Y.K tg J fp it tn) (form : compTurn (sc2 el ta ia t1 ib sco pp) d (.ref it) acc Y.env = turnOf p tg (.ref it) Y.env rest)
    (fpok : ∀ {H s}, Inv Y pins σ0 H s → (∀ b ∈ fp, H b = none) → ∀ b ∈ fp, FpOk Y pins H b) (pg : PG Y tg g) (noerr : ∀ e s, Y.xe e s → False)
    (hb : ∀ (pins' : List (Addr × Obj)) (σ2 : L2.St) (H2 : Hp) (s2 : Shared) (Nx : Hp → Prop), Inv Y pins' σ2 H2 s2 → tb σ2 H2 Nx → wpAny (model Y.prog Y.w) Y.A rest (fun fin s3 => fin = .again (.compLoop (sc2 el ta ia t1 ib sco pp) d (.ref it) acc Y.env) ∧ ∃ H3, Inv Y pins' σ0 H3 s3 ∧ Nx H3) (fun _ _ => False) s2)
    (W : Nat → Nat → Hp → Prop) {m0 : Nat} (I0 : Inv Y pins σ0 H0 s0) (t0 : tn 0 s0.heap) (n0 : ∀ b ∈ fp, H0 b = none) (w0 : W 0 m0 H0)
    (turn : ∀ i m H, W i m H → (J.stop i H ∧ ∀ s, Inv Y pins σ0 H s → R (.ok .next) s) ∨ (J.go i H ∧ ∃ Nx : Hp → Prop, (∀ H', Nx H' → ∃ m', m' < m ∧ W (i + 1) m' H') ∧ ∀ x H', J.yld i H x H' → g x σ0 H' fun σ2 H2 => tb σ2 H2 Nx)) :
    codeAny (model Y.prog Y.w) Y.A (.compLoop (sc2 el ta ia t1 ib sco pp) d (.ref it) acc Y.env) R s0 := by
  refine codeAny_loop rfl (fun n s => ∃ i H, Inv Y pins σ0 H s ∧ tn i s.heap ∧ (∀ b ∈ fp, H b = none) ∧ W i n H) (fun n s h => ?_) m0 ⟨0, H0, I0, t0, n0, w0⟩
  obtain ⟨i, H, I, st, nf, hw⟩ := h
  show wpAny (model Y.prog Y.w) Y.A ((compTurn (sc2 el ta ia t1 ib sco pp) d (.ref it) acc Y.env).onRaise fun x => do noteFrame x Y.env; theTreesLotGoes x) _ _ s
  refine wpAny_noted ?_
  rw [form]
  refine wpAny_bind (wpAny_standAt (wpAny_bind ?_))
  rcases turn i n H hw with ⟨stop, fin⟩ | ⟨go, Nx, hNx, step⟩
  · refine thnF (T.done Y rfl rfl rfl hc i pins s σ0 H (fun _ _ => False) I (fpok I nf) st stop) fun r s1 ⟨hr, I1⟩ => ?_
    subst hr
    exact wpAny_pure (fin s1 I1)
  · refine thnF (T.item Y rfl rfl rfl hc i pins s σ0 H (fun _ _ => False) I (fpok I nf) st go) fun r s1 ⟨u, hr, h1⟩ => ?_
    subst hr
    refine wpAny_bind (thnF h1 fun _ s2 ⟨x, H2, I2, rx, yx, st2, nf2⟩ => ?_)
    have J2 := I2.pinned (fpok I2 nf2) (T.obj _ _ st2)
    refine wpAny_bind (wpAny_mono (pg.run _ s2 σ0 H2 x u _ J2 rx (step x H2 yx)) (fun _ s3 h3 => ?_) fun e s' z => (noerr e s' z).elim)
    obtain ⟨σ3, H3, I3, b3⟩ := h3
    refine thnF (hb _ σ3 H3 s3 Nx I3 b3) fun fin s4 ⟨ef, H4, I4, nx⟩ => ?_
    subst ef
    refine ⟨rfl, ?_⟩
    obtain ⟨m', lt, w'⟩ := hNx H4 nx
    have held : ∀ b ∈ fp, ∀ o, s2.heap.get? b = some o → s4.heap.get? b = some o ∧ H4 b = none := fun b hb' o e => by
      have z := I4.pin (b, o) (List.mem_append_right _ (List.mem_append_right _ (mem_pinsAt hb' e)))
      exact ⟨z.1, z.2.1⟩
    refine ⟨m', lt, i + 1, H4, I4.unpinned, T.keep _ _ _ st2 fun b hb' o e => (held b hb' o e).1, fun b hb' => ?_, w'⟩
    obtain ⟨o, e, _⟩ := T.obj _ _ st2 b hb'
    exact (held b hb' o e).2
/-- a clause's start goes to its loop -/
theorem start_of {P : Program} {w : World} {A : Around} {env : Env} {R : Result → Shared → Prop} {s : Shared} {el ta ia t1 ib : Expr} {sco : Scope} {pp : Pos} {d : Nat} {it acc : Value} (hd : d < 2) (self : ∀ (Q : Value → Shared → Prop) (E : Value → Shared → Prop), Q it s → wpAny (model P w) A (pyIter it) Q E s)
    (h : codeAny (model P w) A (.compLoop (sc2 el ta ia t1 ib sco pp) d it acc env) R s) : codeAny (model P w) A (.compStart (sc2 el ta ia t1 ib sco pp) d it acc env) R s := by
  refine codeAny_of_tree ?_
  show wpAny (model P w) A ((compStart (sc2 el ta ia t1 ib sco pp) d it acc env).onRaise fun x => do noteFrame x env; standAt theWindowsPlace) _ _ s
  refine wpAny_notedAt ?_
  have go : ∀ q : Pos, wpAny (model P w) A (standAt q >>= fun _ => pyIter it >>= fun j => again (.compLoop (sc2 el ta ia t1 ib sco pp) d j acc env)) (fun fin s' => match fin with | .done f => R (.ok f) s' | .again c' => c'.quiet = true ∧ codeAny (model P w) A c' R s') (notedBy (model P w) A env fun e s' => R (.error e) s') s := fun q =>
    wpAny_bind (wpAny_standAt (wpAny_bind (self _ _ (wpAny_pure ⟨rfl, h⟩))))
  have now : wpAny (model P w) A (again (.compLoop (sc2 el ta ia t1 ib sco pp) d it acc env)) (fun fin s' => match fin with | .done f => R (.ok f) s' | .again c' => c'.quiet = true ∧ codeAny (model P w) A c' R s') (notedBy (model P w) A env fun e s' => R (.error e) s') s := wpAny_pure ⟨rfl, h⟩
  obtain rfl | rfl : d = 0 ∨ d = 1 := by omega
  all_goals
    unfold compStart
    show wpAny (model P w) A (ask >>= _) _ _ s
    refine wpAny_bind (wpAny_askSetting (wpAny_ite ?_))
    split
    · exact wpAny_bind (wpAny_pure now)
    · exact wpAny_bind (wpAny_rule (go _))
section
variable {el ta ia t1 ib : Expr} {sco : Scope} {pp : Pos}
theorem form0 (it acc : Value) (env : Env) : compTurn (sc2 el ta ia t1 ib sco pp) 0 it acc env = turnOf ia.pos ta it env
    (eval ib env >>= fun x => standAt ib.pos >>= fun _ => foldedSetIterable ib env x >>= fun x => holding [x] (pyIter x) >>= fun j => runOwn (.compStart (sc2 el ta ia t1 ib sco pp) 1 j acc env) env >>= fun _ => again (.compLoop (sc2 el ta ia t1 ib sco pp) 0 it acc env)) := by rfl
theorem form1 (it acc : Value) (env : Env) : compTurn (sc2 el ta ia t1 ib sco pp) 1 it acc env = turnOf ib.pos t1 it env
    ((eval el env >>= fun v => standAt el.pos >>= fun _ => call (.builtin "set.add") [acc, v] >>= fun _ => pure ()) >>= fun _ => again (.compLoop (sc2 el ta ia t1 ib sco pp) 1 it acc env)) := by rfl
end
/-- what the inner loop must do, from what the outer one stored -/
def tInner (w : World) (D : Addr) (wi1 : TI) (g1 : TG) (te : TE) (vs1 : List Nat) : L2.St → Hp → (Hp → Prop) → Prop := fun σ2 H2 Nx => wi1 σ2 H2 fun J1 H4 => ∃ W1 : Nat → Nat → Hp → Prop, (∃ m, W1 0 m H4) ∧ ∀ j k H, W1 j k H →
  (J1.stop j H ∧ Nx H) ∨ (J1.go j H ∧ ∃ Nx1 : Hp → Prop, (∀ H', Nx1 H' → ∃ k', k' < k ∧ W1 (j + 1) k' H') ∧ ∀ x H', J1.yld j H x H' → g1 x (wipe σ2 vs1) H' fun σ3 H5 => wipe σ3 vs1 = wipe σ2 vs1 ∧
    te σ3 H5 fun y H7 => ∃ (c : Int) (S : Int → Bool) (n : Nat), y = .int c ∧ H7 D = some (SetO w D S n) ∧ n + 1 < scanBound ∧ Nx1 (upd H7 D (SetO w D (fun j => S j || decide (j = c)) (if S c = true then n else n + 1))))
/-- {el for ta in ia for t1 in ib}: D the new set, vs the block's names, vs1 those of the second target -/
def tS2 (w : World) (wi : TI) (g : TG) (wi1 : TI) (g1 : TG) (te : TE) (vs vs1 : List Nat) : TE := fun σ H Q => wi σ H fun J H1 => ∀ D, H1 D = none → ∃ W : Nat → Nat → Hp → Prop, (∃ m, W 0 m (upd H1 D (SetO w D (fun _ => false) 0))) ∧ ∀ i m H, W i m H →
  (J.stop i H ∧ Q (.ref D) H) ∨ (J.go i H ∧ ∃ Nx : Hp → Prop, (∀ H', Nx H' → ∃ m', m' < m ∧ W (i + 1) m' H') ∧ ∀ x H', J.yld i H x H' → g x (wipe σ vs) H' fun σ2 H2 => wipe σ2 vs = wipe σ vs ∧ tInner w D wi1 g1 te vs1 σ2 H2 Nx)
theorem wipe_keep {σ : L2.St} {j : Nat} : ∀ {vs : List Nat}, j ∉ vs → (wipe σ vs)[j]? = σ[j]?
  | [], _ => rfl
  | v :: vs, h => by
    have h1 := List.ne_of_not_mem_cons h
    show ((wipe σ vs).set v none)[j]? = _
    rw [List.getElem?_set_ne (Ne.symm h1), wipe_keep (List.not_mem_of_not_mem_cons h)]
section
variable {Y : Cx} {el ta ia t1 ib : Expr} {sco : Scope} {pp : Pos} {D : Addr} {wi1 : TI} {g1 : TG} {te : TE} {vs vs1 : List Nat} {σ0 : L2.St}
/-- the outer loop's body -/
theorem inner {o : Addr} (hc : Y.calm = true) (noerr : ∀ e s, Y.xe e s → False) (hv : ∀ i ∈ vs1, i ∈ vs) (hs : ∀ x, foldedSetIterable ib Y.env x = pure x) (p1 : PI Y t1 ib wi1) (pg1 : PG Y t1 g1) (pe : PE Y el te)
    (pins : List (Addr × Obj)) (σ2 : L2.St) (H2 : Hp) (s2 : Shared) (Nx : Hp → Prop) (I2 : Inv Y pins σ2 H2 s2) (h : wipe σ2 vs = σ0 ∧ tInner Y.w D wi1 g1 te vs1 σ2 H2 Nx) :
    wpAny (model Y.prog Y.w) Y.A (eval ib Y.env >>= fun x => standAt ib.pos >>= fun _ => foldedSetIterable ib Y.env x >>= fun x => holding [x] (pyIter x) >>= fun j => runOwn (.compStart (sc2 el ta ia t1 ib sco pp) 1 j (.ref D) Y.env) Y.env >>= fun _ => again (.compLoop (sc2 el ta ia t1 ib sco pp) 0 (.ref o) (.ref D) Y.env))
      (fun fin s3 => fin = .again (.compLoop (sc2 el ta ia t1 ib sco pp) 0 (.ref o) (.ref D) Y.env) ∧ ∃ H3, Inv Y pins σ0 H3 s3 ∧ Nx H3) (fun _ _ => False) s2 := by
  obtain ⟨hw, h⟩ := h
  refine wpAny_bind (wpAny_mono (p1.run pins s2 σ2 H2 _ I2 h) (fun x s3 hx => ?_) fun e s z => (noerr e s z).elim)
  refine wpAny_bind (wpAny_standAt (wpAny_bind (wpAny_of_eq (hs x) (wpAny_bind (wpAny_holding (wpAny_mono hx (fun j s4 h4 => ?_) fun e s z => (noerr e s z).elim))))))
  obtain ⟨it, fp, tn, J1, H4, e, I4, T, st4, f4, W1, ⟨m1, w1⟩, turn1⟩ := h4
  subst e
  have back : ∀ {H s}, Inv Y pins (wipe σ2 vs1) H s → Inv Y pins σ0 H s := fun I => by
    subst hw
    refine I.weak (by rw [wipe_length, wipe_length]) fun i v e => ?_
    obtain ⟨e1, e2⟩ := wipe_some e
    rw [wipe_keep fun z => e2 (hv i z)]; exact e1
  refine wpAny_bind (wpAny_runOwn ?_)
  rw [Around.mark_none]
  have loop := walk (tb := fun σ3 H5 Nx1 => wipe σ3 vs1 = wipe σ2 vs1 ∧ te σ3 H5 fun y H7 => ∃ (c : Int) (S : Int → Bool) (n : Nat), y = .int c ∧ H7 D = some (SetO Y.w D S n) ∧ n + 1 < scanBound ∧ Nx1 (upd H7 D (SetO Y.w D (fun j => S j || decide (j = c)) (if S c = true then n else n + 1))))
    (R := fun r s' => match r with | .ok _ => ∃ H3, Inv Y pins σ0 H3 s' ∧ Nx H3 | .error _ => False) hc T (form1 (el := el) (ta := ta) (ia := ia) (t1 := t1) (ib := ib) (sco := sco) (pp := pp) (.ref it) (.ref D) Y.env)
    (fun {H s} _ hn b hb => ⟨hn b hb, (f4 b hb).2⟩) pg1 noerr
    (fun pins' σ3 H5 s5 Nx1 I5 ⟨hw5, h5⟩ => by
      refine wpAny_bind (wpAny_bind (wpAny_mono (pe.run pins' s5 σ3 H5 _ I5 h5) (fun z s6 h6 => ?_) fun e s z => (noerr e s z).elim))
      obtain ⟨y, H7, I7, r7, c, S, n, ey, hD, room, nx⟩ := h6
      subst ey
      refine wpAny_bind (wpAny_standAt (wpAny_bind ?_))
      refine wpAny_mono (mt_sadd pins' s6 σ3 H7 (.ref D) [.int c] (.ref D) [z] (fun _ H' => Nx1 H') I7 rfl (.cons r7 .nil) ⟨D, c, S, n, rfl, rfl, hD, room, nx⟩) (fun _ s8 h8 => ?_) fun e s z => (noerr e s z).elim
      obtain ⟨y8, H8, I8, _, q8⟩ := h8
      exact wpAny_pure (wpAny_pure ⟨rfl, H8, I8.weak (by rw [← hw5, wipe_length]) fun i v e => by rw [← hw5] at e; exact (wipe_some e).1, q8⟩))
    W1 (I4.weak (wipe_length _ _) fun i v e => (wipe_some e).1) st4 (fun b hb => (f4 b hb).1) w1
    (fun j k H hW => by
      rcases turn1 j k H hW with ⟨stop, nx⟩ | ⟨go, Nx1, hN1, step⟩
      · exact .inl ⟨stop, fun s I => ⟨H, back I, nx⟩⟩
      · exact .inr ⟨go, Nx1, hN1, step⟩)
  refine codeAny_mono (start_of (by decide) (fun Q E q => T.self _ 0 _ _ _ st4 q) loop) fun r s' hr => ?_
  cases r with
  | ok f => exact wpAny_pure ⟨rfl, hr⟩
  | error e => exact hr.elim
end
section
variable {X : Cx}
abbrev blkEnv (X : Cx) (sco : Scope) (s : Shared) : Env := compEnvC sco (cellsFrom (s.heap.objs.size + 1) sco.names (cloFrom X.env.cells sco.names [])) s.heap.objs.size X.env
theorem block {el ta ia t1 ib : Expr} {sco : Scope} {own : List (PySem.Str × Nat)} {vs1 : List Nat} {pp : Pos} {wi1 : TI} {g g1 : TG} {te : TE} {pins : List (Addr × Obj)} {σ : L2.St} {H : Hp} {s : Shared} {it D : Addr} {fp : List Addr} {tn : Nat → Heap → Prop} {J : It} {Q : VK} {W : Nat → Nat → Hp → Prop} {m0 : Nat} {Z : Result → Shared → Prop}
    (hc : X.calm = true) (hN : X.N.Nodup) (ok : BlkOk X.N X.env.scope sco own) (hv : ∀ i ∈ vs1, i ∈ own.map (·.2)) (hs1 : ∀ env x, foldedSetIterable ib env x = pure x)
    (pg : PG (X.blk s H sco (blkEnv X sco s) fp) ta g) (p1 : PI (X.blk s H sco (blkEnv X sco s) fp) t1 ib wi1) (pg1 : PG (X.blk s H sco (blkEnv X sco s) fp) t1 g1) (pe : PE (X.blk s H sco (blkEnv X sco s) fp) el te)
    (I : Inv X pins σ H s) (T : Turn X.prog X.w X.K ta J fp it tn) (st : tn 0 s.heap) (hf : ∀ b ∈ fp, FpOk X pins H b ∧ b < s.heap.objs.size) (w0 : W 0 m0 H)
    (turn : ∀ i m H, W i m H → (J.stop i H ∧ Q (.ref D) H) ∨ (J.go i H ∧ ∃ Nx : Hp → Prop, (∀ H', Nx H' → ∃ m', m' < m ∧ W (i + 1) m' H') ∧ ∀ x H', J.yld i H x H' → g x (wipe σ (own.map (·.2))) H' fun σ2 H2 => wipe σ2 (own.map (·.2)) = wipe σ (own.map (·.2)) ∧ tInner X.w D wi1 g1 te vs1 σ2 H2 Nx))
    (fin : ∀ s' H' m, Inv X pins σ H' s' → Q (.ref D) H' → s'.heap.Ns s.heap.objs.size m → FpOk X pins H' s.heap.objs.size → Z (.ok .next) s') :
    codeAny (model X.prog X.w) X.A (.compStart (sc2 el ta ia t1 ib sco pp) 0 (.ref it) (.ref D) (blkEnv X sco s)) Z { s with heap := pushCells (s.heap.push { cls := .type "dict", data := .dict #[] }) sco.names } := by
  have I4 := block_start I ok hN hf
  have st4 : tn 0 (pushCells (s.heap.push { cls := .type "dict", data := .dict #[] }) sco.names) := T.keep _ _ _ st fun b _ o e => pushCells_keeps _ _ _ _ (Heap.get?_push_of_some _ e)
  refine start_of (by decide) (fun Q' E q => T.self _ 0 _ _ _ st4 q) ?_
  refine walk (Y := X.blk s H sco (blkEnv X sco s) fp) (tb := fun σ2 H2 Nx => wipe σ2 (own.map (·.2)) = wipe σ (own.map (·.2)) ∧ tInner X.w D wi1 g1 te vs1 σ2 H2 Nx) hc T (form0 (.ref it) (.ref D) (blkEnv X sco s))
    (fun {H' s'} I' hn b hb => ⟨hn b hb, (I'.ok.exf b hb).1, I'.ok.exfs b hb, .inl hb, fun x c e => (I'.ok.exf b hb).2 x c e, fun p hp => nomatch (show p ∈ ([] : List (Addr × Obj)) from hp)⟩) pg (fun _ _ z => z)
    (fun pins' σ2 H2 s2 Nx I2 h2 => inner (Y := X.blk s H sco (blkEnv X sco s) fp) (vs := own.map (·.2)) hc (fun _ _ z => z) hv (hs1 _) p1 pg1 pe pins' σ2 H2 s2 Nx I2 h2) W I4 st4 (fun b hb => (hf b hb).1.1) w0 (fun i m H' hW => ?_)
  rcases turn i m H' hW with ⟨stop, qq⟩ | z
  · refine .inl ⟨stop, fun s6 I6 => ?_⟩
    obtain ⟨m', hn, _⟩ := I6.loc
    exact fin s6 H' m' (I.call' (ch := fp) I6.os I6.base I6.hok I6.bare fun b hb => (hf b hb).1.2.2.2.1 |> fun z => ⟨z, (hf b hb).1.2.1, (hf b hb).1.2.2.2.2.1, (hf b hb).1.2.2.2.2.2⟩) qq hn (I.fpOk (Nat.le_refl _) I6.free)
  · exact .inr z
theorem pe_sc2 {el ta ia t1 ib : Expr} {sco : Scope} {own : List (PySem.Str × Nat)} {vs1 : List Nat} {pp : Pos} {wi wi1 : TI} {g g1 : TG} {te : TE} (hc : X.calm = true) (hN : X.N.Nodup) (hi : PI X ta ia wi) (ok : BlkOk X.N X.env.scope sco own) (hv : ∀ i ∈ vs1, i ∈ own.map (·.2))
    (hg : ∀ s H C cl fp, PG (X.blk s H sco (compEnvC sco cl C X.env) fp) ta g) (hi1 : ∀ s H C cl fp, PI (X.blk s H sco (compEnvC sco cl C X.env) fp) t1 ib wi1) (hg1 : ∀ s H C cl fp, PG (X.blk s H sco (compEnvC sco cl C X.env) fp) t1 g1)
    (he : ∀ s H C cl fp, PE (X.blk s H sco (compEnvC sco cl C X.env) fp) el te) (hs : ∀ x, foldedSetIterable ia X.env x = pure x := by intro _; rfl) (hs1 : ∀ env x, foldedSetIterable ib env x = pure x := by intro _ _; rfl) :
    PE X (.SetComp el [⟨ta, ia, [], 0⟩, ⟨t1, ib, [], 0⟩] sco pp) (tS2 X.w wi g wi1 g1 te (own.map (·.2)) vs1) := by
  refine ⟨fun pins s σ H Q I h => ?_⟩
  rw [PpSet.eval_SetComp]
  have known : ∀ y ∈ sco.names, y.2 = .free → ∃ c, X.env.cells.lookup y.1 = some c := fun y hy e => I.ok.has _ (ok.free y hy e)
  refine wpAny_comprehension_free (use := none) rfl hs (closure_ok known) ok.kind (fun y hy e => by rw [ok.uniq y hy, e]) (thn (hi.run pins s σ H _ I h) fun _ _ hx => thn hx fun iv s2 h2 => ?_)
  obtain ⟨it, fp, tn, J, H2, e, I2, T, st2, f2, q⟩ := h2
  subst e
  refine PpSet.newSet_ok (newEnv_comp ?_)
  have nD : H2 s2.heap.objs.size = none := I2.hok.fresh (Nat.le_refl _)
  obtain ⟨W, ⟨m0, w0⟩, turn⟩ := q _ nD
  have I3 := I2.laid (t' := s2.toks) (o := SetO X.w s2.heap.objs.size (fun _ => false) 0) (fun b o e => Heap.get?_push_of_some { cls := .type "set", dict := none, data := .set #[] 0 (.fresh 0 0 (!X.w.params.followText "set-order")) } e) (Nat.le_refl _) (setO_new (setR_fresh X.w))
  have young : ∀ b ∈ fp, b < s2.heap.objs.size := fun b hb => (T.obj _ _ st2 b hb).elim fun o e => Heap.lt_size e.1
  exact block hc hN ok hv hs1 (hg _ _ _ _ _) (hi1 _ _ _ _ _) (hg1 _ _ _ _ _) (he _ _ _ _ _) I3 T (T.keep _ _ _ st2 fun b _ o e => Heap.get?_push_of_some _ e)
    (fun b hb => ⟨⟨by rw [upd_ne (Nat.ne_of_lt (young b hb))]; exact (f2 b hb).1, (f2 b hb).2⟩, by show b < (Heap.push _ _).objs.size; rw [Heap.size_push]; exact Nat.lt_succ_of_lt (young b hb)⟩) w0 turn
    fun s' H' m I' qq hn ⟨f0, f1, _, f3, f4, f5⟩ => ⟨m, hn, fun h'' sb => ⟨.ref s2.heap.objs.size, H', I'.turned (t' := s'.toks) (fun b o hb e => (sb.2 b hb).trans e) f0 f1 f3 f4 f5, rfl, qq⟩⟩
end
end RV
set_option maxHeartbeats 4000000
/-! min of tuples of ints: of two, of a list of them -/
namespace RV
open PySem PySem.Spec PyProof.Rows L2
theorem lex_irr (xs : List Int) : HT.lexLt xs xs = false := by
  cases e : HT.lexLt xs xs with
  | false => rfl
  | true => have := NtL.lex_asym _ _ e; rw [e] at this; cases this
/-- the place of the first least -/
theorem best_least (l : Nat → List Int) : ∀ n : Nat, argBest (fun i j => HT.lexLt (l i) (l j)) n ≤ n ∧ ∀ j, j ≤ n → HT.lexLt (l j) (l (argBest (fun i j => HT.lexLt (l i) (l j)) n)) = false
  | 0 => ⟨Nat.le_refl _, fun j hj => by
    have : j = 0 := by omega
    subst this
    exact lex_irr _⟩
  | n + 1 => by
    obtain ⟨h1, h2⟩ := best_least l n
    have e0 : argBest (fun i j => HT.lexLt (l i) (l j)) (n + 1) = if HT.lexLt (l (n + 1)) (l (argBest (fun i j => HT.lexLt (l i) (l j)) n)) then n + 1 else argBest (fun i j => HT.lexLt (l i) (l j)) n := rfl
    rw [e0]
    generalize argBest (fun i j => HT.lexLt (l i) (l j)) n = b at h1 h2
    cases e : HT.lexLt (l (n + 1)) (l b) with
    | true =>
      rw [if_pos rfl]
      refine ⟨Nat.le_refl _, fun j hj => ?_⟩
      rcases Nat.lt_or_ge j (n + 1) with z | z
      · exact NtL.lex_tr _ _ _ (NtL.lex_asym _ _ e) (h2 j (by omega))
      · have : j = n + 1 := by omega
        subst this; exact lex_irr _
    | false =>
      rw [if_neg (by decide)]
      refine ⟨by omega, fun j hj => ?_⟩
      rcases Nat.lt_or_ge j (n + 1) with z | z
      · exact h2 j (by omega)
      · have : j = n + 1 := by omega
        subst this; exact e
section
variable {prog : Program} {w : World} {A : Around} {E : Value → Shared → Prop} {s : Shared}
/-- v is a tuple of the ints ns in h -/
def TupIn (h : Heap) (v : Value) (ns : List Int) : Prop := ∃ (a : Addr) (items : Array Value), v = .ref a ∧ IsTup h a items ∧ IntsAre items.toList ns
theorem TupIn.keep {h h' : Heap} {v : Value} {ns : List Int} (t : TupIn h v ns) (k : ∀ b o, h.get? b = some o → h'.get? b = some o) : TupIn h' v ns := by
  obtain ⟨a, items, e, ⟨o, h1, h2, h3⟩, hi⟩ := t
  exact ⟨a, items, e, ⟨o, k _ _ h1, h2, h3⟩, hi⟩
theorem cmp_tups {vs : Array Value} {l : Nat → List Int} (hu : A.units < cLine) (ht : ∀ i v, vs[i]? = some v → TupIn s.heap v (l i)) :
    CmpIn prog w A .Lt s.heap (fun i v => vs[i]? = some v) (fun i j => HT.lexLt (l i) (l j)) := fun i j vi vj s' Q E hk hi hj hq => by
  obtain ⟨a, it1, rfl, t1, i1⟩ := (ht i vi hi).keep hk
  obtain ⟨b, it2, rfl, t2, i2⟩ := (ht j vj hj).keep hk
  exact HT.lt_tupInts t1 t2 i1 i2 hu hq
/-- min(l) of a list of tuples of ints -/
theorem min_tups {a : Addr} {vs : Array Value} {l : Nat → List Int} {Q : Value → Shared → Prop} (hh : A.handled = none) (hl : s.heap.IsList a vs) (h0 : 0 < vs.size) (hu : A.units + 1 < cLine) (ht : ∀ i v, vs[i]? = some v → TupIn s.heap v (l i))
    (h : ∀ (i : Nat) v h' tk, vs[i]? = some v → (∀ j, j < vs.size → HT.lexLt (l j) (l i) = false) → (∀ b o, s.heap.get? b = some o → h'.get? b = some o) → Q v { s with heap := h', toks := tk }) :
    wpAny (model prog w) A (call (.builtin "min") [.ref a]) Q E s := by
  refine call_min_walkH (PySem.W.iter_listW (A := A.in1) hh hl fun s₂ e W st hfp hw hk => ?_)
  refine ⟨_, _, _, _, _, _, _, s.heap, _, rfl, W, st, hfp, h0, hw, hk, cmp_tups (A := A.in1) (show A.units + 1 < cLine from hu) ht, fun v s' hP m => ?_⟩
  obtain ⟨h', tk, rfl, hk'⟩ := PySem.W.moved_old e rfl m
  obtain ⟨b1, b2⟩ := best_least l (vs.size - 1)
  exact h _ v h' tk hP (fun j hj => b2 j (by omega)) hk'
/-- min(v, u) of two tuples of ints -/
theorem min_two_tups {v u : Value} {ns ms : List Int} {Q : Value → Shared → Prop} (hh : A.handled = none) (hu : A.units + 1 < cLine) (hv : TupIn s.heap v ns) (hw : TupIn s.heap u ms)
    (h : ∀ h' tk, (∀ b o, s.heap.get? b = some o → h'.get? b = some o) → Q (if HT.lexLt ms ns = true then u else v) { s with heap := h', toks := tk }) :
    wpAny (model prog w) A (call (.builtin "min") [v, u]) Q E s := by
  have hname : (toString "min" ++ toString ".loop" : String) = "min.loop" := by decide
  refine call_function_tree F.kind_min F.plain_min F.entry_min (F.args_min2 _ _) ?_
  show wpAny _ A.in1 (Builtin.Builtins.bindParams "min" ["key", "default"] 0 ⟨[], []⟩ >>= _) _ _ s
  refine wpAny_bind (wpAny_of_eq (show Builtin.Builtins.bindParams "min" ["key", "default"] 0 ⟨[], []⟩ = pure [none, none] from rfl) ?_)
  show wpAny _ A.in1 (newTuple [v, u] >>= _) _ _ s
  refine wpAny_bind (wpAny_newObj_type ?_)
  have hT : (s.heap.push { cls := .type "tuple", data := .seq #[v, u] }).IsTuple s.heap.objs.size #[v, u] := ⟨_, Heap.get?_push_size _ rfl, rfl, 0, rfl⟩
  have k0 : ∀ b o, s.heap.get? b = some o → (s.heap.push { cls := .type "tuple", data := .seq #[v, u] }).get? b = some o := fun b o e => Heap.get?_push_of_some _ e
  have ht : ∀ i x, (#[v, u] : Array Value)[i]? = some x → TupIn (s.heap.push { cls := .type "tuple", data := .seq #[v, u] }) x ((fun i : Nat => if i = 0 then ns else ms) i) := fun i x hx => by
    match i, hx with
    | 0, hx => cases hx; exact hv.keep k0
    | 1, hx => cases hx; exact hw.keep k0
    | i + 2, hx => simp at hx
  refine wpAny_bind (PySem.W.iter_tupleW (s := { s with heap := s.heap.push { cls := .type "tuple", data := .seq #[v, u] } }) (A := A.in1) hh hT fun s₂ e W st hfp hw' hk => ?_)
  refine wpAny_bind (wpAny_newObj_type ?_)
  have hSf : s₂.heap.objs.size ∉ [(s.heap.push { cls := .type "tuple", data := .seq #[v, u] }).objs.size, s.heap.objs.size] := fun hm => Nat.lt_irrefl _ (hfp _ hm)
  rw [hname]
  refine wpAny_pure ⟨plainId_quiet F.plain_min_loop _, codeAny_min_loop_firstH W _ hw' _ (cmp_tups (s := { s with heap := s.heap.push { cls := .type "tuple", data := .seq #[v, u] } }) (A := A.in1) (show A.units + 1 < cLine from hu) ht) s₂.heap.objs.size hSf (fresh_in hk) _ (by show 0 < 2; decide) (fun b o e => Heap.get?_push_of_some _ (hk b o e)) (W.frame 0 s₂ _ s₂.toks st (Nat.le_refl _) fun b _ o e => Heap.get?_push_of_some _ e) (Heap.get?_push_size _ rfl) fun x s' hP hm => ?_⟩
  have m := Moved.drop_new (tk := s₂.toks) hm (Nat.le_refl _)
  obtain ⟨h', tk, rfl, hk'⟩ := PySem.W.moved_old e rfl m
  have z := h h' tk fun b o eb => hk' b o (k0 b o eb)
  have ex : x = if HT.lexLt ms ns = true then u else v := by
    have hP1 : (#[v, u] : Array Value)[argBest (fun i j => HT.lexLt ((fun i : Nat => if i = 0 then ns else ms) i) ((fun i : Nat => if i = 0 then ns else ms) j)) 1]? = some x := hP
    cases el : HT.lexLt ms ns with
    | true =>
      have e1 : argBest (fun i j => HT.lexLt ((fun i : Nat => if i = 0 then ns else ms) i) ((fun i : Nat => if i = 0 then ns else ms) j)) 1 = 1 := by simp [argBest, el]
      rw [e1] at hP1
      rw [if_pos rfl]; cases hP1; rfl
    | false =>
      have e1 : argBest (fun i j => HT.lexLt ((fun i : Nat => if i = 0 then ns else ms) i) ((fun i : Nat => if i = 0 then ns else ms) j)) 1 = 0 := by simp [argBest, el]
      rw [e1] at hP1
      rw [if_neg (by decide)]; cases hP1; rfl
  rw [ex]; exact z
end
section
variable {X : Cx}
theorem tupIn_of {pins : List (Addr × Obj)} {s : Shared} {σ : L2.St} {H : Hp} (I : Inv X pins σ H s) {a : Addr} {ns : List Int} (h : SqT X.K H a (ns.map V.int)) : TupIn s.heap (.ref a) ns := by
  obtain ⟨its, r1, p1, _⟩ := I.tuple h
  exact ⟨a, _, rfl, p1, intsAre_of r1⟩
/-- min(t, u) of two tuples of ints -/
def rMin2T (K : PySem.W.Frag) : List V → Hp → VK → Prop := fun vs H Q => ∃ (a b : Addr) (ns ms : List Int), vs = [.ref a, .ref b] ∧ SqT K H a (ns.map V.int) ∧ SqT K H b (ms.map V.int) ∧ Q (.ref (if HT.lexLt ms ns = true then b else a)) H
theorem cr_min2T (hc : X.calm = true) (hu : X.A.units + 1 < cLine) : CallR X (.builtin "min") (rMin2T X.K) := by
  intro pins s σ H vs us Q I r h
  obtain ⟨a, b, ns, ms, rfl, ha, hb, q⟩ := h
  obtain ⟨u, w', rfl, e1, e2⟩ := vals2 r
  cases e1
  cases e2
  refine min_two_tups (I.ok.hd hc) hu (tupIn_of I ha) (tupIn_of I hb) fun h' tk k => ⟨_, H, I.kept k, ?_, q⟩
  cases HT.lexLt ms ns <;> rfl
/-! sorted of two tuples of ints of one length -/
theorem code_lex {B : Int} : ∀ {xs ys : List Int}, xs.length = ys.length → TS.Bd B xs → TS.Bd B ys → HT.lexLt xs ys = decide (TS.code B xs < TS.code B ys)
  | [], [], _, _, _ => by
    show false = decide (TS.code B [] < TS.code B [])
    rw [decide_eq_false (Int.lt_irrefl _)]
  | x :: xs, y :: ys, hl, h1, h2 => by
    have hl' : xs.length = ys.length := by simpa using hl
    have t1 : TS.Bd B xs := fun m hm => h1 m (List.mem_cons_of_mem _ hm)
    have t2 : TS.Bd B ys := fun m hm => h2 m (List.mem_cons_of_mem _ hm)
    rw [HT.lexLt_cons]
    by_cases e : x = y
    · rw [if_pos e, code_lex hl' t1 t2, e]
      refine decide_eq_decide.mpr ?_
      show TS.code B xs < TS.code B ys ↔ y * B ^ xs.length + TS.code B xs < y * B ^ ys.length + TS.code B ys
      rw [hl']
      omega
    · rw [if_neg e]
      refine decide_eq_decide.mpr ⟨fun z => TS.code_lt hl' t1 t2 z, fun z => ?_⟩
      rcases Int.lt_trichotomy x y with c | c | c
      · exact c
      · exact absurd c e
      · have := TS.code_lt hl'.symm t2 t1 c
        omega
theorem lex_tot : ∀ {xs ys : List Int}, HT.lexLt xs ys = false → HT.lexLt ys xs = false → xs = ys
  | [], [], _, _ => rfl
  | [], y :: ys, h, _ => by cases h
  | x :: xs, [], _, h => by cases h
  | x :: xs, y :: ys, h1, h2 => by
    rw [HT.lexLt_cons] at h1 h2
    by_cases e : x = y
    · rw [if_pos e] at h1
      rw [if_pos e.symm] at h2
      rw [e, lex_tot h1 h2]
    · rw [if_neg e] at h1
      rw [if_neg (fun z => e z.symm)] at h2
      have a1 := of_decide_eq_false h1
      have a2 := of_decide_eq_false h2
      omega
def rSort2T (K : PySem.W.Frag) : List V → Hp → VK → Prop := fun vs H Q => ∃ (l a b : Addr) (ns ms : List Int) (B : Int), vs = [.ref l] ∧ SqL K H l [.ref a, .ref b] ∧ SqT K H a (ns.map V.int) ∧ SqT K H b (ms.map V.int) ∧ ns.length = ms.length ∧ 1 ≤ ns.length ∧ TS.Bd B ns ∧ TS.Bd B ms ∧
  ∀ (c d p : Addr), SqT K H c ((if HT.lexLt ms ns = true then ms else ns).map V.int) → H p = none → Q (.ref p) (upd H p (.lst [.ref c, .ref d]))
theorem cr_sort2T : CallR X (.builtin "sorted") (rSort2T X.K) := by
  intro pins s σ H vs us Q I r h
  obtain ⟨l, a, b, ns, ms, B, rfl, hL, ha, hb, hlen, h1, B1, B2, q⟩ := h
  refine cr_sortT (d := ns.length) (B := B) h1 pins s σ H _ us Q I r ⟨l, _, rfl, hL, by show 2 < 64; decide, fun x hx => ?_, fun ys p pm pw np => ?_⟩
  · simp only [List.mem_cons, List.not_mem_nil, or_false] at hx
    rcases hx with rfl | rfl
    · exact ⟨ns, ⟨a, rfl, ha⟩, rfl, B1⟩
    · exact ⟨ms, ⟨b, rfl, hb⟩, hlen.symm, B2⟩
  · have hl2 : ys.length = 2 := pm.length_eq
    match ys, hl2, pm, pw with
    | [x, y], _, pm, pw =>
      have rel : ∀ n m, TupI X.K H x n → TupI X.K H y m → TS.code B n ≤ TS.code B m := by
        have z := pw
        rw [List.pairwise_cons] at z
        exact z.1 y (List.mem_singleton.mpr rfl)
      have ma : V.ref a = x ∨ V.ref a = y := by
        have z := pm.mem_iff.mpr (show V.ref a ∈ [V.ref a, V.ref b] by simp)
        simpa using z
      have mb : V.ref b = x ∨ V.ref b = y := by
        have z := pm.mem_iff.mpr (show V.ref b ∈ [V.ref a, V.ref b] by simp)
        simpa using z
      have my : y = V.ref a ∨ y = V.ref b := by
        have z := pm.mem_iff.mp (show y ∈ [x, y] by simp)
        simpa using z
      obtain ⟨d, ed⟩ : ∃ d, y = V.ref d := my.elim (fun e => ⟨_, e⟩) fun e => ⟨_, e⟩
      have fst : ∀ ty : TupI X.K H y ms, x = V.ref a → Q (.ref p) (upd H p (.lst [x, y])) := fun ty ex => by
        have le := rel ns ms ⟨a, ex, ha⟩ ty
        have z := code_lex hlen.symm B2 B1
        rw [decide_eq_false (by omega)] at z
        rw [ex, ed]
        refine q a d p ?_ np
        rw [z, if_neg (by decide)]; exact ha
      rcases ma with ea | ea
      · rcases mb with eb | eb
        · have eab : a = b := V.ref.inj (ea.trans eb.symm)
          refine fst ?_ ea.symm
          rcases my with e | e
          · exact ⟨a, e, by rw [eab]; exact hb⟩
          · exact ⟨b, e, hb⟩
        · exact fst ⟨b, eb.symm, hb⟩ ea.symm
      · rcases mb with eb | eb
        · have le := rel ms ns ⟨b, eb.symm, hb⟩ ⟨a, ea.symm, ha⟩
          rw [← eb, ed]
          refine q b d p ?_ np
          have z := code_lex hlen.symm B2 B1
          cases el : HT.lexLt ms ns with
          | true => rw [if_pos rfl]; exact hb
          | false =>
            rw [if_neg (by decide)]
            have z2 := code_lex hlen B1 B2
            rw [decide_eq_false (by omega)] at z2
            rw [lex_tot z2 el]; exact hb
        · have eab : a = b := V.ref.inj (ea.trans eb.symm)
          have mx : x = V.ref a ∨ x = V.ref b := by
            have z := pm.mem_iff.mp (show x ∈ [x, y] by simp)
            simpa using z
          refine fst ⟨b, eb.symm, hb⟩ ?_
          rcases mx with e | e
          · exact e
          · rw [e, eab]
end
end RV
set_option maxHeartbeats 4000000
/-! the least of all walks: mark by mark, and of all gone through -/
namespace RV
open PyProof.Rows
section
variable {bh : Int → List Int} {N : Nat} {E : List Int}
/-- from where so many steps lead to E -/
def beg (bh : Int → List Int) (N : Nat) (E : List Int) : Nat → List Int
  | 0 => E
  | n + 1 => (upN N).filter fun m => (bh m).any fun c => decide (c ∈ beg bh N E n)
theorem mem_beg {n : Nat} {m : Int} : m ∈ beg bh N E (n + 1) ↔ (0 ≤ m ∧ m < (N : Int)) ∧ ∃ c ∈ bh m, c ∈ beg bh N E n := by
  show m ∈ (upN N).filter _ ↔ _
  rw [List.mem_filter, mem_upN, List.any_eq_true]
  simp only [decide_eq_true_eq]
/-- mark by mark the least that still leads there -/
def Gr (bh : Int → List Int) (B : Nat → List Int) : Nat → Int → List Int → Prop
  | 0, m, w => w = [m]
  | n + 1, m, w => ∃ c w', w = m :: w' ∧ c ∈ bh m ∧ c ∈ B n ∧ (∀ y ∈ bh m, y ∈ B n → c ≤ y) ∧ Gr bh B n c w'
theorem Gr.uniq {B : Nat → List Int} : ∀ {n : Nat} {m : Int} {w v : List Int}, Gr bh B n m w → Gr bh B n m v → w = v
  | 0, m, w, v, h, h' => by rw [show w = [m] from h, show v = [m] from h']
  | n + 1, m, w, v, h, h' => by
    obtain ⟨c, w', rfl, a1, a2, a3, a4⟩ := h
    obtain ⟨d, v', rfl, b1, b2, b3, b4⟩ := h'
    have : c = d := Int.le_antisymm (a3 d b1 b2) (b3 c a1 a2)
    subst this
    rw [a4.uniq b4]
theorem Gr.len {B : Nat → List Int} : ∀ {n : Nat} {m : Int} {w : List Int}, Gr bh B n m w → w.length = n + 1
  | 0, m, w, h => by rw [show w = [m] from h]; rfl
  | n + 1, m, w, h => by
    obtain ⟨c, w', rfl, _, _, _, a4⟩ := h
    rw [List.length_cons, a4.len]
theorem Gr.congr {B B' : Nat → List Int} : ∀ {n : Nat} (_ : ∀ k, k < n → ∀ m, m ∈ B k ↔ m ∈ B' k) {m : Int} {w : List Int}, Gr bh B n m w → Gr bh B' n m w
  | 0, _, m, w, h => h
  | n + 1, e, m, w, h => by
    obtain ⟨c, w', rfl, a1, a2, a3, a4⟩ := h
    exact ⟨c, w', rfl, a1, (e n (by omega) c).mp a2, fun y y1 y2 => a3 y y1 ((e n (by omega) y).mpr y2), a4.congr fun k hk => e k (by omega)⟩
theorem Gr.inn {B : Nat → List Int} {P : Int → Prop} (hb : ∀ m, P m → ∀ c ∈ bh m, P c) : ∀ {n : Nat} {m : Int} {w : List Int}, Gr bh B n m w → P m → ∀ x ∈ w, P x
  | 0, m, w, h, hm, x, hx => by
    rw [show w = [m] from h, List.mem_singleton] at hx
    rw [hx]; exact hm
  | n + 1, m, w, h, hm, x, hx => by
    obtain ⟨c, w', rfl, a1, a2, a3, a4⟩ := h
    rcases List.mem_cons.mp hx with rfl | z
    · exact hm
    · exact a4.inn hb (hb m hm c a1) x z
/-- a walk of so many steps from m to o -/
def WkL (bh : Int → List Int) : Nat → Int → Int → List Int → Prop
  | 0, m, o, w => w = [m] ∧ m = o
  | n + 1, m, o, w => ∃ c w', w = m :: w' ∧ c ∈ bh m ∧ WkL bh n c o w'
theorem WkL.head : ∀ {n : Nat} {m o : Int} {w : List Int}, WkL bh n m o w → ∃ v, w = m :: v
  | 0, m, o, w, h => ⟨[], h.1⟩
  | n + 1, m, o, w, h => by
    obtain ⟨c, w', e, _⟩ := h
    exact ⟨w', e⟩
theorem Gr.head {B : Nat → List Int} : ∀ {n : Nat} {m : Int} {w : List Int}, Gr bh B n m w → ∃ v, w = m :: v
  | 0, m, w, h => ⟨[], h⟩
  | n + 1, m, w, h => by
    obtain ⟨c, w', e, _⟩ := h
    exact ⟨w', e⟩
theorem WkL.beg (hb : ∀ m, (0 ≤ m ∧ m < (N : Int)) → ∀ c ∈ bh m, 0 ≤ c ∧ c < (N : Int)) {o : Int} : ∀ {n : Nat} {m : Int} {w : List Int}, WkL bh n m o w → (0 ≤ m ∧ m < (N : Int)) → m ∈ RV.beg bh N [o] n
  | 0, m, w, h, _ => by rw [h.2]; exact List.mem_singleton.mpr rfl
  | n + 1, m, w, h, hm => by
    obtain ⟨c, w', _, h1, h2⟩ := h
    exact mem_beg.mpr ⟨hm, c, h1, h2.beg hb (hb m hm c h1)⟩
theorem Gr.wk {o : Int} : ∀ {n : Nat} {m : Int} {w : List Int}, Gr bh (RV.beg bh N [o]) n m w → m ∈ RV.beg bh N [o] n → WkL bh n m o w
  | 0, m, w, h, hm => ⟨h, List.mem_singleton.mp hm⟩
  | n + 1, m, w, h, hm => by
    obtain ⟨c, w', e, a1, a2, a3, a4⟩ := h
    exact ⟨c, w', e, a1, a4.wk a2⟩
theorem Gr.least (hb : ∀ m, (0 ≤ m ∧ m < (N : Int)) → ∀ c ∈ bh m, 0 ≤ c ∧ c < (N : Int)) {o : Int} : ∀ {n : Nat} {m : Int} {g w : List Int}, Gr bh (RV.beg bh N [o]) n m g → WkL bh n m o w → (0 ≤ m ∧ m < (N : Int)) → HT.lexLt w g = false
  | 0, m, g, w, h, h', _ => by rw [show g = [m] from h, h'.1]; exact lex_irr _
  | n + 1, m, g, w, h, h', hm => by
    obtain ⟨c, g', rfl, a1, a2, a3, a4⟩ := h
    obtain ⟨d, w', rfl, b1, b2⟩ := h'
    have hd := hb m hm d b1
    have le := a3 d b1 (b2.beg hb hd)
    rw [HT.lexLt_cons, if_pos rfl]
    by_cases e : d = c
    · subst e
      exact a4.least hb b2 hd
    · obtain ⟨x, rfl⟩ := a4.head
      obtain ⟨y, rfl⟩ := b2.head
      rw [HT.lexLt_cons, if_neg e, decide_eq_false (by omega)]
theorem ex_gr : ∀ {n : Nat} {m : Int}, m ∈ RV.beg bh N E n → ∃ w, Gr bh (RV.beg bh N E) n m w
  | 0, m, _ => ⟨[m], rfl⟩
  | n + 1, m, h => by
    obtain ⟨_, c, h1, h2⟩ := mem_beg.mp h
    have lst : ∀ (l : List Int), l ≠ [] → ∃ x ∈ l, ∀ y ∈ l, x ≤ y := by
      intro l
      induction l with
      | nil => intro z; exact absurd rfl z
      | cons a l ih =>
        intro _
        by_cases e : l = []
        · subst e
          exact ⟨a, List.mem_singleton.mpr rfl, fun y hy => by rw [List.mem_singleton.mp hy]; exact Int.le_refl _⟩
        · obtain ⟨x, x1, x2⟩ := ih e
          rcases Int.le_total a x with z | z
          · exact ⟨a, List.mem_cons_self, fun y hy => by
              rcases List.mem_cons.mp hy with rfl | y1
              · exact Int.le_refl _
              · exact Int.le_trans z (x2 y y1)⟩
          · exact ⟨x, List.mem_cons_of_mem _ x1, fun y hy => by
              rcases List.mem_cons.mp hy with rfl | y1
              · exact z
              · exact x2 y y1⟩
    obtain ⟨x, x1, x2⟩ := lst ((bh m).filter fun y => decide (y ∈ RV.beg bh N E n)) (fun z => by
      have : c ∈ (bh m).filter fun y => decide (y ∈ RV.beg bh N E n) := List.mem_filter.mpr ⟨h1, decide_eq_true h2⟩
      rw [z] at this; cases this)
    obtain ⟨x3, x4⟩ := List.mem_filter.mp x1
    have x4 := of_decide_eq_true x4
    obtain ⟨w, hw⟩ := ex_gr x4
    exact ⟨m :: w, x, w, rfl, x3, x4, fun y y1 y2 => x2 y (List.mem_filter.mpr ⟨y1, decide_eq_true y2⟩), hw⟩
/-- the last mark -/
def la (w : List Int) : Int := w.getLast?.getD 0
theorem la_add (w : List Int) (c : Int) : la (w ++ [c]) = c := by unfold la; simp
theorem WkL.snoc {o d : Int} : ∀ {n : Nat} {m : Int} {w : List Int}, WkL bh n m o w → d ∈ bh o → WkL bh (n + 1) m d (w ++ [d])
  | 0, m, w, h, hd => by
    obtain ⟨rfl, rfl⟩ := h
    exact ⟨d, [d], rfl, hd, rfl, rfl⟩
  | n + 1, m, w, h, hd => by
    obtain ⟨c, w', rfl, h1, h2⟩ := h
    exact ⟨c, w' ++ [d], rfl, h1, h2.snoc hd⟩
theorem WkL.unsnoc {d : Int} : ∀ {n : Nat} {m : Int} {w : List Int}, WkL bh (n + 1) m d w → ∃ o v, WkL bh n m o v ∧ d ∈ bh o ∧ w = v ++ [d]
  | 0, m, w, h => by
    obtain ⟨c, w', rfl, h1, h2, rfl⟩ := h
    exact ⟨m, [m], ⟨rfl, rfl⟩, h1, by rw [h2]; rfl⟩
  | n + 1, m, w, h => by
    obtain ⟨c, w', rfl, h1, h2⟩ := h
    obtain ⟨o, v, k1, k2, rfl⟩ := h2.unsnoc
    exact ⟨o, m :: v, ⟨c, v, rfl, h1, k1⟩, k2, rfl⟩
theorem WkL.la : ∀ {n : Nat} {m o : Int} {w : List Int}, WkL bh n m o w → RV.la w = o
  | 0, m, o, w, h => by rw [h.1, h.2]; rfl
  | n + 1, m, o, w, h => by
    obtain ⟨c, v, _, _, rfl⟩ := h.unsnoc
    exact la_add _ _
theorem WkL.len : ∀ {n : Nat} {m o : Int} {w : List Int}, WkL bh n m o w → w.length = n + 1
  | 0, m, o, w, h => by rw [h.1]; rfl
  | n + 1, m, o, w, h => by
    obtain ⟨c, v, rfl, _, h2⟩ := h
    rw [List.length_cons, h2.len]
/-- all walks of so many steps from m, gone through -/
def alw (bh : Int → List Int) (m : Int) : Nat → List (List Int)
  | 0 => [[m]]
  | n + 1 => (alw bh m n).flatMap fun w => (bh (la w)).map fun c => w ++ [c]
theorem mem_alw {m : Int} : ∀ {n : Nat} {w : List Int}, w ∈ alw bh m n ↔ ∃ o, WkL bh n m o w
  | 0, w => by
    show w ∈ [[m]] ↔ _
    rw [List.mem_singleton]
    exact ⟨fun h => ⟨m, h, rfl⟩, fun ⟨o, h, _⟩ => h⟩
  | n + 1, w => by
    show w ∈ (alw bh m n).flatMap _ ↔ _
    rw [List.mem_flatMap]
    constructor
    · rintro ⟨v, h1, h2⟩
      obtain ⟨o, ho⟩ := mem_alw.mp h1
      obtain ⟨c, c1, rfl⟩ := List.mem_map.mp h2
      rw [ho.la] at c1
      exact ⟨c, ho.snoc c1⟩
    · rintro ⟨d, hd⟩
      obtain ⟨o, v, k1, k2, rfl⟩ := hd.unsnoc
      refine ⟨v, mem_alw.mpr ⟨o, k1⟩, List.mem_map.mpr ⟨d, ?_, rfl⟩⟩
      rw [k1.la]; exact k2
theorem alw_len {m : Int} {b : Nat} (hb : ∀ x, (bh x).length ≤ b) : ∀ n, (alw bh m n).length ≤ b ^ n
  | 0 => Nat.le_refl _
  | n + 1 => by
    show ((alw bh m n).flatMap _).length ≤ _
    have h : ∀ L : List (List Int), (L.flatMap fun w => (bh (la w)).map fun c => w ++ [c]).length ≤ L.length * b := by
      intro L
      induction L with
      | nil => simp
      | cons w L ih =>
        rw [List.flatMap_cons, List.length_append, List.length_map, List.length_cons, Nat.succ_mul]
        have := hb (la w)
        omega
    exact Nat.le_trans (h _) (by rw [Nat.pow_succ]; exact Nat.mul_le_mul (alw_len hb n) (Nat.le_refl _))
end
end RV
namespace RV
open PySem PySem.Spec PyProof.Rows L2
/-! ### what repr asks of tuples of pairs -/
theorem small_log {i : Int} (h : i.natAbs < 10 ^ 12) : i.natAbs.log2 < 1920 := by
  rcases Nat.eq_zero_or_pos i.natAbs with e | e
  · rw [e]; decide
  · have h1 : i.natAbs < 2 ^ 64 := Nat.lt_of_lt_of_le h (by decide)
    have h2 : i.natAbs.log2 < 64 := (Nat.log2_lt (by omega)).mpr h1
    omega
theorem show_ints : ∀ ns : List Int, (∀ n ∈ ns, n.natAbs < 10 ^ 12) → PyData.showableAll (ns.map PyData.int) = true
  | [], _ => by simp [PyData.showableAll]
  | n :: r, h => by
    have h1 := small_log (h n (List.mem_cons_self ..))
    have h2 := show_ints r fun m hm => h m (List.mem_cons_of_mem _ hm)
    simp [PyData.showableAll, PyData.showable, h1, h2]
theorem show_dIs : ∀ ps : List (List Int), (∀ p ∈ ps, ∀ n ∈ p, n.natAbs < 10 ^ 12) → PyData.showableAll (ps.map dI) = true
  | [], _ => by simp [PyData.showableAll]
  | p :: r, h => by
    have h1 := show_ints p (h p (List.mem_cons_self ..))
    have h2 := show_dIs r fun m hm => h m (List.mem_cons_of_mem _ hm)
    have h3 : (dI p).showable = true := by simp only [dI, PyData.showable]; exact h1
    simp [PyData.showableAll, h3, h2]
theorem short_dIs : ∀ ps : List (List Int), (∀ p ∈ ps, ∀ n ∈ p, n.natAbs < 10 ^ 12) → PyData.intsShortAll 13 (ps.map dI) = true
  | [], _ => by simp [PyData.intsShortAll]
  | p :: r, h => by
    have h1 := PyData.intsShortAll_ints p (h p (List.mem_cons_self ..))
    have h2 := short_dIs r fun m hm => h m (List.mem_cons_of_mem _ hm)
    have h3 : (dI p).intsShort 13 = true := by simp only [dI, PyData.intsShort]; exact h1
    simp [PyData.intsShortAll, h3, h2]
theorem bulk_ints : ∀ ns : List Int, PyData.bulkAll (ns.map PyData.int) = ns.length
  | [] => by simp [PyData.bulkAll]
  | n :: r => by simp [PyData.bulkAll, PyData.bulk, bulk_ints r]; omega
theorem bulk_dIs : ∀ ps : List (List Int), (∀ p ∈ ps, p.length ≤ 2) → PyData.bulkAll (ps.map dI) ≤ 3 * ps.length
  | [], _ => by simp [PyData.bulkAll]
  | p :: r, h => by
    have h1 : (dI p).bulk = p.length := by simp only [dI, PyData.bulk, bulk_ints]
    have h2 := bulk_dIs r fun m hm => h m (List.mem_cons_of_mem _ hm)
    have h3 := h p (List.mem_cons_self ..)
    simp only [List.map_cons, PyData.bulkAll, h1, List.length_cons]
    omega
/-- (ps, os), two tuples of pairs -/
def d2 (ps os : List (List Int)) : PyData := .tuple [dTT ps, dTT os]
theorem pr_small {b : Int} (hb : b ≤ 64) {ps : List (List Int)} (h : ∀ p ∈ ps, Pr b p) : ∀ p ∈ ps, ∀ n ∈ p, n.natAbs < 10 ^ 12 := fun p hp n hn => by
  obtain ⟨x, y, rfl, hx, hy⟩ := h p hp
  simp only [List.mem_cons, List.not_mem_nil, or_false] at hn
  rcases hn with rfl | rfl <;> omega
theorem pr_len {b : Int} {ps : List (List Int)} (h : ∀ p ∈ ps, Pr b p) : ∀ p ∈ ps, p.length ≤ 2 := fun p hp => by
  obtain ⟨x, y, rfl, _⟩ := h p hp
  simp
structure Reprs (ps os : List (List Int)) : Prop where
  h1 : (d2 ps os).showable = true
  h2 : (d2 ps os).hasDict = false
  h3 : (d2 ps os).depth ≤ 64
  h4 : (d2 ps os).shown.length ≤ sizeLine
theorem reprs {b c : Int} (hb : b ≤ 64) (hc : c ≤ 64) {ps os : List (List Int)} (h : ∀ p ∈ ps, Pr b p) (h' : ∀ p ∈ os, Pr c p) (l1 : ps.length ≤ 1000) (l2 : os.length ≤ 1000) : Reprs ps os := by
  have lay : (d2 ps os).canLay0 = true := by
    simp only [d2, dTT, PyData.canLay0, PyData.canLayAll0, lay_dI, Bool.and_self]
  refine ⟨?_, PyData.hasDict_of_canLay _ lay, ?_, ?_⟩
  · simp only [d2, dTT, PyData.showable, PyData.showableAll, show_dIs ps (pr_small hb h), show_dIs os (pr_small hc h'), Bool.and_self]
  · have h1 := dep_dI ps
    have h2 := dep_dI os
    simp only [d2, dTT, PyData.depth, PyData.depthAll]
    omega
  · refine PyData.shown_fits_bulk (B := 13) (by decide) (by decide) (PyData.leavesShort_of_canLay0 13 _ lay ?_) ?_
    · simp only [d2, dTT, PyData.intsShort, PyData.intsShortAll, short_dIs ps (pr_small hb h), short_dIs os (pr_small hc h'), Bool.and_self]
    · have h1 := bulk_dIs ps (pr_len h)
      have h2 := bulk_dIs os (pr_len h')
      simp only [d2, dTT, PyData.bulk, PyData.bulkAll]
      omega
theorem d2_dp {K : PySem.W.Frag} {H : Hp} {T a b : Addr} {ps os : List (List Int)} (h : H T = some (.tup [.ref a, .ref b])) (h1 : Tups K H a ps) (h2 : Tups K H b os) : Dp K H (.ref T) (d2 ps os) :=
  .tup (.inl (.inl h)) (.cons h1.dp (.cons h2.dp .nil))
end RV
namespace RV
open PySem PySem.Spec PyProof.Rows L2
/-- (ns, ps): mirrors and steps -/
def d1 (ns : List Int) (ps : List (List Int)) : PyData := .tuple [dI ns, dTT ps]
structure Shows (d : PyData) : Prop where
  h1 : d.showable = true
  h2 : d.hasDict = false
  h3 : d.depth ≤ 64
  h4 : d.shown.length ≤ sizeLine
theorem shows_d1 {b : Int} (hb : b ≤ 64) {ns : List Int} {ps : List (List Int)} (hn : ∀ n ∈ ns, n.natAbs < 10 ^ 12) (ln : ns.length ≤ 1000) (h : ∀ p ∈ ps, Pr b p) (l1 : ps.length ≤ 1000) : Shows (d1 ns ps) := by
  have lay : (d1 ns ps).canLay0 = true := by
    simp only [d1, dTT, PyData.canLay0, PyData.canLayAll0, lay_dI, dI_lay, Bool.and_self]
  have i1 : (dI ns).showable = true := by simp only [dI, PyData.showable]; exact show_ints ns hn
  have i2 : (dI ns).intsShort 13 = true := by simp only [dI, PyData.intsShort]; exact PyData.intsShortAll_ints ns hn
  have i3 : (dI ns).bulk = ns.length := by simp only [dI, PyData.bulk, bulk_ints]
  refine ⟨?_, PyData.hasDict_of_canLay _ lay, ?_, ?_⟩
  · simp only [d1, dTT, PyData.showable, PyData.showableAll, i1, show_dIs ps (pr_small hb h), Bool.and_self]
  · have h1 := dep_dI ps
    simp only [d1, dTT, PyData.depth, PyData.depthAll, dI_dep]
    omega
  · refine PyData.shown_fits_bulk (B := 13) (by decide) (by decide) (PyData.leavesShort_of_canLay0 13 _ lay ?_) ?_
    · simp only [d1, dTT, PyData.intsShort, PyData.intsShortAll, i2, short_dIs ps (pr_small hb h), Bool.and_self]
    · have h1 := bulk_dIs ps (pr_len h)
      simp only [d1, dTT, PyData.bulk, PyData.bulkAll, i3]
      omega
theorem shows_dI {ns : List Int} (hn : ∀ n ∈ ns, n.natAbs < 10 ^ 12) (ln : ns.length ≤ 1000) : Shows (dI ns) := by
  have i3 : (dI ns).bulk = ns.length := by simp only [dI, PyData.bulk, bulk_ints]
  refine ⟨by simp only [dI, PyData.showable]; exact show_ints ns hn, PyData.hasDict_of_canLay _ (dI_lay ns), by rw [dI_dep]; decide, ?_⟩
  refine PyData.shown_fits_bulk (B := 13) (by decide) (by decide) (PyData.leavesShort_of_canLay0 13 _ (dI_lay ns) ?_) (by rw [i3]; omega)
  simp only [dI, PyData.intsShort]; exact PyData.intsShortAll_ints ns hn
theorem d1_dp {K : PySem.W.Frag} {H : Hp} {T a b : Addr} {ns : List Int} {ps : List (List Int)} (h : H T = some (.tup [.ref a, .ref b])) (h1 : SqT K H a (ns.map V.int)) (h2 : Tups K H b ps) : Dp K H (.ref T) (d1 ns ps) :=
  .tup (.inl (.inl h)) (.cons (dpT h1) (.cons h2.dp .nil))
theorem shaped_d1 (ns : List Int) (ps : List (List Int)) : SeqAt.shaped (d1 ns ps) = true := by
  have h1 := dep_dI ps
  have e : (d1 ns ps).depth ≤ 64 := by simp only [d1, dTT, PyData.depth, PyData.depthAll, dI_dep]; omega
  show ((d1 ns ps).canLay0 && decide ((d1 ns ps).depth ≤ 64)) = true
  rw [decide_eq_true e, Bool.and_true]
  simp only [d1, dTT, PyData.canLay0, PyData.canLayAll0, lay_dI, dI_lay, Bool.and_self]
theorem eqv_d1 (ns ms : List Int) (ps qs : List (List Int)) : PyData.eqv (d1 ns ps) (d1 ms qs) = (decide (ns = ms) && decide (ps = qs)) := by
  simp only [d1, PyData.eqv, PyData.eqvAll, eqvI, eqvTT, Bool.and_true]
end RV
set_option maxHeartbeats 4000000
namespace RV
open PySem PySem.Spec PyProof.Rows L2
section
variable {X : Cx}
/-- ts.index(t), tuples of ints in a tuple -/
def rIndexTs (K : PySem.W.Frag) : V → List V → Hp → VK → Prop := fun x xs H Q => ∃ (a b : Addr) (ps : List (List Int)) (p : List Int) (j : Nat), x = V.ref a ∧ xs = [V.ref b] ∧ Tups K H a ps ∧ SqT K H b (p.map V.int) ∧ ps[j]? = some p ∧ (∀ m, m < j → ps[m]? ≠ some p) ∧ Q (.int (j : Nat)) H
theorem mt_indexTs (hu : X.A.units + 65 < cLine) : MtR X "tuple.index" (rIndexTs X.K) := by
  intro pins s σ H x xs v us Q I rx rxs h
  obtain ⟨a, b, ps, p, j, rfl, rfl, hT, hb, hj, hno, q⟩ := h
  cases rx
  obtain ⟨u, rfl, ru⟩ := vals1 rxs
  cases ru
  obtain ⟨bs, r1⟩ := Dp.reads I (dI p) (.ref b) (.ref b) (dpT hb) rfl
  have lay := lay_dI ps
  have room : X.A.units + 1 + min (PyData.depthAll (ps.map dI)) (dI p).depth < cLine := by
    have := Nat.min_le_right (PyData.depthAll (ps.map dI)) (dI p).depth
    have e := dI_dep p
    omega
  obtain ⟨ks, rfl, hs, hks⟩ := hT
  obtain ⟨its, rv, ⟨⟨cls, dd, dat, sls⟩, ho, hc, n, hd⟩, hlen⟩ := I.tuple hs
  simp only at hc hd
  subst hc hd
  obtain ⟨as, rall⟩ := Dp.readsAll I ((ks.map (·.2)).map dI) _ its (dpTs ks hks) rv
  have ln : its.length = ((ks.map (·.2)).map dI).length := SeqAt.ReadsAll.length _ its as rall
  have mp : its.map (SeqAt.readOf s.heap) = (ks.map (·.2)).map dI := SeqAt.readsAll_map _ its as lay rall
  have jl : j < its.toArray.size := by
    have := (List.getElem?_eq_some_iff.mp hj).1
    rw [List.size_toArray, ln, List.length_map]; exact this
  have at_ : ∀ (m : Nat) (hm : m < its.toArray.size), ∃ z, (ks.map (·.2))[m]? = some z ∧ SeqAt.readOf s.heap its.toArray[m] = dI z := fun m hm => by
    have hm2 : m < (ks.map (·.2)).length := by rw [List.size_toArray, ln, List.length_map] at hm; exact hm
    refine ⟨_, List.getElem?_eq_getElem hm2, ?_⟩
    have e : (its.map (SeqAt.readOf s.heap))[m]? = some (dI (ks.map (·.2))[m]) := by rw [mp, List.getElem?_map, List.getElem?_eq_getElem hm2]; rfl
    have hml : m < its.length := by simpa using hm
    rw [List.getElem?_map, List.getElem?_eq_getElem hml] at e
    have e' := Option.some.inj e
    simpa using e'
  refine call_meets PySem.F.slot_tuple_index ⟨_, ho, rfl⟩ PySem.F.entry_tuple_index (PySem.F.args_tuple_index_2 _ _) (TI.tuple_indexAt a its.toArray n dd sls (.ref b) (fun y => PyData.eqv (SeqAt.readOf s.heap y) (dI p)) j jl ?_ ?_)
    ⟨ho, SeqAt.items_eqAt (vs := its.toArray) (show ReadsAll s.heap its.toArray.toList _ as from rall) r1 lay (dI_lay p) room, ⟨.int (j : Nat), H, I.tok _, ⟨_, rfl⟩, q⟩⟩
  · obtain ⟨z, e1, e2⟩ := at_ j jl
    rw [hj] at e1
    cases e1
    show PyData.eqv (SeqAt.readOf s.heap its.toArray[j]) (dI p) = true
    rw [e2, eqvI]
    exact decide_eq_true rfl
  · intro m hm hmj
    obtain ⟨z, e1, e2⟩ := at_ m hm
    show PyData.eqv (SeqAt.readOf s.heap its.toArray[m]) (dI p) = false
    rw [e2, eqvI]
    exact decide_eq_false fun e => hno m hmj (by rw [e1, e])
/-- repr(None), repr of a whole number -/
def rReprO : List V → Hp → VK → Prop := fun xs H Q => (∃ i : Int, xs = [.int i] ∧ i.natAbs.log2 < 1920 ∧ Q (.str (toString i)) H) ∨ (xs = [.non] ∧ Q (.str "None") H)
theorem call_reprO : CallR X (.builtin "repr") rReprO := by
  intro pins s σ H xs us Q I r h
  rcases h with h | ⟨rfl, q⟩
  · exact SkE.call_repr_int pins s σ H xs us Q I r h
  · obtain ⟨u, rfl, rx⟩ := vals1 r
    cases (show u = Value.none from rx)
    exact PySem.P.repr_of_none ⟨.str "None", H, I.tok _, ⟨_, rfl⟩, q⟩
theorem op_neDK {K : PySem.W.Frag} (h : X.K = K) (hu : X.A.units + 64 < cLine) : OpR X (compareOp .NotEq) (rNeD K) := h ▸ op_neD hu
end
theorem bulk_any : ∀ (ps : List (List Int)) (k : Nat), (∀ p ∈ ps, p.length ≤ k) → PyData.bulkAll (ps.map dI) ≤ (k + 1) * ps.length
  | [], k, _ => by simp [PyData.bulkAll]
  | p :: r, k, h => by
    have h1 : (dI p).bulk = p.length := by simp only [dI, PyData.bulk, bulk_ints]
    have h2 := bulk_any r k fun m hm => h m (List.mem_cons_of_mem _ hm)
    have h3 := h p (List.mem_cons_self ..)
    simp only [List.map_cons, PyData.bulkAll, h1, List.length_cons, Nat.mul_succ]
    omega
theorem shows_dTT {ps : List (List Int)} (hn : ∀ p ∈ ps, ∀ n ∈ p, n.natAbs < 10 ^ 12) (h1 : ∀ p ∈ ps, p.length ≤ 8) (h2 : ps.length ≤ 64) : Shows (dTT ps) := by
  have lay : (dTT ps).canLay0 = true := by simp only [dTT, PyData.canLay0]; exact lay_dI ps
  refine ⟨by simp only [dTT, PyData.showable]; exact show_dIs ps hn, PyData.hasDict_of_canLay _ lay, ?_, ?_⟩
  · have h := dep_dI ps
    simp only [dTT, PyData.depth]; omega
  · refine PyData.shown_fits_bulk (B := 13) (by decide) (by decide) (PyData.leavesShort_of_canLay0 13 _ lay ?_) ?_
    · simp only [dTT, PyData.intsShort]; exact short_dIs ps hn
    · have b := bulk_any ps 8 h1
      simp only [dTT, PyData.bulk]
      omega
/-! ### lots in order -/
end RV
set_option maxHeartbeats 4000000
namespace RV
open PySem PySem.Spec PyProof.Rows L2
theorem shows_dI7 {ns : List Int} (hn : ∀ n ∈ ns, n.natAbs < 10 ^ 12) (ln : ns.length ≤ 7000) : Shows (dI ns) := by
  have i3 : (dI ns).bulk = ns.length := by simp only [dI, PyData.bulk, bulk_ints]
  refine ⟨by simp only [dI, PyData.showable]; exact show_ints ns hn, PyData.hasDict_of_canLay _ (dI_lay ns), by rw [dI_dep]; decide, ?_⟩
  refine PyData.shown_fits_bulk (B := 13) (by decide) (by decide) (PyData.leavesShort_of_canLay0 13 _ (dI_lay ns) ?_) (by rw [i3]; omega)
  simp only [dI, PyData.intsShort]; exact PyData.intsShortAll_ints ns hn
section
variable {X : Cx}
/-- repr of a tuple or of None -/
def rReprT (K : PySem.W.Frag) : List V → Hp → VK → Prop := fun xs H Q => (∃ (a : Addr) (ns : List Int), xs = [.ref a] ∧ SqT K H a (ns.map V.int) ∧ Shows (dI ns) ∧ Q (.str (dI ns).shown) H) ∨ (xs = [.non] ∧ Q (.str "None") H)
theorem call_reprT (gd : X.A.guards = some []) (hu : X.A.units + 65 < cLine) : CallR X (.builtin "repr") (rReprT X.K) := by
  intro pins s σ H xs us Q I r h
  rcases h with ⟨a, ns, e, hT, sh, q⟩ | ⟨rfl, q⟩
  · exact call_reprD gd hu pins s σ H xs us Q I r ⟨a, dI ns, e, dpT hT, sh.h1, sh.h2, sh.h3, sh.h4, q⟩
  · obtain ⟨u, rfl, rx⟩ := vals1 r
    cases (show u = Value.none from rx)
    exact PySem.P.repr_of_none ⟨.str "None", H, I.tok _, ⟨_, rfl⟩, q⟩
end
/-- unlike numbers below n are at most n -/
theorem few_below : ∀ {n : Nat} {l : List Int}, l.Nodup → (∀ x ∈ l, 0 ≤ x ∧ x < (n : Int)) → l.length ≤ n
  | 0, l, _, h => by
    cases l with
    | nil => exact Nat.le_refl _
    | cons x l => have := h x List.mem_cons_self; omega
  | n + 1, l, nd, h => by
    have nd2 : (l.erase (n : Int)).Nodup := nd.erase _
    have h2 : ∀ x ∈ l.erase (n : Int), 0 ≤ x ∧ x < (n : Int) := fun x hx => by
      have h3 := (List.Nodup.mem_erase_iff nd).mp hx
      have h4 := h x h3.2
      have h5 := h3.1
      omega
    have z := few_below nd2 h2
    rw [List.length_erase] at z
    split at z
    · omega
    · rename_i hno
      omega
end RV
set_option maxHeartbeats 4000000
/-! walks of so many steps, and tables of where they end -/
namespace RV
open PySem PySem.Spec PyProof.Rows L2
section
variable {bh : Int → List Int} {N : Nat}
/-- so many steps lead from the one to the other -/
def lk (bh : Int → List Int) : Nat → Int → Int → Prop
  | 0, a, b => a = b
  | n + 1, a, b => ∃ c, c ∈ bh a ∧ lk bh n c b
theorem lk_add {n : Nat} {b : Int} : ∀ {m : Nat} {a : Int}, lk bh (m + n) a b ↔ ∃ c, lk bh m a c ∧ lk bh n c b
  | 0, a => by
    rw [Nat.zero_add]
    exact ⟨fun h => ⟨a, rfl, h⟩, fun ⟨c, h1, h2⟩ => by rw [show a = c from h1]; exact h2⟩
  | m + 1, a => by
    rw [show m + 1 + n = (m + n) + 1 by omega]
    constructor
    · rintro ⟨c, h1, h2⟩
      obtain ⟨d, h3, h4⟩ := lk_add.mp h2
      exact ⟨d, ⟨c, h1, h3⟩, h4⟩
    · rintro ⟨d, ⟨c, h1, h3⟩, h4⟩
      exact ⟨c, h1, lk_add.mpr ⟨d, h3, h4⟩⟩
theorem lk_one {a b : Int} : lk bh 1 a b ↔ b ∈ bh a :=
  ⟨fun ⟨c, h1, h2⟩ => by rw [← show c = b from h2]; exact h1, fun h => ⟨b, h, rfl⟩⟩
theorem lk_inn (hb : ∀ m, ∀ c ∈ bh m, 0 ≤ c ∧ c < (N : Int)) {b : Int} : ∀ {n : Nat} {a : Int}, lk bh n a b → (0 ≤ a ∧ a < (N : Int)) → 0 ≤ b ∧ b < (N : Int)
  | 0, a, h, ha => by rw [← show a = b from h]; exact ha
  | n + 1, a, ⟨c, h1, h2⟩, _ => lk_inn hb h2 (hb a c h1)
theorem beg_lk (hb : ∀ m, ∀ c ∈ bh m, 0 ≤ c ∧ c < (N : Int)) {b : Int} : ∀ {n : Nat} {a : Int}, (0 ≤ a ∧ a < (N : Int)) → (a ∈ beg bh N [b] n ↔ lk bh n a b)
  | 0, a, _ => by show a ∈ [b] ↔ a = b; rw [List.mem_singleton]
  | n + 1, a, ha => by
    rw [mem_beg]
    exact ⟨fun ⟨_, c, h1, h2⟩ => ⟨c, h1, (beg_lk hb (hb a c h1)).mp h2⟩, fun ⟨c, h1, h2⟩ => ⟨ha, c, h1, (beg_lk hb (hb a c h1)).mpr h2⟩⟩
end
/-- a tuple of rising tuples: x in the row of i just where f i x -/
def Tab (K : PySem.W.Frag) (H : Hp) (t : Addr) (N : Nat) (f : Int → Int → Prop) : Prop := ∃ as : List Addr, SqT K H t (as.map V.ref) ∧ as.length = N ∧
  ∀ (i : Nat) (a : Addr), as[i]? = some a → ∃ xs : List Int, SqT K H a (xs.map V.int) ∧ xs.Pairwise (· < ·) ∧ (∀ x ∈ xs, 0 ≤ x ∧ x < (N : Int)) ∧ ∀ x, x ∈ xs ↔ f (i : Int) x
theorem Tab.same {K : PySem.W.Frag} {H H' : Hp} {t : Addr} {N : Nat} {f : Int → Int → Prop} (h : Tab K H t N f) (s : Same H H') : Tab K H' t N f := by
  obtain ⟨as, h1, h2, h3⟩ := h
  exact ⟨as, sqT_same s h1, h2, fun i a e => (h3 i a e).imp fun xs q => ⟨sqT_same s q.1, q.2⟩⟩
theorem Tab.congr {K : PySem.W.Frag} {H : Hp} {t : Addr} {N : Nat} {f g : Int → Int → Prop} (h : Tab K H t N f) (e : ∀ i x : Int, 0 ≤ i → i < (N : Int) → (f i x ↔ g i x)) : Tab K H t N g := by
  obtain ⟨as, h1, h2, h3⟩ := h
  refine ⟨as, h1, h2, fun i a ea => ?_⟩
  obtain ⟨xs, q1, q2, q3, q4⟩ := h3 i a ea
  have hi := (List.getElem?_eq_some_iff.mp ea).1
  exact ⟨xs, q1, q2, q3, fun x => (q4 x).trans (e i x (by omega) (by omega))⟩
theorem Tab.at {K : PySem.W.Frag} {H : Hp} {t : Addr} {N : Nat} {f : Int → Int → Prop} (h : Tab K H t N f) {m : Int} (h0 : 0 ≤ m) (h1 : m < (N : Int)) : ∃ (vs : List V) (a : Addr) (xs : List Int), SqT K H t vs ∧ atI vs m = some (.ref a) ∧ SqT K H a (xs.map V.int) ∧ xs.Pairwise (· < ·) ∧ (∀ x ∈ xs, 0 ≤ x ∧ x < (N : Int)) ∧ ∀ x, x ∈ xs ↔ f m x := by
  obtain ⟨as, q1, q2, q3⟩ := h
  have hm : m.toNat < as.length := by omega
  have e : ((m.toNat : Nat) : Int) = m := Int.toNat_of_nonneg h0
  obtain ⟨xs, z1, z2, z3, z4⟩ := q3 m.toNat _ (List.getElem?_eq_getElem hm)
  rw [e] at z4
  refine ⟨_, as[m.toNat], xs, q1, ?_, z1, z2, z3, z4⟩
  have := atI_nat (xs := as.map V.ref) (j := m.toNat) (v := .ref as[m.toNat]) (by rw [List.getElem?_map, List.getElem?_eq_getElem hm]; rfl)
  rw [e] at this; exact this
theorem rise_nodup {xs : List Int} (h : xs.Pairwise (· < ·)) : xs.Nodup := h.imp fun {a b} z e => by omega
section
variable {X : Cx} {K : PySem.W.Frag} {w : World}
theorem pe_tupleOfK {a : Expr} {ta : TE} {p pos : Pos} (h : X.K = K) (hg : Gl X "tuple") (hm : X.mg "tuple" = none) (ha : PE X a ta) (na : starEach [a] X.env = (false, eval a X.env) :: starEach [] X.env := by rfl) :
    PE X (.Call (.Name "tuple" p) [a] [] pos) (tThen ta (kTup K)) := h ▸ pe_tupleOf hg hm ha na
theorem cr_sortedSetW (h : X.w = w) (hc : X.calm = true) : CallR X (.builtin "sorted") (rSortedSet w) := h ▸ cr_sortedSet hc
theorem pe_sc2W {el ta ia t1 ib : Expr} {sco : Scope} {own : List (PySem.Str × Nat)} {vs1 : List Nat} {pp : Pos} {wi wi1 : TI} {g g1 : TG} {te : TE} (h : X.w = w) (hc : X.calm = true) (hN : X.N.Nodup) (hi : PI X ta ia wi) (ok : BlkOk X.N X.env.scope sco own) (hv : ∀ i ∈ vs1, i ∈ own.map (·.2))
    (hg : ∀ s H C cl fp, PG (X.blk s H sco (compEnvC sco cl C X.env) fp) ta g) (hi1 : ∀ s H C cl fp, PI (X.blk s H sco (compEnvC sco cl C X.env) fp) t1 ib wi1) (hg1 : ∀ s H C cl fp, PG (X.blk s H sco (compEnvC sco cl C X.env) fp) t1 g1)
    (he : ∀ s H C cl fp, PE (X.blk s H sco (compEnvC sco cl C X.env) fp) el te) (hs : ∀ x, foldedSetIterable ia X.env x = pure x := by intro _; rfl) (hs1 : ∀ env x, foldedSetIterable ib env x = pure x := by intro _ _; rfl) :
    PE X (.SetComp el [⟨ta, ia, [], 0⟩, ⟨t1, ib, [], 0⟩] sco pp) (tS2 w wi g wi1 g1 te (own.map (·.2)) vs1) := h ▸ pe_sc2 hc hN hi ok hv hg hi1 hg1 he hs hs1
end
/-- a loop over a tuple that its turns leave as it is -/
theorem it_tup {K : PySem.W.Frag} {a : Addr} {xs : List V} {H0 : Hp} {Fin : Hp → Prop} {Bd : V → Hp → (Hp → Prop) → Prop} (Pv : Nat → Hp → Prop) (h0 : Pv 0 H0) (hl : ∀ i H, i ≤ xs.length → Pv i H → SqT K H a xs)
    (hs : ∀ i x H, xs[i]? = some x → Pv i H → Bd x H (Pv (i + 1))) (hd : ∀ H, Pv xs.length H → Fin H) :
    ∃ W : Nat → Nat → Hp → Prop, (∃ m, W 0 m H0) ∧ ∀ i m H, W i m H → ((Itt K a).stop i H ∧ Fin H) ∨ ((Itt K a).go i H ∧ ∃ Nx : Hp → Prop, (∀ H', Nx H' → ∃ m', m' < m ∧ W (i + 1) m' H') ∧ ∀ x H', (Itt K a).yld i H x H' → Bd x H' Nx) := by
  refine ⟨fun i m H => i ≤ xs.length ∧ m + i = xs.length ∧ Pv i H, ⟨xs.length, Nat.zero_le _, rfl, h0⟩, fun i m H ⟨hi, hm, hp⟩ => ?_⟩
  have hq := hl i H hi hp
  rcases Nat.lt_or_ge i xs.length with z | z
  · refine .inr ⟨⟨xs, xs[i], hq, List.getElem?_eq_getElem z⟩, Pv (i + 1), fun H' p' => ⟨m - 1, by omega, z, by omega, p'⟩, fun x H' y => ?_⟩
    obtain ⟨rfl, y⟩ := y
    exact hs i x _ (y xs hq) hp
  · obtain rfl : i = xs.length := by omega
    exact .inl ⟨⟨xs, hq, Nat.le_refl _⟩, hd H hp⟩
/-- a set that has just these -/
def SetL (w : World) (H : Hp) (D : Addr) (ls : List Int) : Prop := ∃ S : Int → Bool, H D = some (SetO w D S ls.length) ∧ ls.Nodup ∧ ∀ k, S k = true ↔ k ∈ ls
theorem SetL.nil {w : World} {H : Hp} {D : Addr} : SetL w (upd H D (SetO w D (fun _ => false) 0)) D [] := ⟨_, upd_same, List.nodup_nil, fun k => by simp⟩
theorem SetL.add {w : World} {H : Hp} {D : Addr} {ls : List Int} (h : SetL w H D ls) (c : Int) (room : ls.length ≤ 1000) : ∃ (S : Int → Bool) (n : Nat), H D = some (SetO w D S n) ∧ n + 1 < scanBound ∧ ∃ ls', SetL w (upd H D (SetO w D (fun j => S j || decide (j = c)) (if S c = true then n else n + 1))) D ls' ∧ ∀ k, k ∈ ls' ↔ k ∈ ls ∨ k = c := by
  obtain ⟨S, h1, h2, h3⟩ := h
  refine ⟨S, ls.length, h1, by show ls.length + 1 < 4096; omega, ?_⟩
  by_cases e : S c = true
  · refine ⟨ls, ⟨_, by rw [upd_same, if_pos e], h2, fun k => ?_⟩, fun k => ⟨.inl, fun z => z.elim id fun z => by rw [z]; exact (h3 c).mp e⟩⟩
    rw [Bool.or_eq_true, h3, decide_eq_true_iff]
    exact ⟨fun z => z.elim id fun z => by rw [z]; exact (h3 c).mp e, .inl⟩
  · refine ⟨c :: ls, ⟨_, by rw [upd_same, if_neg e]; rfl, List.nodup_cons.mpr ⟨fun z => e ((h3 c).mpr z), h2⟩, fun k => ?_⟩, fun k => by rw [List.mem_cons, or_comm]⟩
    rw [Bool.or_eq_true, h3, decide_eq_true_iff, List.mem_cons, or_comm]
theorem SetL.same {w : World} {H H' : Hp} {D : Addr} {ls : List Int} (h : SetL w H D ls) (s : Same H H') : SetL w H' D ls := by
  obtain ⟨S, h1, h2⟩ := h
  exact ⟨S, s _ _ h1, h2⟩
theorem sqT_set {w : World} {K : PySem.W.Frag} {H : Hp} {D D' : Addr} {S : Int → Bool} {n : Nat} {o' : HO} (e : H D = some (SetO w D' S n)) {a : Addr} {xs : List V} (h : SqT K H a xs) : SqT K (upd H D o') a xs := by
  rcases h with (h | ⟨o, h⟩) | h
  · exact .inl (.inl (by rw [upd_ne (fun z => by rw [z, e] at h; cases h)]; exact h))
  · exact .inl (.inr ⟨o, by rw [upd_ne (fun z => by rw [z, e] at h; cases h)]; exact h⟩)
  · exact .inr h
end RV
set_option maxHeartbeats 4000000
namespace K9
open PySem PySem.Spec PyProof.Rows L2 RV
theorem sqT_setL {K : PySem.W.Frag} {H : Hp} {D a : Addr} {xs ys : List V} {o : HO} (e : H D = some (.lst ys)) (h : SqT K H a xs) : SqT K (upd H D o) a xs := by
  rcases h with (h | ⟨u, h⟩) | h
  · exact .inl (.inl (by rw [upd_ne (ne_of h e (by intro z; cases z))]; exact h))
  · exact .inl (.inr ⟨u, by rw [upd_ne (ne_of h e (by intro z; cases z))]; exact h⟩)
  · exact .inr h
theorem RunOk.setL {K : PySem.W.Frag} {H : Hp} {D : Addr} {k : Rk} {ys : List V} {o : HO} (h : RunOk K H k) (e : H D = some (.lst ys)) : RunOk K (upd H D o) k := ⟨sqT_setL e h.1, sqT_setL e h.2⟩
/-- the list at D holds these runs -/
structure Lot (K : PySem.W.Frag) (H' : Hp) (D : Addr) (rs : List (Int × List Int)) : Prop where
  ex : ∃ js : List Rk, js.map valR = rs ∧ H' D = some (.lst (js.map fun k => V.ref k.1)) ∧ ∀ j ∈ js, RunOk K H' j
theorem Lot.add {K : PySem.W.Frag} {H' : Hp} {D : Addr} {rs : List (Int × List Int)} {j : Rk} {acc : List V} (h : Lot K H' D rs) (e : H' D = some (.lst acc)) (hj : RunOk K H' j) : Lot K (upd H' D (.lst (acc ++ [.ref j.1]))) D (rs ++ [valR j]) := by
  obtain ⟨js, h1, h2, h3⟩ := h.ex
  rw [h2] at e
  cases e
  refine ⟨js ++ [j], by rw [List.map_append, h1]; rfl, by rw [upd_same, List.map_append]; rfl, fun k hk => ?_⟩
  rcases List.mem_append.mp hk with z | z
  · exact (h3 k z).setL h2
  · rw [List.mem_singleton.mp z]; exact hj.setL h2
theorem Lot.same {K : PySem.W.Frag} {H H' : Hp} {D : Addr} {rs : List (Int × List Int)} (h : Lot K H D rs) (s : Same H H') : Lot K H' D rs :=
  let ⟨js, h1, h2, h3⟩ := h.ex; ⟨js, h1, s _ _ h2, fun k hk => (h3 k hk).same s⟩
theorem Lot.nil {K : PySem.W.Frag} {H : Hp} {D : Addr} : Lot K (upd H D (.lst [])) D [] := ⟨[], rfl, upd_same, fun _ h => nomatch h⟩
theorem Lot.list {K : PySem.W.Frag} {H : Hp} {D : Addr} {rs : List (Int × List Int)} (h : Lot K H D rs) : ∃ acc, H D = some (.lst acc) ∧ acc.length = rs.length := by
  obtain ⟨js, h1, h2, h3⟩ := h.ex
  exact ⟨_, h2, by rw [← h1, List.length_map, List.length_map]⟩
/-- tuple(l) of such a list -/
theorem Lot.ring {K : PySem.W.Frag} {H : Hp} {D u : Addr} {rs : List (Int × List Int)} {acc : List V} (h : Lot K H D rs) (e : H D = some (.lst acc)) (nu : H u = none) : RingAt K (upd H u (.tup acc)) u rs := by
  obtain ⟨js, h1, h2, h3⟩ := h.ex
  rw [h2] at e
  cases e
  exact ⟨js, h1, tupNew upd_same, fun k hk => (h3 k hk).same (same_upd nu)⟩
def mirF (ns : List Int) : Int → Int := fun x => ns.getD x.toNat 0
section
variable {P : Program} {w : World} {K : PySem.W.Frag} {mg : Str → Option Value} {base : Heap}
/-! ### mirrored -/
abbrev nMir : List Str := ["rule", "ring", "times", "marks", "mark"]
theorem scMirrored : FnScope nMir ["rule", "ring"] (defScope sMirrored) := ⟨rfl, rfl, rfl, by decide +kernel, rfl, by decide +kernel, by decide +kernel⟩
def spMirrored (K : PySem.W.Frag) (C : Addr) : Sp := fun vs H Q _ => ∃ (r a : Addr) (rs : List (Int × List Int)) (ns : List Int) (ps : List (List Int)), vs = [.ref r, .ref a] ∧ RuleAt K C H r ns ps ∧ RingAt K H a rs ∧ Rg ns rs ∧
  ∀ (H' : Hp) (T : Addr), Same H H' → RingAt K H' T (mirL (mirF ns) rs) → Q (.ref T) H'
theorem ok_mirrored {f C fR : Addr} {fd dR : FuncData} (F : Fun K "mirrored" "mirrored" sMirrored f fd) (T : Txt K mg C) (B : Bare mg)
    (FR : Fun K "mirror" "Rule.mirror" sMirrorM fR dR) (bR : Binds K dR ["self", "mark"] []) (mR : Meth K C "mirror" fR) : FnOk P w K mg base CX0 2 f fd ["rule", "ring"] (spMirrored K C) := by
  have GR : FnOk P w K mg base CX0 1 fR dR ["self", "mark"] (spMirrorM K C) := ok_mirrorM FR T
  refine F.ok scMirrored (fun vs H Q E h => ?_) (fun cdv A outer s H vs Q E hr h => ?_)
  · obtain ⟨r, a, rs, ns, ps, rfl, _⟩ := h
    rfl
  · obtain ⟨r, a, rs, ns, ps, rfl, R, hR, g, q⟩ := h
    obtain ⟨ks, rfl, hT, hk⟩ := hR
    have hf := g.sz.few
    rw [List.length_map] at hf
    obtain ⟨dx, a0, b0, t0, g1, g2, g3, g4⟩ := R.ex
    have fno := flds_no a0 b0 t0 (m := "mirror") (by decide +kernel) (by decide +kernel) (by decide +kernel)
    refine ⟨_, pss_one (ps_ret (pe_tupleOf (by rfl) B.tuple
      (pe_lc (own := [("times", 2), ("marks", 3)]) (g := gTup K 2 (gCons (gName 2) (gCons (gName 3) gNil))) (tt := tYes) rfl scMirrored.nd (pi_tup (pe_backT (pv 1))) (blkOk_by (N := nMir) (sc := defScope sMirrored) (by decide +kernel))
        (fun _ _ _ _ _ => pg_tupK rfl rfl (pgs_cons (pg_name (i := 2) scMirrored.nd rfl (Or.inl rfl)) (pgs_cons (pg_name (i := 3) scMirrored.nd rfl (Or.inl rfl)) pgs_nil))) (fun _ _ _ _ _ => pts_nil)
        (fun _ _ _ _ _ => pe_tup (pa_cons (pv 2) (pa_cons (pe_tupleOfK (K := K) rfl (by rfl) B.tuple
          (pe_lc (own := [("mark", 4)]) (g := gName 4) (tt := tYes) rfl scMirrored.nd (pi_tupK (K := K) rfl (pe_backTK (K := K) rfl (pv 3))) (blkOk_by (N := nMir) (by rfl))
            (fun _ _ _ _ _ => pg_name (i := 4) scMirrored.nd rfl (Or.inl rfl)) (fun _ _ _ _ _ => pts_nil)
            (fun _ _ _ _ _ => pe_meth (pv 0) T.cl mR GR hr bR .nil pass0 (pa_cons (pv 4) pa_nil)))) pa_nil)))))), ?_⟩
    refine ⟨.ref a, rfl, a, _, rfl, hT, fun b nb => ⟨b, rfl, ⟨_, tupNew upd_same⟩, fun D nD => ?_⟩⟩
    have sb := same_upd (o := .tup (ks.map fun k => V.ref k.1).reverse) nb
    have hb : (upd H b (.tup (ks.map fun k => V.ref k.1).reverse)) b = some (.tup (ks.reverse.map fun k => V.ref k.1)) := by rw [upd_same, List.map_reverse]
    generalize upd H b (.tup (ks.map fun k => V.ref k.1).reverse) = H1 at sb hb nD ⊢
    refine lc_tup (K := K) (a := b) (xs := ks.reverse.map fun k => V.ref k.1) (fun i H' => Same H1 H' ∧ Lot K H' D (((ks.reverse.take i).map valR).map fun r => (r.1, r.2.reverse.map (mirF ns)))) ⟨same_upd nD, Lot.nil⟩ (fun i H' _ p => tupNew (p.1 _ _ hb)) (fun i x H2 hx p => ?_) fun H' p => ?_
    · obtain ⟨k, gk, rfl⟩ := map_at hx
      have km := List.mem_reverse.mp (List.mem_of_getElem? gk)
      have kr := List.mem_map_of_mem (f := valR) km
      obtain ⟨s2, lot⟩ := p
      have s02 := sb.trans s2
      have hk2 := (hk k km).same s02
      refine ⟨k.1, _, rfl, hk2.1, rfl, _, _, rfl, _, _, rfl, rfl, rfl, tt_yes ⟨.int k.2.2.1, rfl, ?_⟩⟩
      refine ⟨.ref k.2.1, rfl, k.2.1, _, rfl, hk2.2, fun c nc => ⟨c, rfl, ⟨_, tupNew upd_same⟩, fun D2 nD2 => ?_⟩⟩
      have sc := same_upd (o := .tup (k.2.2.2.map V.int).reverse) nc
      have hc : SqT K (upd H2 c (.tup (k.2.2.2.map V.int).reverse)) c (k.2.2.2.reverse.map V.int) := tupNew (by rw [upd_same, List.map_reverse])
      generalize upd H2 c (.tup (k.2.2.2.map V.int).reverse) = H3 at sc hc nD2 ⊢
      have wl : k.2.2.2.length ≤ 1000 := g.wo _ kr
      refine lc_mapT (h := mirF ns) hc (by rw [List.length_reverse]; exact wl) nD2 (fun x hx H' Q' s' kq => ?_) fun H4 s4 e4 => ?_
      · have bx := g.inn _ kr x (List.mem_reverse.mp hx)
        refine ⟨.ref r, rfl, r, dx, _, rfl, ((s02.trans sc).trans s') _ _ g1, fno, .int x, rfl, r, ns, ps, x.toNat, mirF ns x, by rw [Int.toNat_of_nonneg bx.1]; rfl, R.same ((s02.trans sc).trans s'), get_D (by omega), kq H' (Same.refl H')⟩
      · refine .inl ⟨D2, _, rfl, lstNew e4, fun u nu => ⟨(by show 2 ≤ sizeLine; decide), fun T1 nT1 => ?_⟩⟩
        have su := same_upd (o := .tup ((k.2.2.2.reverse.map (mirF ns)).map V.int)) nu
        have sT := same_upd (o := .tup [.int k.2.2.1, .ref u]) nT1
        have s25 := ((sc.trans s4).trans su).trans sT
        have lot5 := lot.same s25
        obtain ⟨acc, eacc, lacc⟩ := lot5.list
        refine ⟨acc, eacc, ?_, fun b' o z => ?_, ?_⟩
        · rw [lacc, List.length_map, List.length_map, List.length_take, List.length_reverse]; exact few1 (by omega)
        · rw [upd_ne (ne_of_none z nD)]; exact s25 _ _ (s2 b' o z)
        · rw [List.take_add_one, gk, List.map_append, List.map_append]
          exact lot5.add (j := (T1, u, k.2.2.1, k.2.2.2.reverse.map (mirF ns))) eacc ⟨tupNew upd_same, tupNew (sT _ _ upd_same)⟩
    · rw [List.length_map, List.take_of_length_le (Nat.le_refl _)] at p
      obtain ⟨s2, lot⟩ := p
      obtain ⟨acc, eacc, lacc⟩ := lot.list
      refine .inl ⟨D, _, rfl, lstNew eacc, fun u nu => ?_⟩
      have rr := lot.ring eacc nu
      refine q _ u ((sb.trans s2).trans (same_upd nu)) ?_
      unfold mirL
      rw [List.map_reverse] at rr
      exact rr
end
end K9
namespace RV
open PySem L2
/-! ### walks by their steps -/
inductive Wk (ps : List (List Int)) : Nat → Int → Int → Prop where
  | nil (i : Int) : Wk ps 0 i i
  | more {n : Nat} {i j k : Int} : Wk ps n i j → [j, k] ∈ ps → Wk ps (n + 1) i k
theorem Wk.trans {ps : List (List Int)} {n m : Nat} {i j k : Int} (h : Wk ps n i j) (g : Wk ps m j k) : Wk ps (n + m) i k := by
  induction g with
  | nil _ => exact h
  | more _ e ih => exact .more (ih h) e
theorem Wk.one {ps : List (List Int)} {i j : Int} (h : [i, j] ∈ ps) : Wk ps 1 i j := .more (.nil i) h
theorem Wk.rch {ps : List (List Int)} {n : Nat} {i j : Int} (h : Wk ps n i j) : n = 0 ∧ i = j ∨ Rch ps i j := by
  induction h with
  | nil _ => exact .inl ⟨rfl, rfl⟩
  | more _ e ih =>
    rcases ih with ⟨_, rfl⟩ | ih
    · exact .inr (.one e)
    · exact .inr (.more ih e)
theorem Wk.lead {ps : List (List Int)} {n : Nat} {i j : Int} (h : Wk ps (n + 1) i j) : Rch ps i j := by
  rcases h.rch with ⟨z, _⟩ | z
  · omega
  · exact z
theorem rch_wk {ps : List (List Int)} {i j : Int} (h : Rch ps i j) : ∃ n, Wk ps (n + 1) i j := by
  induction h with
  | one e => exact ⟨0, .one e⟩
  | more _ e ih =>
    obtain ⟨n, w⟩ := ih
    exact ⟨n + 1, .more w e⟩
theorem Wk.zero {ps : List (List Int)} {i j : Int} (h : Wk ps 0 i j) : i = j := by
  cases h; rfl
theorem Wk.bound {ps : List (List Int)} {b : Int} (hb : ∀ p ∈ ps, Pr b p) {n : Nat} {i j : Int} (h : Wk ps n i j) (hi : 0 ≤ i ∧ i < b) : 0 ≤ j ∧ j < b := by
  rcases h.rch with ⟨_, rfl⟩ | z
  · exact hi
  · exact (Rch.bound hb z).2
/-- whatever is come to is come to by few steps -/
theorem wk_grow {ps : List (List Int)} (i : Int) : ∀ k : Nat, (∃ k', k' ≤ k ∧ ∀ x y : Int, (∃ m, m ≤ k' ∧ Wk ps m i x) → [x, y] ∈ ps → ∃ m, m ≤ k' ∧ Wk ps m i y) ∨ ∃ L : List Int, L.Nodup ∧ L.length = k + 1 ∧ ∀ x ∈ L, ∃ m, m ≤ k ∧ Wk ps m i x
  | 0 => .inr ⟨[i], by simp, rfl, fun x hx => ⟨0, Nat.le_refl _, by rw [List.mem_singleton.mp hx]; exact .nil i⟩⟩
  | k + 1 => by
    rcases wk_grow i k with ⟨k', h1, h2⟩ | ⟨L, nd, len, all⟩
    · exact .inl ⟨k', by omega, h2⟩
    · by_cases c : ∀ x y : Int, (∃ m, m ≤ k ∧ Wk ps m i x) → [x, y] ∈ ps → ∃ m, m ≤ k ∧ Wk ps m i y
      · exact .inl ⟨k, by omega, c⟩
      · refine .inr ?_
        obtain ⟨x, hx⟩ := Classical.not_forall.mp c
        obtain ⟨y, hy⟩ := Classical.not_forall.mp hx
        obtain ⟨h1, hy⟩ := Classical.not_imp.mp hy
        obtain ⟨h2, h3⟩ := Classical.not_imp.mp hy
        obtain ⟨m, hm, wm⟩ := h1
        refine ⟨y :: L, List.nodup_cons.mpr ⟨fun z => h3 (all y z), nd⟩, by rw [List.length_cons, len], fun z hz => ?_⟩
        rcases List.mem_cons.mp hz with rfl | hz
        · exact ⟨m + 1, by omega, .more wm h2⟩
        · obtain ⟨m', h4, h5⟩ := all z hz
          exact ⟨m', by omega, h5⟩
theorem wk_in {ps : List (List Int)} {i : Int} {k : Nat} : ∀ {m : Nat} {j : Int}, Wk ps m i j → (∀ x y : Int, (∃ m, m ≤ k ∧ Wk ps m i x) → [x, y] ∈ ps → ∃ m, m ≤ k ∧ Wk ps m i y) → ∃ m', m' ≤ k ∧ Wk ps m' i j
  | _, _, .nil _, _ => ⟨0, Nat.zero_le _, .nil _⟩
  | _, _, .more w e, h2 => h2 _ _ (wk_in w h2) e
theorem wk_short {ps : List (List Int)} {n : Nat} (hb : ∀ p ∈ ps, Pr (n : Int) p) {i j : Int} (hi : 0 ≤ i ∧ i < (n : Int)) {m : Nat} (h : Wk ps m i j) : ∃ m', m' ≤ n ∧ Wk ps m' i j := by
  rcases wk_grow (ps := ps) i n with ⟨k', h1, h2⟩ | ⟨L, nd, len, all⟩
  · obtain ⟨m', h3, h4⟩ := wk_in h h2
    exact ⟨m', by omega, h4⟩
  · have := nodup_le (us := upN n) nd fun x hx => by
      obtain ⟨m', _, w⟩ := all x hx
      exact mem_upN.mpr (w.bound hb hi)
    rw [upN_len] at this
    omega
/-! ### periods -/
structure Per (ps : List (List Int)) (x : Int) (g : Nat) : Prop where
  all : ∀ n, Wk ps n x x → g ∣ n
  most : ∀ d : Nat, (∀ n, n ≤ 24 → Wk ps n x x → d ∣ n) → d ∣ g
theorem Per.uniq {ps : List (List Int)} {x : Int} {g g' : Nat} (h : Per ps x g) (h' : Per ps x g') : g = g' :=
  Nat.dvd_antisymm (h'.most g fun n _ w => h.all n w) (h.most g' fun n _ w => h'.all n w)
open Classical in
noncomputable def perN (ps : List (List Int)) (x : Int) : Nat := if h : ∃ g, Per ps x g then Classical.choose h else 0
theorem Per.is {ps : List (List Int)} {x : Int} {g : Nat} (h : Per ps x g) : perN ps x = g := by
  have e : ∃ g, Per ps x g := ⟨g, h⟩
  unfold perN
  rw [dif_pos e]
  exact (Classical.choose_spec e).uniq h
open Classical in
noncomputable def clsN (ps : List (List Int)) (x : Int) (g : Nat) (m : Int) : Nat := if h : ∃ n, Wk ps n x m then Classical.choose h % g else 0
theorem mod_of_dvd {g a b r : Nat} (h1 : g ∣ a + r) (h2 : g ∣ b + r) : a % g = b % g := by
  have e : ((a : Int) - b) % g = 0 := by
    have z : (g : Int) ∣ ((a + r : Nat) : Int) - ((b + r : Nat) : Int) := Int.dvd_sub (Int.ofNat_dvd.mpr h1) (Int.ofNat_dvd.mpr h2)
    have e2 : ((a + r : Nat) : Int) - ((b + r : Nat) : Int) = (a : Int) - b := by omega
    rw [e2] at z
    exact Int.emod_eq_zero_of_dvd z
  have z := Int.emod_eq_emod_iff_emod_sub_eq_zero.mpr e
  omega
/-- any way to a mark that leads back tells its class -/
theorem Per.cls {ps : List (List Int)} {x m : Int} {g n : Nat} (h : Per ps x g) (w : Wk ps n x m) (back : ∃ r, Wk ps r m x) : n % g = clsN ps x g m := by
  have e : ∃ n, Wk ps n x m := ⟨n, w⟩
  unfold clsN
  rw [dif_pos e]
  obtain ⟨r, wr⟩ := back
  exact mod_of_dvd (h.all _ (w.trans wr)) (h.all _ ((Classical.choose_spec e).trans wr))
theorem Per.self {ps : List (List Int)} {x : Int} {g : Nat} (h : Per ps x g) : clsN ps x g x = 0 := by
  rw [← h.cls (.nil x) ⟨0, .nil x⟩]; exact Nat.zero_mod g
theorem Per.pos {ps : List (List Int)} {x : Int} {g : Nat} (h : Per ps x g) (r : Rch ps x x) : 0 < g := by
  obtain ⟨n, w⟩ := rch_wk r
  have z := h.all _ w
  rcases Nat.eq_zero_or_pos g with e | e
  · rw [e] at z
    have := Nat.eq_zero_of_zero_dvd z
    omega
  · exact e
theorem dvd_mid {g t n r : Nat} (h1 : g ∣ t + n + r) (h2 : g ∣ t + r) : g ∣ n := by
  have z : (t + n + r) - (t + r) = n := by omega
  rw [← z]
  exact Nat.dvd_sub h1 h2
end RV
set_option maxHeartbeats 4000000
namespace RV
open PySem PySem.Spec PyProof.Rows L2
/-! ### dicts of ints -/
def kO (u : Int × Nat) : L2.Key × V := (Sum.inl u.1, V.int (u.2 : Int))
theorem kO_keys (us : List (Int × Nat)) : (us.map kO).map (·.1) = (us.map (·.1)).map Sum.inl := by
  rw [List.map_map, List.map_map]; rfl
theorem inl_mem {m : Int} {l : List Int} : (Sum.inl m : L2.Key) ∈ l.map Sum.inl ↔ m ∈ l := by
  rw [List.mem_map]
  constructor
  · rintro ⟨x, hx, e⟩
    cases e; exact hx
  · exact fun h => ⟨m, h, rfl⟩
theorem valO_not {us : List (Int × Nat)} {m : Int} (h : valV (us.map kO) (Sum.inl m) = none) : m ∉ us.map (·.1) := fun z => valV_not h (by rw [kO_keys]; exact inl_mem.mpr z)
theorem valO_in {us : List (Int × Nat)} {m : Int} {v : V} (h : valV (us.map kO) (Sum.inl m) = some v) : m ∈ us.map (·.1) := by
  have z := valV_in h
  rw [kO_keys] at z
  exact inl_mem.mp z
theorem valO_at : ∀ {us : List (Int × Nat)} {u : Int × Nat}, (us.map (·.1)).Nodup → u ∈ us → valV (us.map kO) (Sum.inl u.1) = some (.int (u.2 : Int))
  | [], u, _, h => nomatch h
  | v :: us, u, nd, h => by
    rw [List.map_cons, List.nodup_cons] at nd
    rw [List.map_cons]
    rcases List.mem_cons.mp h with rfl | h
    · exact valV_pos rfl
    · rw [valV_neg]
      · exact valO_at nd.2 h
      · intro e
        have e' : v.1 = u.1 := Sum.inl.inj e
        exact nd.1 (by rw [e']; exact List.mem_map_of_mem h)
theorem putO_new {us : List (Int × Nat)} {m : Int} {n : Nat} (h : valV (us.map kO) (Sum.inl m) = none) : putK (us.map kO) (Sum.inl m) (.int (n : Int)) = (us ++ [(m, n)]).map kO := by
  rw [putK_new _ h, List.map_append]; rfl
/-! ### steps off the least mark -/
structure Offs (ps : List (List Int)) (p : List Int) (x : Int) (us : List (Int × Nat)) : Prop where
  nd : (us.map (·.1)).Nodup
  wk : ∀ u ∈ us, Wk ps u.2 x u.1 ∧ u.1 ∈ p ∧ u.2 ≤ 7
  all : ∀ m ∈ p, m ∈ us.map (·.1)
/-- as they are found -/
structure Bf (ps : List (List Int)) (p : List Int) (x : Int) (us : List (Int × Nat)) : Prop where
  nd : (us.map (·.1)).Nodup
  first : us[0]? = some (x, 0)
  wk : ∀ (i : Nat) (u : Int × Nat), us[i]? = some u → Wk ps u.2 x u.1 ∧ u.1 ∈ p ∧ u.2 ≤ i
theorem Bf.len {ps : List (List Int)} {p : List Int} {x : Int} {us : List (Int × Nat)} (h : Bf ps p x us) : us.length ≤ p.length := by
  have := nodup_le (us := p) h.nd fun m hm => by
    obtain ⟨u, hu, rfl⟩ := List.mem_map.mp hm
    obtain ⟨i, hi, e⟩ := List.getElem_of_mem hu
    exact (h.wk i u (by rw [List.getElem?_eq_getElem hi, e])).2.1
  rwa [List.length_map] at this
theorem Bf.start {ps : List (List Int)} {p : List Int} {x : Int} (hx : x ∈ p) : Bf ps p x [(x, 0)] := by
  refine ⟨by simp, rfl, fun i u h => ?_⟩
  cases i with
  | zero =>
    have e : (x, 0) = u := Option.some.inj h
    subst e
    exact ⟨.nil x, hx, Nat.le_refl _⟩
  | succ i => simp at h
theorem Bf.add {ps : List (List Int)} {p : List Int} {x : Int} {us : List (Int × Nat)} (h : Bf ps p x us) {a : Nat} {u : Int × Nat} {y : Int} (hu : us[a]? = some u) (e : [u.1, y] ∈ ps) (hy : y ∈ p) (ny : y ∉ us.map (·.1)) : Bf ps p x (us ++ [(y, u.2 + 1)]) := by
  have hl : 0 < us.length := by
    have := (List.getElem?_eq_some_iff.mp h.first).1
    exact this
  refine ⟨?_, by rw [List.getElem?_append_left hl]; exact h.first, fun i v hv => ?_⟩
  · rw [List.map_append, List.nodup_append]
    exact ⟨h.nd, by simp, fun b hb c hc e => ny (by
      have := List.mem_singleton.mp (show c ∈ [y] from hc)
      rw [← this, ← e]; exact hb)⟩
  · by_cases hi : i < us.length
    · rw [List.getElem?_append_left hi] at hv
      exact h.wk i v hv
    · have hi2 := (List.getElem?_eq_some_iff.mp hv).1
      rw [List.length_append] at hi2
      have ei : i = us.length := by
        have : [(y, u.2 + 1)].length = 1 := rfl
        omega
      subst ei
      rw [List.getElem?_append_right (Nat.le_refl _), Nat.sub_self] at hv
      have ev : (y, u.2 + 1) = v := Option.some.inj hv
      subst ev
      obtain ⟨w1, w2, w3⟩ := h.wk a u hu
      have := (List.getElem?_eq_some_iff.mp hu).1
      exact ⟨.more w1 e, hy, by show u.2 + 1 ≤ us.length; omega⟩
/-- a part: what lies between its marks is in it -/
structure Knot (ps : List (List Int)) (p : List Int) (x : Int) : Prop where
  x_in : x ∈ p
  out : ∀ m ∈ p, ∃ n, Wk ps n x m
  back : ∀ m ∈ p, ∃ n, Wk ps n m x
  mid : ∀ m, (∃ n, Wk ps n x m) → (∃ n, Wk ps n m x) → m ∈ p
theorem Knot.way {ps : List (List Int)} {p : List Int} {x : Int} (k : Knot ps p x) {n : Nat} {j m : Int} (h : Wk ps n x j) (e : [j, m] ∈ ps) (hm : m ∈ p) : j ∈ p := by
  obtain ⟨r, w⟩ := k.back m hm
  exact k.mid j ⟨n, h⟩ ⟨1 + r, (Wk.one e).trans w⟩
theorem Bf.offs {ps : List (List Int)} {p : List Int} {x : Int} {us : List (Int × Nat)} (h : Bf ps p x us) (k : Knot ps p x) (h8 : p.length ≤ 8) (done : ∀ (i : Nat) (u : Int × Nat), us[i]? = some u → ∀ y ∈ p, [u.1, y] ∈ ps → y ∈ us.map (·.1)) : Offs ps p x us := by
  refine ⟨h.nd, fun u hu => ?_, fun m hm => ?_⟩
  · obtain ⟨i, hi, e⟩ := List.getElem_of_mem hu
    obtain ⟨w1, w2, w3⟩ := h.wk i u (by rw [List.getElem?_eq_getElem hi, e])
    have := h.len
    exact ⟨w1, w2, by omega⟩
  · have : ∀ {n : Nat} {m : Int}, Wk ps n x m → m ∈ p → m ∈ us.map (·.1) := by
      intro n
      induction n with
      | zero =>
        intro m w _
        rw [← w.zero]
        exact List.mem_map_of_mem (List.mem_of_getElem? h.first)
      | succ n ih =>
        intro m w hm
        cases w with
        | more w e =>
          have hj := ih w (k.way w e hm)
          obtain ⟨u, hu, eu⟩ := List.mem_map.mp hj
          obtain ⟨i, hi, ei⟩ := List.getElem_of_mem hu
          exact done i u (by rw [List.getElem?_eq_getElem hi, ei]) m hm (by rw [eu]; exact e)
    obtain ⟨n, w⟩ := k.out m hm
    exact this w hm
/-! ### the period by these -/
theorem Offs.get {ps : List (List Int)} {p : List Int} {x : Int} {us : List (Int × Nat)} (h : Offs ps p x us) {m : Int} (hm : m ∈ p) : ∃ o : Nat, (m, o) ∈ us ∧ Wk ps o x m ∧ o ≤ 7 := by
  obtain ⟨u, hu, e⟩ := List.mem_map.mp (h.all m hm)
  obtain ⟨w1, _, w3⟩ := h.wk u hu
  refine ⟨u.2, ?_, by rw [← e]; exact w1, w3⟩
  rw [← e]; exact hu
theorem Offs.one {ps : List (List Int)} {p : List Int} {x : Int} {us : List (Int × Nat)} (h : Offs ps p x us) {m : Int} {a b : Nat} (h1 : (m, a) ∈ us) (h2 : (m, b) ∈ us) : a = b := by
  have e1 := valO_at h.nd h1
  have e2 := valO_at h.nd h2
  rw [e1] at e2
  have := Option.some.inj e2
  injection this with e
  omega
def gapO (a b : Nat) : Nat := ((a : Int) + 1 - (b : Int)).natAbs
/-- what period has found so far -/
structure Gf (ps : List (List Int)) (p : List Int) (us : List (Int × Nat)) (qs : List (List Int)) (g : Nat) : Prop where
  all : ∀ (x y : Int) (a b : Nat), [x, y] ∈ qs → x ∈ p → y ∈ p → (x, a) ∈ us → (y, b) ∈ us → g ∣ gapO a b
  most : ∀ d : Nat, (∀ (x y : Int) (a b : Nat), [x, y] ∈ qs → x ∈ p → y ∈ p → (x, a) ∈ us → (y, b) ∈ us → d ∣ gapO a b) → d ∣ g
theorem gap_dvd {g a b : Nat} (h : g ∣ gapO a b) : ((a : Int) + 1) % g = (b : Int) % g := by
  have z : (g : Int) ∣ (a : Int) + 1 - (b : Int) := Int.ofNat_dvd_left.mpr h
  exact Int.emod_eq_emod_iff_emod_sub_eq_zero.mpr (Int.emod_eq_zero_of_dvd z)
theorem dvd_gap {d a b r : Nat} (h1 : d ∣ a + 1 + r) (h2 : d ∣ b + r) : d ∣ gapO a b := by
  have z : (d : Int) ∣ ((a + 1 + r : Nat) : Int) - ((b + r : Nat) : Int) := Int.dvd_sub (Int.ofNat_dvd.mpr h1) (Int.ofNat_dvd.mpr h2)
  have e : ((a + 1 + r : Nat) : Int) - ((b + r : Nat) : Int) = (a : Int) + 1 - (b : Int) := by omega
  rw [e] at z
  exact Int.ofNat_dvd_left.mp z
theorem Gf.per {ps : List (List Int)} {p : List Int} {x : Int} {us : List (Int × Nat)} {g n : Nat} (G : Gf ps p us ps g) (O : Offs ps p x us) (k : Knot ps p x) (hb : ∀ q ∈ ps, Pr (n : Int) q) (h8 : n ≤ 8) (hp : ∀ m ∈ p, 0 ≤ m ∧ m < (n : Int)) : Per ps x g := by
  obtain ⟨o0, m0, w0, _⟩ := O.get k.x_in
  have key : ∀ {t : Nat} {m : Int}, Wk ps t x m → m ∈ p → ∀ a, (m, a) ∈ us → ((t : Int) + o0) % g = (a : Int) % g := by
    intro t
    induction t with
    | zero =>
      intro m w hm a ha
      rw [← w.zero] at ha
      rw [O.one ha m0]
      simp
    | succ t ih =>
      intro m w hm a ha
      cases w with
      | @more _ _ j _ w e =>
        have hj := k.way w e hm
        obtain ⟨b, hb', _, _⟩ := O.get hj
        have h1 := ih w hj b hb'
        have h2 := gap_dvd (G.all j m b a e hj hm hb' ha)
        have e3 : ((t + 1 : Nat) : Int) + o0 = ((t : Int) + o0) + 1 := by omega
        rw [e3, ← h2, Int.add_emod, h1, ← Int.add_emod]
  have o0z : (o0 : Int) % g = 0 := by
    have z := key w0 k.x_in o0 m0
    have e : ((o0 : Int) + o0 - o0) % g = 0 := Int.emod_eq_emod_iff_emod_sub_eq_zero.mp z
    have e2 : (o0 : Int) + o0 - o0 = o0 := by omega
    rwa [e2] at e
  refine ⟨fun t w => ?_, fun d hd => ?_⟩
  · have z := key w k.x_in o0 m0
    have e : ((t : Int) + o0 - o0) % g = 0 := Int.emod_eq_emod_iff_emod_sub_eq_zero.mp z
    have e2 : (t : Int) + o0 - o0 = t := by omega
    rw [e2] at e
    exact Int.ofNat_dvd.mp (Int.dvd_of_emod_eq_zero e)
  · refine G.most d fun y z a b hyz hy hz ha hb' => ?_
    obtain ⟨r0, wr0⟩ := k.back z hz
    obtain ⟨r, hr, wr⟩ := wk_short hb (hp z hz) wr0
    have wa := (O.wk _ ha)
    have wb := (O.wk _ hb')
    have a7 : a ≤ 7 := wa.2.2
    have b7 : b ≤ 7 := wb.2.2
    exact dvd_gap (hd (a + 1 + r) (by omega) ((Wk.more wa.1 hyz).trans wr)) (hd (b + r) (by omega) (Wk.trans wb.1 wr))
theorem Gf.nil {ps : List (List Int)} {p : List Int} {us : List (Int × Nat)} : Gf ps p us [] 0 := ⟨(fun _ _ _ _ h => nomatch h), fun d _ => Nat.dvd_zero d⟩
theorem Gf.skip {ps : List (List Int)} {p : List Int} {us : List (Int × Nat)} {qs : List (List Int)} {g : Nat} {x y : Int} (G : Gf ps p us qs g) (no : ¬ (x ∈ p ∧ y ∈ p)) : Gf ps p us (qs ++ [[x, y]]) g := by
  refine ⟨fun x' y' a b h hx hy ha hb => ?_, fun d hd => G.most d fun x' y' a b h => hd x' y' a b (List.mem_append_left _ h)⟩
  rcases List.mem_append.mp h with z | z
  · exact G.all x' y' a b z hx hy ha hb
  · have z := List.mem_singleton.mp z
    injection z with z1 z2
    injection z2 with z2 _
    subst z1 z2
    exact absurd ⟨hx, hy⟩ no
theorem Gf.add {ps : List (List Int)} {p : List Int} {us : List (Int × Nat)} {qs : List (List Int)} {g : Nat} {x y : Int} {a b : Nat} {z : Int} (O : Offs ps p z us) (G : Gf ps p us qs g) (hx : x ∈ p) (hy : y ∈ p) (ha : (x, a) ∈ us) (hb : (y, b) ∈ us) : Gf ps p us (qs ++ [[x, y]]) (Nat.gcd g (gapO a b)) := by
  refine ⟨fun x' y' a' b' h hx' hy' ha' hb' => ?_, fun d hd => Nat.dvd_gcd (G.most d fun x' y' a b h => hd x' y' a b (List.mem_append_left _ h)) (hd x y a b (List.mem_append_right _ (List.mem_singleton.mpr rfl)) hx hy ha hb)⟩
  rcases List.mem_append.mp h with e | e
  · exact Nat.dvd_trans (Nat.gcd_dvd_left _ _) (G.all x' y' a' b' e hx' hy' ha' hb')
  · have e := List.mem_singleton.mp e
    injection e with e1 e2
    injection e2 with e2 _
    subst e1 e2
    rw [O.one ha' ha, O.one hb' hb]
    exact Nat.gcd_dvd_right _ _
end RV
set_option maxHeartbeats 4000000
namespace K9
open PySem PySem.Spec PyProof.Rows L2 RV
/-- how many steps off the mark g the marks are, as found so far -/
structure Off (n : Int) (ps : List (List Int)) (g : Int) (us : List (Int × Nat)) : Prop where
  nd : (us.map (·.1)).Nodup
  inn : ∀ u ∈ us, 0 ≤ u.1 ∧ u.1 < n
  lev : ∀ u ∈ us, u.2 < us.length
  goal : (g, 0) ∈ us
  back : ∀ u ∈ us, (u.1 = g ∧ u.2 = 0) ∨ ∃ v ∈ us, u.2 = v.2 + 1 ∧ [u.1, v.1] ∈ ps
theorem Off.one {n : Int} {ps : List (List Int)} {g : Int} (h : 0 ≤ g ∧ g < n) : Off n ps g [(g, 0)] :=
  ⟨List.nodup_cons.mpr ⟨List.not_mem_nil, List.nodup_nil⟩, fun u hu => by rw [List.mem_singleton.mp hu]; exact h, fun u hu => by rw [List.mem_singleton.mp hu]; exact Nat.zero_lt_one, List.mem_singleton.mpr rfl, fun u hu => by rw [List.mem_singleton.mp hu]; exact .inl ⟨rfl, rfl⟩⟩
theorem Off.add {n : Int} {ps : List (List Int)} {g y : Int} {us : List (Int × Nat)} {u : Int × Nat} (h : Off n ps g us) (hu : u ∈ us) (e : [y, u.1] ∈ ps) (hy : 0 ≤ y ∧ y < n) (ny : y ∉ us.map (·.1)) : Off n ps g (us ++ [(y, u.2 + 1)]) := by
  refine ⟨?_, fun v hv => ?_, fun v hv => ?_, List.mem_append_left _ h.goal, fun v hv => ?_⟩
  · rw [List.map_append, List.nodup_append]
    exact ⟨h.nd, by simp, fun a ha b hb z => ny (by rw [show y = b from (List.mem_singleton.mp hb).symm, ← z]; exact ha)⟩
  · rcases List.mem_append.mp hv with z | z
    · exact h.inn v z
    · rw [List.mem_singleton.mp z]; exact hy
  · rw [List.length_append]
    rcases List.mem_append.mp hv with z | z
    · have := h.lev v z; simp only [List.length_cons, List.length_nil]; omega
    · rw [List.mem_singleton.mp z]
      have := h.lev u hu
      simp only [List.length_cons, List.length_nil]; omega
  · rcases List.mem_append.mp hv with z | z
    · rcases h.back v z with b | ⟨w, hw, b⟩
      · exact .inl b
      · exact .inr ⟨w, List.mem_append_left _ hw, b⟩
    · rw [List.mem_singleton.mp z]
      exact .inr ⟨u, List.mem_append_left _ hu, rfl, e⟩
theorem Off.len {n : Nat} {ps : List (List Int)} {g : Int} {us : List (Int × Nat)} (h : Off (n : Int) ps g us) : us.length ≤ n := by
  have := few_below h.nd fun x hx => by
    obtain ⟨u, hu, rfl⟩ := List.mem_map.mp hx
    exact h.inn u hu
  rwa [List.length_map] at this
theorem Off.val {n : Int} {ps : List (List Int)} {g : Int} {us : List (Int × Nat)} (h : Off n ps g us) {x : Int} (hx : x ∈ us.map (·.1)) : ∃ d : Nat, (x, d) ∈ us ∧ valV (us.map kO) (Sum.inl x) = some (.int (d : Int)) := by
  obtain ⟨u, hu, rfl⟩ := List.mem_map.mp hx
  exact ⟨u.2, hu, valO_at h.nd hu⟩
theorem Off.fn {n : Int} {ps : List (List Int)} {g : Int} {us : List (Int × Nat)} (h : Off n ps g us) {x : Int} {a b : Nat} (h1 : (x, a) ∈ us) (h2 : (x, b) ∈ us) : a = b := by
  have e1 := valO_at h.nd h1
  have e2 := valO_at h.nd h2
  rw [e1] at e2
  injection e2 with e2
  injection e2 with e2
  omega
/-- no mark that leads into them lacks -/
def Full (ps : List (List Int)) (us : List (Int × Nat)) : Prop := ∀ x y, [x, y] ∈ ps → y ∈ us.map (·.1) → x ∈ us.map (·.1)
/-- so it is, or one more has been found in this round -/
def Grow (ps : List (List Int)) (j : Nat) (us0 us : List (Int × Nat)) : Prop := (us = us0 ∧ ∀ x y, [x, y] ∈ ps.take j → y ∈ us0.map (·.1) → x ∈ us0.map (·.1)) ∨ (us0.length < us.length ∧ ¬ Full ps us0)
theorem Grow.skip {ps : List (List Int)} {j : Nat} {us0 us : List (Int × Nat)} {x y : Int} (h : Grow ps j us0 us) (g : ps[j]? = some [x, y]) (no : ¬ (y ∈ us.map (·.1) ∧ x ∉ us.map (·.1))) : Grow ps (j + 1) us0 us := by
  rcases h with ⟨rfl, h⟩ | h
  · refine .inl ⟨rfl, fun x' y' hp hy => ?_⟩
    rw [List.take_add_one, g] at hp
    rcases List.mem_append.mp hp with z | z
    · exact h x' y' z hy
    · have e : [x', y'] = [x, y] := List.mem_singleton.mp z
      injection e with e1 e2
      injection e2 with e2 _
      subst e1 e2
      exact Classical.byContradiction fun z => no ⟨hy, z⟩
  · exact .inr h
theorem Grow.put {ps : List (List Int)} {j : Nat} {us0 us : List (Int × Nat)} {x y : Int} {d : Nat} (h : Grow ps j us0 us) (g : [x, y] ∈ ps) (hy : y ∈ us.map (·.1)) (nx : x ∉ us.map (·.1)) : Grow ps (j + 1) us0 (us ++ [(x, d)]) := by
  rcases h with ⟨rfl, h⟩ | h
  · exact .inr ⟨by rw [List.length_append]; exact Nat.lt_succ_self _, fun f => nx (f x y g hy)⟩
  · exact .inr ⟨by rw [List.length_append]; exact Nat.lt_succ_of_lt h.1, h.2⟩
/-- who leads to g, it too -/
inductive Ld (ps : List (List Int)) : Int → Int → Prop
  | here (g : Int) : Ld ps g g
  | step {x y g : Int} : [x, y] ∈ ps → Ld ps y g → Ld ps x g
theorem Off.mem_of {n : Int} {ps : List (List Int)} {g : Int} {us : List (Int × Nat)} (h : Off n ps g us) (f : Full ps us) {x : Int} (l : Ld ps x g) : x ∈ us.map (·.1) := by
  induction l with
  | here g => exact List.mem_map_of_mem (f := (·.1)) h.goal
  | step e _ ih => exact f _ _ e (ih h)
theorem Off.leads {n : Int} {ps : List (List Int)} {g : Int} {us : List (Int × Nat)} (h : Off n ps g us) : ∀ (d : Nat) (x : Int), (x, d) ∈ us → Ld ps x g
  | 0, x, hx => by
    rcases h.back _ hx with ⟨e, _⟩ | ⟨v, _, e, _⟩
    · have e : x = g := e
      rw [e]; exact .here g
    · exact absurd e (Nat.succ_ne_zero _).symm
  | d + 1, x, hx => by
    rcases h.back _ hx with ⟨_, e⟩ | ⟨v, hv, e, st⟩
    · exact absurd e (Nat.succ_ne_zero _)
    · have e : d + 1 = v.2 + 1 := e
      exact .step st (Off.leads h d v.1 (by rw [show d = v.2 by omega]; exact hv))
theorem Off.mem {n : Int} {ps : List (List Int)} {g : Int} {us : List (Int × Nat)} (h : Off n ps g us) (f : Full ps us) {x : Int} : x ∈ us.map (·.1) ↔ Ld ps x g := by
  refine ⟨fun hx => ?_, h.mem_of f⟩
  obtain ⟨u, hu, rfl⟩ := List.mem_map.mp hx
  exact h.leads u.2 u.1 hu
section
variable {P : Program} {w : World} {K : PySem.W.Frag} {mg : Str → Option Value} {base : Heap}
/-! ### _law_off -/
abbrev nLOff : List Str := ["_law_steps_here", "_law_goal", "_law_found", "_law_turn", "_law_one", "_law_other"]
theorem scLOff : FnScope nLOff ["_law_steps_here", "_law_goal"] (defScope sLOff) := ⟨rfl, rfl, rfl, by decide +kernel, rfl, by decide +kernel, by decide +kernel⟩
def spLOff (K : PySem.W.Frag) : Sp := fun vs H Q _ => ∃ (a : Addr) (g : Int) (n : Nat) (ps : List (List Int)), vs = [.ref a, .int g] ∧ Tups K H a ps ∧ (∀ p ∈ ps, Pr (n : Int) p) ∧ n ≤ 8 ∧ (0 ≤ g ∧ g < (n : Int)) ∧
  ∀ (H' : Hp) (d : Addr) (us : List (Int × Nat)), Same H H' → H d = none → H' d = some (.dK (us.map kO)) → Off (n : Int) ps g us → Full ps us → Q (.ref d) H'
theorem ok_loff {f : Addr} {fd : FuncData} (F : Fun K "_law_off" "_law_off" sLOff f fd) (B : Bare mg) : FnOk P w K mg base CX0 1 f fd ["_law_steps_here", "_law_goal"] (spLOff K) := by
  refine F.ok scLOff (fun vs H Q E h => ?_) (fun cdv A outer s H vs Q E hr h => ?_)
  · obtain ⟨a, g, n, ps, rfl, _⟩ := h
    rfl
  · obtain ⟨a, g, n, ps, rfl, hTT, hP, n8, hg, q⟩ := h
    have hu := hu_of hr
    obtain ⟨ks, rfl, hT, hks⟩ := hTT
    refine ⟨_, pss_cons (ps_set (i := 2) scLOff.nd rfl (Or.inl rfl) (pe_disp (pps_cons (pv 1) pe_int pps_nil) rfl rfl (by simp) (by decide)))
      (pss_cons (ps_for PassesOwn.never rfl (pi_range1 (by rfl) B.range (pa_cons pe_int pa_nil)) (pg_name (i := 3) scLOff.nd rfl (Or.inl rfl))
        (pss_one (ps_for PassesOwn.never rfl (pi_tup (pv 0)) (pg_tup rfl (pgs_cons (pg_name (i := 4) scLOff.nd rfl (Or.inl rfl)) (pgs_cons (pg_name (i := 5) scLOff.nd rfl (Or.inl rfl)) pgs_nil)))
          (pss_one (ps_if (PW.pt (pw_and (pt_cmp (pc_din hu (pv 5) (pv 2))) (pw_and1 (pt_cmp (pc_dnotin hu (pv 4) (pv 2))))))
            (pss_one (ps_dput hu (pv 2) (pv 4) (pe_op op_add (pe_dget hu (pv 2) (pv 5) (fun _ _ => rfl)) pe_int) rfl)) pss_nil)))))
      (pss_one (ps_ret (pv 2)))), ?_⟩
    intro d nd
    refine ⟨.int g, rfl, upd_same, [(Sum.inl g, .int 0)], rfl, (by show 1 ≤ 15; decide), ?_⟩
    have s1 : Same H (upd (upd H d (.dK [])) d (.dK (mergeK [] [(Sum.inl g, .int 0)]))) := fun b o e => by
      rw [upd_ne (ne_of_none e nd), upd_ne (ne_of_none e nd)]; exact e
    have ed : (upd (upd H d (.dK [])) d (.dK (mergeK [] [(Sum.inl g, .int 0)]))) d = some (.dK ([(g, 0)].map kO)) := upd_same
    generalize upd (upd H d (.dK [])) d (.dK (mergeK [] [(Sum.inl g, .int 0)])) = H1 at s1 ed ⊢
    refine ⟨8, rfl, by decide, by decide, ?_⟩
    refine for_range (lo := 0) (n := (8 : Int).toNat) (fun i σ H' => ∃ (us : List (Int × Nat)) (y3 y4 y5 : Option V), σ = [some (.ref a), some (.int g), some (.ref d), y3, y4, y5] ∧ Same H H' ∧ H' d = some (.dK (us.map kO)) ∧ Off (n : Int) (ks.map (·.2)) g us ∧ (Full (ks.map (·.2)) us ∨ i + 1 ≤ us.length))
      ⟨[(g, 0)], none, none, none, rfl, s1, ed, Off.one hg, .inr (Nat.le_refl _)⟩ ?_ ?_
    · rintro i σ H2 hi ⟨us0, y3, y4, y5, rfl, s2, ed2, off, gr0⟩
      refine ⟨.ref a, rfl, a, rfl, ⟨_, sqT_same s2 hT⟩, ?_⟩
      refine for_tup (K := K) (a := a) (xs := ks.map fun k => V.ref k.1) (fun j σ H' => ∃ (us : List (Int × Nat)) (y4 y5 : Option V), σ = [some (.ref a), some (.int g), some (.ref d), some (.int (0 + (i : Nat))), y4, y5] ∧ Same H H' ∧ H' d = some (.dK (us.map kO)) ∧ Off (n : Int) (ks.map (·.2)) g us ∧ Grow (ks.map (·.2)) j us0 us)
        ⟨us0, y4, y5, rfl, s2, ed2, off, .inl ⟨rfl, fun _ _ z => by simp at z⟩⟩ (fun j σ H' _ h => ?_) (fun j x σ H3 hx h => ?_) (fun σ H' h => ?_)
      · obtain ⟨_, _, _, _, s', _⟩ := h
        exact sqT_same s' hT
      · obtain ⟨us, y4, y5, rfl, s3, ed3, off3, gr⟩ := h
        obtain ⟨k, gk, rfl⟩ := map_at hx
        have km := List.mem_of_getElem? gk
        obtain ⟨x, y, e, hx, hy⟩ := hP k.2 (List.mem_map_of_mem km)
        have hkT : SqT K H3 k.1 ([x, y].map V.int) := by rw [← e]; exact sqT_same s3 (hks k km)
        have gxy : (ks.map (·.2))[j]? = some [x, y] := by rw [List.getElem?_map, gk, ← e]; rfl
        have exy : [x, y] ∈ ks.map (·.2) := by rw [← e]; exact List.mem_map_of_mem km
        refine ⟨k.1, _, rfl, hkT, rfl, _, _, rfl, _, _, rfl, rfl, ?_⟩
        refine ⟨.int y, rfl, .ref d, rfl, d, _, rfl, DGet.k (k := Sum.inl y) ed3, _, rfl, ?_⟩
        cases ev : valV (us.map kO) (Sum.inl y) with
        | none =>
          refine iteF (iteF ?_)
          exact ⟨us, _, _, rfl, s3, ed3, off3, gr.skip gxy fun z => valO_not ev z.1⟩
        | some v =>
          refine iteT ⟨.int x, rfl, .ref d, rfl, d, _, rfl, DGet.k (k := Sum.inl x) ed3, _, rfl, ?_⟩
          cases ex : valV (us.map kO) (Sum.inl x) with
          | some v' =>
            refine iteF ?_
            exact ⟨us, _, _, rfl, s3, ed3, off3, gr.skip gxy fun z => z.2 (valO_in ex)⟩
          | none =>
            refine iteT ?_
            obtain ⟨dd, hdd, ed⟩ := off3.val (valO_in ev)
            have l3 := off3.len
            have dput : DPut H3 d (kV (Sum.inl x)) (.int ((dd : Int) + 1)) (upd H3 d (.dK ((us ++ [(x, dd + 1)]).map kO))) := by
              rw [← putO_new ex]
              exact DPut.k ed3 (by rw [List.length_map]; exact few1 (by omega))
            refine ⟨.ref d, rfl, .int y, rfl, d, _, rfl, (by rw [← ed]; exact DGet.k (k := Sum.inl y) ed3), _, _, rfl, rfl, .ref d, rfl, .int x, rfl, d, upd H3 d (.dK ((us ++ [(x, dd + 1)]).map kO)), rfl, dput, ?_⟩
            exact ⟨us ++ [(x, dd + 1)], _, _, rfl, fun b o z => by rw [upd_ne (ne_of_none z nd)]; exact s3 b o z, upd_same, off3.add hdd exy hx (valO_not ex), gr.put exy (valO_in ev) (valO_not ex)⟩
      · obtain ⟨us, y4, y5, rfl, s3, ed3, off3, gr⟩ := h
        refine ⟨us, _, _, _, rfl, s3, ed3, off3, ?_⟩
        rcases gr with ⟨rfl, h⟩ | ⟨h1, h2⟩
        · rw [List.length_map, List.take_of_length_le (by rw [List.length_map]; exact Nat.le_refl _)] at h
          exact .inl h
        · have := gr0.resolve_left h2
          exact .inr (by omega)
    · rintro σ H2 ⟨us, y3, y4, y5, rfl, s2, ed2, off, gr⟩
      refine ⟨.ref d, rfl, q H2 d us s2 nd ed2 off (gr.resolve_right fun z => ?_)⟩
      have := off.len
      have : (8 : Int).toNat = 8 := rfl
      omega
/-! ### _law_behind -/
theorem scLBeh : FnScope ["_law_steps_here", "_law_mark", "_law_one", "_law_other"] ["_law_steps_here", "_law_mark"] (defScope sLBehind) := ⟨rfl, rfl, rfl, by decide +kernel, rfl, by decide +kernel, by decide +kernel⟩
def spLBeh (K : PySem.W.Frag) : Sp := fun vs H Q _ => ∃ (a : Addr) (m n : Int) (ps : List (List Int)), vs = [.ref a, .int m] ∧ Tups K H a ps ∧ ps.length ≤ 1000 ∧ (∀ p ∈ ps, Pr n p) ∧ ∀ (H' : Hp) (D : Addr), Same H H' → H D = none → H' D = some (.lst ((behindOf ps m).map V.int)) → Q (.ref D) H'
theorem ok_lbeh {f : Addr} {fd : FuncData} (F : Fun K "_law_behind" "_law_behind" sLBehind f fd) (B : Bare mg) : FnOk P w K mg base CX0 1 f fd ["_law_steps_here", "_law_mark"] (spLBeh K) := by
  refine F.ok scLBeh (fun vs H Q E h => ?_) (fun cdv A outer s H vs Q E hr h => ?_)
  · obtain ⟨a, m, n, ps, rfl, _⟩ := h
    rfl
  · obtain ⟨a, m, n, ps, rfl, hTT, hl, hp, q⟩ := h
    obtain ⟨ks, rfl, hT, hks⟩ := hTT
    refine ⟨_, pss_one (ps_ret (pe_lc (own := [("_law_one", 2), ("_law_other", 3)]) (g := gTup K 2 (gCons (gName 2) (gCons (gName 3) gNil))) rfl scLBeh.nd (pi_tup (pv 0)) (blkOk_by (N := ["_law_steps_here", "_law_mark", "_law_one", "_law_other"]) (sc := defScope sLBehind) (by decide +kernel))
          (fun _ _ _ _ _ => pg_tupK rfl rfl (pgs_cons (pg_name (i := 2) scLBeh.nd rfl (Or.inl rfl)) (pgs_cons (pg_name (i := 3) scLBeh.nd rfl (Or.inl rfl)) pgs_nil))) (fun _ _ _ _ _ => pts_one (pt_cmpR op_eq (pv 2) (pv 1) (nomark _))) (fun _ _ _ _ _ => pv 3))), ?_⟩
    refine ⟨.ref a, rfl, a, rfl, ⟨_, hT⟩, fun D nD => ?_⟩
    refine lc_tup (K := K) (a := a) (xs := ks.map fun p => V.ref p.1) (fun i H' => Same H H' ∧ H' D = some (.lst ((behindOf ((ks.map (·.2)).take i) m).map V.int))) ⟨same_upd nD, by rw [upd_same]; rfl⟩ (fun i H' _ p => sqT_same p.1 hT) (fun i x H' hx p => ?_) fun H' p => ?_
    · obtain ⟨k, g, rfl⟩ := map_at hx
      have hk : k ∈ ks := List.mem_of_getElem? g
      obtain ⟨x, y, e, _⟩ := hp k.2 (List.mem_map_of_mem hk)
      have hkT : SqT K H' k.1 ([x, y].map V.int) := by rw [← e]; exact sqT_same p.1 (hks k hk)
      have gi : (ks.map (·.2))[i]? = some [x, y] := by rw [List.getElem?_map, g, ← e]; rfl
      refine ⟨k.1, _, rfl, hkT, rfl, _, _, rfl, _, _, rfl, rfl, rfl, .int x, rfl, .int m, rfl, rfl, _, rfl, ?_⟩
      have hle := behind_len ((ks.map (·.2)).take i) m
      rw [List.length_take] at hle
      rw [decV]
      refine ite2 (fun hb => ?_) (fun hb => ?_)
      · have hb := of_decide_eq_true hb
        refine ⟨.int y, rfl, _, p.2, ?_, fun b o z => by rw [upd_ne (ne_of_none z nD)]; exact p.1 b o z, by rw [upd_same, behind_next gi, if_pos hb, List.map_append]; rfl⟩
        rw [List.length_map]; exact few1 (by omega)
      · exact ⟨p.1, by rw [p.2, behind_next gi, if_neg (fun z => hb (decide_eq_true z)), List.append_nil]⟩
    · rw [List.length_map, List.take_of_length_le (by rw [List.length_map]; exact Nat.le_refl _)] at p
      exact q _ D p.1 nD p.2
/-! ### _law_starts -/
/-- where closed walks may begin -/
def Beg (n : Nat) (ps : List (List Int)) (x : Int) : Prop := (0 ≤ x ∧ x < (n : Int)) ∧ ∃ y, [x, y] ∈ ps ∧ Ld ps y x
theorem any_key {n : Int} {ps : List (List Int)} {g : Int} {us : List (Int × Nat)} (h : Off n ps g us) (x : Int) : (valV (us.map kO) (Sum.inl x)).isSome = decide (x ∈ us.map (·.1)) := by
  cases e : valV (us.map kO) (Sum.inl x) with
  | none => rw [decide_eq_false (valO_not e)]; rfl
  | some v => rw [decide_eq_true (valO_in e)]; rfl
end
end K9
set_option maxHeartbeats 4000000
namespace K9
open PySem PySem.Spec PyProof.Rows L2 RV
theorem cut_end (xs : List V) (v : V) : cutV (xs ++ [v]) none (some (-1)) = xs := by
  have h : HT.sIx (xs ++ [v]).length (xs ++ [v]).length (some (-1)) = xs.length := by
    show (if (-1 : Int) < 0 then ((-1 : Int) + ((xs ++ [v]).length : Int)).toNat else min (-1 : Int).toNat (xs ++ [v]).length) = _
    rw [if_pos (by decide), List.length_append]
    simp; omega
  unfold cutV
  rw [h, HT.sIx_none, List.drop_zero, Nat.sub_zero, List.take_left]
/-- the word so far, its last mark z -/
structure Wd (n : Int) (ps : List (List Int)) (x : Int) (us : List (Int × Nat)) (ws : List Int) (z : Int) : Prop where
  beg : ∀ y, (ws ++ [z])[0]? = some y → y = x
  ste : ∀ i a b, (ws ++ [z])[i]? = some a → (ws ++ [z])[i + 1]? = some b → [a, b] ∈ ps
  key : z ∈ us.map (·.1)
  inn : ∀ y ∈ ws, 0 ≤ y ∧ y < n
theorem Wd.one {n : Int} {ps : List (List Int)} {x : Int} {us : List (Int × Nat)} (h : x ∈ us.map (·.1)) : Wd n ps x us [] x :=
  ⟨fun y e => (Option.some.inj e).symm, (fun i a b _ e => absurd e (by simp)), h, fun _ z => nomatch z⟩
theorem Wd.add {n : Int} {ps : List (List Int)} {x : Int} {us : List (Int × Nat)} {ws : List Int} {z y : Int} (h : Wd n ps x us ws z) (hz : 0 ≤ z ∧ z < n) (e : [z, y] ∈ ps) (hy : y ∈ us.map (·.1)) : Wd n ps x us (ws ++ [z]) y := by
  refine ⟨fun v e => ?_, fun i a b ha hb => ?_, hy, fun v hv => ?_⟩
  · rw [List.getElem?_append_left (by simp)] at e
    exact h.beg v e
  · rcases Nat.lt_or_ge (i + 1) (ws ++ [z]).length with q | q
    · rw [List.getElem?_append_left (by omega)] at ha
      rw [List.getElem?_append_left q] at hb
      exact h.ste i a b ha hb
    · have il : i < (ws ++ [z]).length := by
        have := (List.getElem?_eq_some_iff.mp hb).1
        rw [List.length_append] at this
        simp only [List.length_cons, List.length_nil] at this
        omega
      rw [List.getElem?_append_left il] at ha
      rw [List.getElem?_append_right q] at hb
      rw [List.length_append] at il q hb
      simp only [List.length_cons, List.length_nil] at il q hb
      have ei : i = ws.length := by omega
      subst ei
      rw [List.getElem?_append_right (Nat.le_refl _), Nat.sub_self] at ha
      rw [Nat.sub_self] at hb
      cases ha
      cases hb
      exact e
  · rcases List.mem_append.mp hv with q | q
    · exact h.inn v q
    · rw [List.mem_singleton.mp q]; exact hz
theorem Wd.loop {n : Int} {ps : List (List Int)} {x : Int} {us : List (Int × Nat)} {ws : List Int} (h : Wd n ps x us ws x) : Loop ps x ws := by
  refine ⟨fun y e => h.beg y ?_, fun i a b ha hb => h.ste i a b ?_ hb⟩
  · rw [List.getElem?_append_left (List.getElem?_eq_some_iff.mp e).1]; exact e
  · rw [List.getElem?_append_left (List.getElem?_eq_some_iff.mp ha).1]; exact ha
section
variable {P : Program} {w : World} {K : PySem.W.Frag} {mg : Str → Option Value} {base : Heap}
/-! ### _law_closed -/
abbrev nClosed : List Str := ["_law_pail_here", "_law_steps_here", "_law_start", "_law_most", "_law_off_here", "_law_word", "_law_turn", "_law_mark"]
theorem scClosed : FnScope nClosed ["_law_pail_here", "_law_steps_here", "_law_start", "_law_most"] (defScope sClosed) := ⟨rfl, rfl, rfl, by decide +kernel, rfl, by decide +kernel, by decide +kernel⟩
def spClosed (K : PySem.W.Frag) : Sp := fun vs H Q _ => ∃ (p a : Addr) (t m n : Nat) (x : Int) (ps : List (List Int)), vs = [.ref p, .ref a, .int x, .int (m : Int)] ∧ PailAt H p t ∧ t ≤ 1500 ∧ Tups K H a ps ∧ (∀ p ∈ ps, Pr (n : Int) p) ∧ n ≤ 8 ∧ ps.length ≤ 64 ∧ Beg n ps x ∧ 1 ≤ m ∧ m ≤ 20 ∧
  ∀ (H' : Hp) (T : Addr) (ws : List Int) (t' : Nat), t' ≤ t + 21 → PailAt H' p t' → But p H H' → SqT K H' T (ws.map V.int) → Loop ps x ws → ws ≠ [] → ws.length ≤ m + 8 → (∀ y ∈ ws, 0 ≤ y ∧ y < (n : Int)) → Q (.ref T) H'
theorem ok_closed {f fO fB fD fF : Addr} {fd dO dB dD dF : FuncData} (F : Fun K "_law_closed" "_law_closed" sClosed f fd) (B : Bare mg) (DO : DefAt K mg "_law_off" sLOff ["_law_steps_here", "_law_goal"] fO dO) (DB : DefAt K mg "_law_behind" sLBehind ["_law_steps_here", "_law_mark"] fB dB)
    (DD : DefAt K mg "_law_draw" sDraw ["_law_pail_here", "_law_many"] fD dD) (DF : DefAt K mg "_law_of" sOf ["_law_pail_here", "_law_some"] fF dF) :
    FnOk P w K mg base CX0 3 f fd ["_law_pail_here", "_law_steps_here", "_law_start", "_law_most"] (spClosed K) := by
  have GO : FnOk P w K mg base CX0 1 fO dO ["_law_steps_here", "_law_goal"] (spLOff K) := ok_loff DO.fn B
  have GB : FnOk P w K mg base CX0 1 fB dB ["_law_steps_here", "_law_mark"] (spLBeh K) := ok_lbeh DB.fn B
  have GD : FnOk P w K mg base CX0 1 fD dD ["_law_pail_here", "_law_many"] spDraw := ok_draw DD.fn
  have GF : FnOk P w K mg base CX0 2 fF dF ["_law_pail_here", "_law_some"] (spOf K) := ok_of DF.fn DD B
  refine F.ok scClosed (fun vs H Q E h => ?_) (fun cdv A outer s H vs Q E hr h => ?_)
  · obtain ⟨p, a, t, m, n, x, ps, rfl, _⟩ := h
    rfl
  · obtain ⟨p, a, t, m, n, x, ps, rfl, hp, ht, hTT, hP, n8, hl, ⟨hx, y1, hxy, hy1⟩, m1, m20, q⟩ := h
    have hu := hu_of hr
    have r1 := hr.mono (show 1 ≤ 2 by decide)
    have two : (2 : Nat) ≤ sizeLine := by decide
    refine ⟨_, pss_cons (ps_asg (pe_tup (pa_cons (pe_call GO r1 (by rfl) DO.mg DO.fn.kp DO.bi .nil pass0 (pa_cons (pv 1) (pa_cons (pv 2) pa_nil))) (pa_cons (pe_lst (pa_cons (pv 2) pa_nil)) pa_nil))) (pg_tup rfl (pgs_cons (pg_name (i := 4) scClosed.nd rfl (Or.inr rfl)) (pgs_cons (pg_name (i := 5) scClosed.nd rfl (Or.inr rfl)) pgs_nil))))
      (pss_cons (ps_for PassesOwn.never rfl (pi_range1 (by rfl) B.range (pa_cons (pe_op op_add pe_int (pe_call GD r1 (by rfl) DD.mg DD.fn.kp DD.bi .nil pass0 (pa_cons (pv 0) (pa_cons (pv 3) pa_nil)))) pa_nil)) (pg_name (i := 6) scClosed.nd rfl (Or.inl rfl))
        (pss_one (ps_expr (pe_bm PySem.F.plainAttrs_list PySem.F.slot_list_append PySem.F.type_list_append mt_append (pv 5) (pa_cons (pe_call GF hr (by rfl) DF.mg DF.fn.kp DF.bi .nil pass0 (pa_cons (pv 0) (pa_cons
          (pe_lc (own := [("_law_mark", 7)]) (g := gName 7) rfl scClosed.nd (pi_list (pe_call GB r1 (by rfl) DB.mg DB.fn.kp DB.bi .nil pass0 (pa_cons (pv 1) (pa_cons (pe_ix ix_list (pv 5) (pe_un un_neg pe_int) (fun _ _ => rfl)) pa_nil)))) (blkOk_by (N := nClosed) (sc := defScope sClosed) (by decide +kernel))
            (fun _ _ _ _ _ => pg_name (i := 7) scClosed.nd rfl (Or.inl rfl)) (fun _ _ _ _ _ => pts_one (pt_cmp (pc_din hu (pv 7) (pv 4)))) (fun _ _ _ _ _ => pv 7)) pa_nil))) pa_nil)))))
      (pss_cons (ps_while PassesOwn.never (pt_cmpR op_ne (pe_ix ix_list (pv 5) (pe_un un_neg pe_int) (fun _ _ => rfl)) (pv 2) (nomark _))
        (pss_one (ps_expr (pe_bm PySem.F.plainAttrs_list PySem.F.slot_list_append PySem.F.type_list_append mt_append (pv 5) (pa_cons (pe_ix ix_list
          (pe_lc (own := [("_law_mark", 7)]) (g := gName 7) rfl scClosed.nd (pi_list (pe_call GB r1 (by rfl) DB.mg DB.fn.kp DB.bi .nil pass0 (pa_cons (pv 1) (pa_cons (pe_ix ix_list (pv 5) (pe_un un_neg pe_int) (fun _ _ => rfl)) pa_nil)))) (blkOk_by (N := nClosed) (sc := defScope sClosed) (by decide +kernel))
            (fun _ _ _ _ _ => pg_name (i := 7) scClosed.nd rfl (Or.inl rfl))
            (fun _ _ _ _ _ => pts_one (pt_cmpR op_eq (pe_dget2 hu (pv 4) (pv 7) pe_int ⟨by rfl, by rfl, by rfl, by rfl⟩) (pe_op op_sub (pe_dget hu (pv 4) (pe_ix (ix_listK (K := K) rfl) (pv 5) (pe_un un_neg pe_int) (fun _ _ => rfl)) (fun _ _ => rfl)) pe_int) (nomark _)))
            (fun _ _ _ _ _ => pv 7)) pe_int (fun _ _ => rfl)) pa_nil)))))
      (pss_one (ps_ret (pe_tupleOf (by rfl) B.tuple (pe_slice sl_list (pv 5) po_none (po_some (pe_un un_neg pe_int)))))))), ?_⟩
    refine ⟨.ref a, rfl, .int x, rfl, a, x, n, ps, rfl, hTT, hP, n8, hx, fun H1 d us s1 nd ed off full => ?_⟩
    refine ⟨.int x, rfl, (by show 1 ≤ sizeLine; decide), fun W nW => ⟨two, fun T0 nT0 => ?_⟩⟩
    have sW := same_upd (o := .lst [.int x]) nW
    have sT := same_upd (o := .tup [.ref d, .ref W]) nT0
    have nWH : H W = none := s1.free nW
    have s03 := (s1.trans sW).trans sT
    have ed3 := (sW.trans sT) _ _ ed
    have eW3 := sT _ _ (upd_same (H := H1) (a := W) (o := .lst [.int x]))
    have hWp : W ≠ p := pail_ne (pail_same hp s1) nW
    have hdp : d ≠ p := pail_ne hp nd
    have hp3 := pail_same hp s03
    have b03 : But p H (upd (upd H1 W (.lst [.int x])) T0 (.tup [.ref d, .ref W])) := But.of s03
    refine ⟨T0, _, rfl, tupNew upd_same, rfl, _, _, rfl, _, _, rfl, rfl, ?_⟩
    generalize upd (upd H1 W (.lst [.int x])) T0 (.tup [.ref d, .ref W]) = H3 at ed3 eW3 hp3 b03 ⊢
    have x_in : x ∈ us.map (·.1) := (off.mem full).mpr (.here x)
    have kin : ∀ z ∈ us.map (·.1), 0 ≤ z ∧ z < (n : Int) := fun z hz => by
      obtain ⟨u, hu, rfl⟩ := List.mem_map.mp hz
      exact off.inn u hu
    -- from a mark that leads on, on
    have onto : ∀ z ∈ us.map (·.1), ∃ y, [z, y] ∈ ps ∧ y ∈ us.map (·.1) := fun z hz => by
      obtain ⟨dd, hdd, _⟩ := off.val hz
      rcases off.back _ hdd with ⟨e, _⟩ | ⟨v, hv, _, e⟩
      · have e : z = x := e
        rw [e]
        exact ⟨y1, hxy, (off.mem full).mpr hy1⟩
      · exact ⟨v.1, e, List.mem_map_of_mem hv⟩
    refine ⟨.ref p, rfl, .int (m : Int), rfl, p, t, (m : Int), rfl, hp3, by omega, by omega, by omega, fun r t4 H4 r0 r1' ht4 hp4 b4 => ?_⟩
    refine ⟨_, _, rfl, rfl, (1 + r), rfl, by omega, by omega, ?_⟩
    have ed4 := b4 _ _ ed3 hdp
    have eW4 := b4 _ _ eW3 hWp
    have b04 := b03.trans b4
    refine for_range (lo := 0) (n := (1 + r).toNat) (fun i σ H' => ∃ (ws : List Int) (z : Int) (t' : Nat) (y6 y7 : Option V), σ = [some (.ref p), some (.ref a), some (.int x), some (.int (m : Int)), some (.ref d), some (.ref W), y6, y7] ∧ But p H H' ∧ PailAt H' p t' ∧ t' ≤ t4 + i ∧ H' d = some (.dK (us.map kO)) ∧ H' W = some (.lst ((ws ++ [z]).map V.int)) ∧ Wd (n : Int) ps x us ws z ∧ ws.length = i)
      ⟨[], x, t4, none, none, rfl, b04, hp4, Nat.le_refl _, ed4, eW4, Wd.one x_in, rfl⟩ ?_ ?_
    · rintro i σ H5 hi ⟨ws, z, t5, y6, y7, rfl, b5, hp5, ht5, ed5, eW5, wd, lw⟩
      have hz := kin z wd.key
      have hTT5 := tups_pail hp b5 hTT
      refine ⟨.ref W, rfl, .inl ⟨rfl, _, lstNew eW5⟩, .ref p, rfl, .ref a, rfl, .ref W, rfl, 1, rfl, W, _, _, .int z, rfl, rfl, lstNew eW5, (by rw [List.map_append]; exact atI_last _ _), a, z, (n : Int), ps, rfl, hTT5, by omega, hP, fun H6 D s6 nD eD => ?_⟩
      have bl := behind_len ps z
      refine ⟨D, rfl, ⟨_, lstNew eD⟩, fun D2 nD2 => ?_⟩
      refine lc_filtL (f := fun y => decide (y ∈ us.map (·.1))) (lstNew eD) (by omega) nD2 (fun y hy H' s' A B h => ?_) (fun y H' Q h => ⟨.int y, rfl, h⟩) fun H7 s7 eD7 => ?_
      · refine ⟨.int y, rfl, .ref d, rfl, d, _, rfl, DGet.k (k := Sum.inl y) ((s6.trans s') _ _ ed5), _, rfl, ?_⟩
        rw [any_key off]; exact h H' (Same.refl H')
      · have s57 := s6.trans s7
        have hp7 := pail_same hp5 s57
        have fl := List.length_filter_le (fun y => decide (y ∈ us.map (·.1))) (behindOf ps z)
        have hD2p : D2 ≠ p := pail_ne (pail_same hp5 s6) nD2
        obtain ⟨y2, hy2, ky2⟩ := onto z wd.key
        have pos : 0 < ((behindOf ps z).filter fun y => decide (y ∈ us.map (·.1))).length := List.length_pos_of_mem (List.mem_filter.mpr ⟨(mem_behind hP).mpr hy2, decide_eq_true ky2⟩)
        refine ⟨p, D2, t5, _, rfl, hp7, by omega, lstNew eD7, hD2p, by rw [List.length_map]; exact pos, by rw [List.length_map]; omega, fun j v t8 H8 gv ht8 hp8 b8 => ?_⟩
        obtain ⟨y, gy, rfl⟩ := map_at gv
        obtain ⟨h1, h2⟩ := List.mem_filter.mp (List.mem_of_getElem? gy)
        have e1 := (mem_behind hP).mp h1
        have e2 : y ∈ us.map (·.1) := of_decide_eq_true h2
        have eW8 := b8 _ _ (s57 _ _ eW5) hWp
        have ed8 := b8 _ _ (s57 _ _ ed5) hdp
        have b08 := (b5.trans (But.of s57)).trans b8
        refine ⟨W, _, _, rfl, rfl, eW8, by rw [List.length_map, List.length_append, lw]; exact few1 (by simp only [List.length_cons, List.length_nil]; omega), ?_⟩
        refine ⟨ws ++ [z], y, t8, _, _, rfl, fun b o e ne => by rw [upd_ne (ne_of_none e nWH)]; exact b08 b o e ne, pail_set hp8 hWp, by omega, ?_, ?_, wd.add hz e1 e2, by rw [List.length_append, lw]; rfl⟩
        · rw [upd_ne (ne_of ed8 eW8 (by intro z; cases z))]; exact ed8
        · rw [upd_same]; simp
    · rintro σ H5 ⟨ws, z, t5, y6, y7, rfl, b5, hp5, ht5, ed5, eW5, wd, lw⟩
      have lw1 : ws ≠ [] := fun e => by rw [e] at lw; have : (0 : Nat) = (1 + r).toNat := lw; omega
      have lw2 : ws.length ≤ m := by omega
      obtain ⟨dz, hdz, vz⟩ := off.val wd.key
      have ldz := off.lev _ hdz
      have lus := off.len
      refine ⟨fun k σ H' => ∃ (ws : List Int) (z : Int) (y6 y7 : Option V), σ = [some (.ref p), some (.ref a), some (.int x), some (.int (m : Int)), some (.ref d), some (.ref W), y6, y7] ∧ But p H H' ∧ PailAt H' p t5 ∧ H' d = some (.dK (us.map kO)) ∧ H' W = some (.lst ((ws ++ [z]).map V.int)) ∧ Wd (n : Int) ps x us ws z ∧ ws ≠ [] ∧ (z, k) ∈ us ∧ ws.length + k ≤ m + 8,
        ⟨dz, ws, z, y6, y7, rfl, b5, hp5, ed5, eW5, wd, lw1, hdz, by have : dz < us.length := ldz; omega⟩, ?_⟩
      rintro k σ H6 ⟨ws, z, y6, y7, rfl, b6, hp6, ed6, eW6, wd, lw1, hk, lwk⟩
      have hz := kin z wd.key
      have vz := valO_at off.nd hk
      have atz : atI ((ws ++ [z]).map V.int) (-1) = some (.int z) := by rw [List.map_append]; exact atI_last _ _
      refine ⟨.ref W, rfl, 1, rfl, W, _, _, .int z, rfl, rfl, lstNew eW6, atz, .int x, rfl, rfl, _, rfl, ?_⟩
      rw [decV]
      by_cases hzx : z = x
      · rw [decide_eq_true hzx]
        refine iteF ?_
        subst hzx
        refine ⟨.ref W, rfl, 1, rfl, _, rfl, W, _, rfl, lstNew eW6, fun S nS => ?_⟩
        rw [show (ws ++ [z]).map V.int = ws.map V.int ++ [.int z] by rw [List.map_append]; rfl, cut_end]
        have sS := same_upd (o := .lst (ws.map V.int)) nS
        refine .inl ⟨S, _, rfl, lstNew upd_same, fun u nu => ?_⟩
        have su := same_upd (o := .tup (ws.map V.int)) nu
        exact q _ u ws t5 (by omega) (pail_same hp6 (sS.trans su)) (b6.trans (But.of (sS.trans su))) (tupNew upd_same) wd.loop lw1 (by omega) wd.inn
      · rw [decide_eq_false hzx]
        refine iteT ?_
        -- one step nearer
        obtain ⟨v, hv, ek, ev⟩ : ∃ v ∈ us, k = v.2 + 1 ∧ [z, v.1] ∈ ps := by
          rcases off.back _ hk with ⟨e, _⟩ | z'
          · exact absurd e hzx
          · exact z'
        have hTT6 := tups_pail hp b6 hTT
        refine ⟨fun σ H' => ∃ (ws : List Int) (z : Int) (y6 y7 : Option V), σ = [some (.ref p), some (.ref a), some (.int x), some (.int (m : Int)), some (.ref d), some (.ref W), y6, y7] ∧ But p H H' ∧ PailAt H' p t5 ∧ H' d = some (.dK (us.map kO)) ∧ H' W = some (.lst ((ws ++ [z]).map V.int)) ∧ Wd (n : Int) ps x us ws z ∧ ws ≠ [] ∧ (z, v.2) ∈ us ∧ ws.length + v.2 ≤ m + 8, fun σ' H' z => ⟨v.2, by omega, z⟩, ?_⟩
        refine ⟨.ref W, rfl, .inl ⟨rfl, _, lstNew eW6⟩, .ref a, rfl, .ref W, rfl, 1, rfl, W, _, _, .int z, rfl, rfl, lstNew eW6, atz, a, z, (n : Int), ps, rfl, hTT6, by omega, hP, fun H7 D s7 nD eD => ?_⟩
        have bl := behind_len ps z
        refine ⟨D, rfl, ⟨_, lstNew eD⟩, fun D2 nD2 => ?_⟩
        refine lc_filtL (f := fun y => decide ((y, v.2) ∈ us)) (lstNew eD) (by omega) nD2 (fun y hy H' s' A B h => ?_) (fun y H' Q h => ⟨.int y, rfl, h⟩) fun H8 s8 eD8 => ?_
        · have ed' := (s7.trans s') _ _ ed6
          have eW' := (s7.trans s') _ _ eW6
          have gz : DGet H' d (kV (Sum.inl z)) (some (.int ((k : Nat) : Int))) := by rw [← vz]; exact DGet.k (k := Sum.inl z) ed'
          refine ⟨.ref d, rfl, d, rfl, .inl ⟨_, .inl ed'⟩, .int y, rfl, _, DGet.k (k := Sum.inl y) ed', ?_⟩
          cases ey : valV (us.map kO) (Sum.inl y) with
          | none =>
            refine ⟨.ref d, rfl, .ref W, rfl, 1, rfl, W, _, _, .int z, rfl, rfl, lstNew eW', atz, d, _, rfl, gz, _, _, rfl, rfl, rfl, _, rfl, ?_⟩
            have h := h H' (Same.refl H')
            rw [if_neg (fun z => valO_not ey (List.mem_map_of_mem (f := (·.1)) (of_decide_eq_true z)))] at h
            show if decide (V.int 99 = V.int ((k : Int) - 1)) = true then _ else _
            rw [decV, decide_eq_false (by omega)]
            exact h
          | some vy =>
            obtain ⟨dy, hdy, vy'⟩ := off.val (valO_in ey)
            rw [ey] at vy'
            cases vy'
            refine ⟨.ref d, rfl, .ref W, rfl, 1, rfl, W, _, _, .int z, rfl, rfl, lstNew eW', atz, d, _, rfl, gz, _, _, rfl, rfl, rfl, _, rfl, ?_⟩
            have h := h H' (Same.refl H')
            show if decide (V.int (dy : Int) = V.int ((k : Int) - 1)) = true then _ else _
            rw [decV]
            have e2 : decide ((dy : Int) = (k : Int) - 1) = decide ((y, v.2) ∈ us) := by
              refine decide_eq_decide.mpr ⟨fun e => ?_, fun e => ?_⟩
              · rw [show v.2 = dy by omega]; exact hdy
              · have := off.fn hdy e; omega
            rw [e2]; exact h
        · have s68 := s7.trans s8
          have vm : v.1 ∈ (behindOf ps z).filter fun y => decide ((y, v.2) ∈ us) := List.mem_filter.mpr ⟨(mem_behind hP).mpr ev, decide_eq_true hv⟩
          have fl := List.length_filter_le (fun y => decide ((y, v.2) ∈ us)) (behindOf ps z)
          generalize ef : ((behindOf ps z).filter fun y => decide ((y, v.2) ∈ us)) = fs at vm fl eD8
          cases fs with
          | nil => exact absurd vm List.not_mem_nil
          | cons y ys =>
            have hy : y ∈ (behindOf ps z).filter fun y => decide ((y, v.2) ∈ us) := by rw [ef]; exact List.mem_cons_self ..
            obtain ⟨h1, h2⟩ := List.mem_filter.mp hy
            have e1 := (mem_behind hP).mp h1
            have e2 : (y, v.2) ∈ us := of_decide_eq_true h2
            have eW8 := s68 _ _ eW6
            have ed8 := s68 _ _ ed6
            refine ⟨D2, _, 0, .int y, rfl, rfl, lstNew eD8, atI_nat (j := 0) rfl, W, _, _, rfl, rfl, eW8, by rw [List.length_map, List.length_append]; exact few1 (by simp only [List.length_cons, List.length_nil]; omega), ?_⟩
            refine ⟨ws ++ [z], y, _, _, rfl, fun b o e ne => by rw [upd_ne (ne_of_none e nWH)]; exact b6.trans (But.of s68) b o e ne, pail_set (pail_same hp6 s68) hWp, ?_, ?_, wd.add hz e1 (List.mem_map_of_mem (f := (·.1)) e2), by simp, e2, by rw [List.length_append]; simp only [List.length_cons, List.length_nil]; omega⟩
            · rw [upd_ne (ne_of ed8 eW8 (by intro z; cases z))]; exact ed8
            · rw [upd_same]; simp
end
end K9
set_option maxHeartbeats 4000000
/-! sorted(s), s a set of tuples of ints of any lengths, none of them empty -/
namespace RV
open PySem PySem.Spec PyProof.Rows L2 TS
/-- one tuple ahead of another -/
def lexA : List Int → List Int → Bool
  | [], [] => false
  | [], _ :: _ => true
  | _ :: _, [] => false
  | p :: ns, q :: ms => if p = q then lexA ns ms else decide (p < q)
section
variable {prog : Program} {w : World} {A : Around} {E : Value → Shared → Prop} {s : Shared}
theorem kat_any {Q : Bool → Shared → Prop} {b fin : Bool} : ∀ {ns ms : List Int} {xs ys : List Value} (i : Nat), IntsAre xs ns → IntsAre ys ms → fin = decide (ns.length < ms.length) → Q (lexA ns ms) s → PySem.W.KatLex prog w A b fin Q (xs.zip ys) i s
  | [], [], _, _, i, .nil, .nil, hf, h => by
    have e : fin = false := hf
    rw [e]; exact PySem.W.kat_nil h
  | [], _ :: ms, _, _, i, .nil, .cons _ _ _, hf, h => by
    have e : fin = true := by rw [hf]; simp
    rw [e]; exact PySem.W.kat_nil h
  | _ :: _, [], _, _, i, .cons _ _ _, .nil, hf, h => by
    have e : fin = false := by rw [hf]; simp
    rw [e]; exact PySem.W.kat_nil h
  | p :: ns, q :: ms, _, _, i, .cons _ t hx, .cons _ u hy, hf, h => by
    refine PySem.W.kat_cons (wpAny_eqBool_int ?_)
    by_cases e : p = q
    · subst e
      rw [beq_self_eq_true]
      have h' : Q (lexA ns ms) s := by simpa [lexA] using h
      refine PySem.W.kat_yes (kat_any (i + 1) hx hy ?_ h')
      rw [hf]; simp
    · rw [beq_eq_false_iff_ne.mpr e]
      refine PySem.W.kat_no (oneLt_ints _ ?_)
      simpa [lexA, e] using h
theorem heads_of {h : Heap} : ∀ vs : List Value, (∀ v ∈ vs, ∃ ns, TupInts h v ns ∧ ns ≠ []) → ∃ fs, PySem.W.KatTups h vs fs ∧ fs.length = vs.length ∧ ∀ f ∈ fs, ∃ n t, f = Value.int n t
  | [], _ => ⟨[], .nil, rfl, fun _ z => nomatch z⟩
  | v :: vs, x => by
    obtain ⟨fs, kt, hlen, hall⟩ := heads_of vs fun z hz => x z (List.mem_cons_of_mem _ hz)
    obtain ⟨ns, ⟨a, xs, rfl, ⟨ob, hob, hcl, k, hdata⟩, hi⟩, hne⟩ := x v (List.mem_cons_self ..)
    cases hxs : xs.toList with
    | nil =>
      rw [hxs] at hi
      cases hi
      exact absurd rfl hne
    | cons y ys =>
      rw [hxs] at hi
      cases hi with
      | cons m t _ =>
        have z : xs[0]? = some (Value.int m t) := by rw [← Array.getElem?_toList, hxs]; rfl
        refine ⟨.int m t :: fs, .cons hob hcl hdata z kt, by rw [List.length_cons, hlen, List.length_cons], fun f hf => ?_⟩
        rcases List.mem_cons.mp hf with rfl | hf
        · exact ⟨m, t, rfl⟩
        · exact hall f hf
theorem kind_any {vs : List Value} (h2 : 2 ≤ vs.length) (x : ∀ v ∈ vs, ∃ ns, TupInts s.heap v ns ∧ ns ≠ []) (r : Value → Int) (hr : ∀ u ∈ vs, ∀ v ∈ vs, ∀ ns ms, TupInts s.heap u ns → TupInts s.heap v ms → lexA ns ms = decide (r u < r v)) (Q : SortKind → Shared → Prop)
    (h : ∀ κ, Cmp prog w A s κ (pairsOf vs) r → Q κ s) : wpAny (model prog w) A (keyKind' vs.toArray) Q E s := by
  obtain ⟨fs, kt, hlen, hall⟩ := heads_of vs x
  refine PySem.W.kat_kind (T := .type "int") kt (by rw [hlen]; omega) (fun f hf => ?_) rfl (h _ fun p q hp hq Q' E' hQ => ?_)
  · obtain ⟨n, t, rfl⟩ := hall f hf
    exact .of_pure rfl
  · rw [pairsOf_toList] at hp hq
    have ip := mem_zip_self hp
    have iq := mem_zip_self hq
    obtain ⟨ns, tp, _⟩ := x _ ip.2
    obtain ⟨ms, tq, _⟩ := x _ iq.2
    have hlex := hr _ ip.2 _ iq.2 ns ms tp tq
    rw [← hlex] at hQ
    obtain ⟨a, xs, e1, ⟨o1, ho1, _, n1, hd1⟩, i1⟩ := tp
    obtain ⟨b, ys, e2, ⟨o2, ho2, _, n2, hd2⟩, i2⟩ := tq
    rw [e1, e2]
    refine PySem.W.kat_lt ho1 hd1 ho2 hd2 (kat_any 0 i1 i2 ?_ hQ)
    rw [← i1.length, ← i2.length, Array.length_toList, Array.length_toList]
theorem call_sort_any {a : Addr} {vs : List Value} {n : Nat} {Q : Value → Shared → Prop} (ρ : List Int → Int) (ho : s.heap.get? a = some (seqObj "list" vs.toArray n)) (h64 : vs.length < 64) (x : ∀ v ∈ vs, ∃ ns, TupInts s.heap v ns ∧ ns ≠ [])
    (hr : ∀ u ∈ vs, ∀ v ∈ vs, ∀ ns ms, TupInts s.heap u ns → TupInts s.heap v ms → lexA ns ms = decide (ρ ns < ρ ms))
    (h : ∀ out : Array Value, out.toList.Perm vs → out.toList.Pairwise (fun u v => ρ (intsOf s.heap u) ≤ ρ (intsOf s.heap v)) → Q .none { s with heap := sortedHeap s.heap a vs out }) :
    wpAny (model prog w) A (call (.builtin "list.sort") [.ref a]) Q E s := by
  have stays : ∀ b o, s.heap.get? b = some o → o.cls = .type "tuple" → (midHeap s.heap a vs).get? b = some o := fun b o e hc => by
    refine midHeap_old (fun z => ?_) e
    rw [z, ho] at e
    cases e
    have hc2 : Value.type "list" = Value.type "tuple" := hc
    injection hc2 with hc3
    exact absurd hc3 (by decide)
  refine wpAny_call_entry slot_list_sort ⟨_, ho, rfl⟩ entry_list_sort (SK.plain_sort (r := fun v => ρ (intsOf s.heap v)) ho h64 (fun h2 Q hQ => ?_) fun ps out h1 h2 h3 => ?_) (args_list_sort _)
  · refine kind_any (s := { s with heap := midHeap s.heap a vs }) h2 (fun v hv => ?_) _ (fun u hu v hv ns ms tu tv => ?_) Q hQ
    · obtain ⟨ns, t, ne⟩ := x v hv
      exact ⟨ns, t.keeps stays, ne⟩
    · obtain ⟨ns0, t0, _⟩ := x u hu
      obtain ⟨ms0, t1, _⟩ := x v hv
      have e0 : ns = ns0 := tu.ints.symm.trans (t0.keeps stays).ints
      have e1 : ms = ms0 := tv.ints.symm.trans (t1.keeps stays).ints
      subst e0 e1
      rw [hr u hu v hv ns ms t0 t1]
      show decide _ = decide (ρ (intsOf s.heap u) < ρ (intsOf s.heap v))
      rw [t0.ints, t1.ints]
  · obtain ⟨p, o⟩ := out_rank (r := fun v => ρ (intsOf s.heap v)) h1 h2 h3
    exact ⟨_, rfl, h out p o⟩
end
section
variable {P : Program} {w : World} {A : Around} {E : Value → Shared → Prop} {s : Shared}
theorem refs_some : ∀ (L : List (Addr × List Int)) (vs : List Value), (∀ v ∈ vs, ∃ q ∈ L, v = Value.ref q.1) → ∃ L1 : List (Addr × List Int), vs = L1.map (fun q => Value.ref q.1) ∧ ∀ q ∈ L1, q ∈ L
  | _, [], _ => ⟨[], rfl, fun _ z => nomatch z⟩
  | L, v :: vs, h => by
    obtain ⟨q, hq, rfl⟩ := h v (List.mem_cons_self ..)
    obtain ⟨L1, rfl, hs⟩ := refs_some L vs fun z hz => h z (List.mem_cons_of_mem _ hz)
    exact ⟨q :: L1, rfl, fun z hz => (List.mem_cons.mp hz).elim (fun e => e ▸ hq) (hs z)⟩
theorem sorted_setA {a : Addr} {L : List (Addr × List Int)} {es : Array (Int × Value)} {ep : Nat} {t : SetTable} {Q : Value → Shared → Prop} (ρ : List Int → Int) (R : SetTR P w s.heap a L es ep t) (hh : A.handled = none)
    (hne : ∀ p ∈ L, p.2 ≠ []) (hr : ∀ p ∈ L, ∀ q ∈ L, lexA p.2 q.2 = decide (ρ p.2 < ρ q.2))
    (hQ : ∀ s' p (out : Array Value) (c : Nat) (L' : List (Addr × List Int)), (∀ b o, s.heap.get? b = some o → s'.heap.get? b = some o) → s'.gens = s.gens → s'.os = s.os → s.heap.objs.size ≤ p → s'.heap.get? p = some (seqObj "list" out c) →
      out.toList = L'.map (fun q => Value.ref q.1) → L'.Perm L → L'.Pairwise (fun q r => ρ q.2 ≤ ρ r.2) → Q (.ref p) s') : wpAny (model P w) A (call (.builtin "sorted") [.ref a]) Q E s := by
  obtain ⟨o, ho, hex, hd⟩ := R.ob
  have size64 := R.size
  have few64 := R.few
  refine Calls.call_function_entry kind_sorted plain_sorted entry_sorted (args_sorted1 _) ?_
  unfold Builtin.«sorted»
  refine wpAny_bind (m := checkCount "sorted" 1 1 _) (wpAny_pure (wpAny_bind (collect_set (A := A.in1) hh ⟨o, ho, hex.1, hd⟩ R.fits (by unfold scanBound; omega) R.tab.ris R.led fun s1 vs k1 hz g1 o1 pm => ?_)))
  have rows : es.toList.map (·.2) = L.map fun q => Value.ref q.1 := by
    rw [R.rows]; unfold rowsOf
    rw [List.map_map]; rfl
  rw [rows] at pm
  have same1 : ∀ q ∈ L, ∀ r ∈ L, q.1 = r.1 → q = r := fun q hq r hr e => by
    have z := R.tup q hq
    rw [e] at z
    exact Prod.ext e (z.inj (R.tup r hr))
  have nodL : L.Nodup := nodup_of_map R.nd
  have nodR : (L.map fun q => Value.ref q.1).Nodup := List.pairwise_map.mpr (List.Pairwise.imp_of_mem (fun {q r} hq hr ne e => ne (same1 q hq r hr (Value.ref.inj e))) nodL)
  have lvs : vs.length < 64 := by rw [pm.length_eq, List.length_map]; exact few64
  refine wpAny_bind (wpAny_newList ?_ (by rw [sizeLine_eq]; omega))
  have atL : (s1.heap.push (seqObj "list" vs.toArray 0)).get? s1.heap.objs.size = some (seqObj "list" vs.toArray 0) := Heap.get?_push_size _ rfl
  have tups : ∀ q ∈ L, TupInts (s1.heap.push (seqObj "list" vs.toArray 0)) (.ref q.1) q.2 := fun q hq => tupInts_of (P := P) (w := w) (isT_keep (R.tup q hq) fun b u e => Heap.get?_push_of_some _ (k1 b u e))
  have from_ : ∀ v ∈ vs, ∃ q ∈ L, v = Value.ref q.1 := fun v hv => by
    obtain ⟨q, hq, e⟩ := List.mem_map.mp (pm.mem_iff.mp hv)
    exact ⟨q, hq, e.symm⟩
  refine wpAny_bind (wpAny_holding (call_sort_any (s := { s1 with heap := s1.heap.push (seqObj "list" vs.toArray 0) }) ρ atL lvs (fun v hv => ?_) (fun u hu v hv ns ms tu tv => ?_) fun out a1 a2 => ?_))
  · obtain ⟨q, hq, rfl⟩ := from_ v hv
    exact ⟨q.2, tups q hq, hne q hq⟩
  · obtain ⟨q, hq, rfl⟩ := from_ u hu
    obtain ⟨r, hr', rfl⟩ := from_ v hv
    have e1 : ns = q.2 := tu.ints.symm.trans (tups q hq).ints
    have e2 : ms = r.2 := tv.ints.symm.trans (tups r hr').ints
    subst e1 e2
    exact hr q hq r hr'
  · obtain ⟨c, hc⟩ := sortedHeap_at (vs := vs) (out := out) atL
    obtain ⟨L', e', hs'⟩ := refs_some L out.toList fun v hv => from_ v (a1.mem_iff.mp hv)
    have pm' : (L'.map fun q => Value.ref q.1).Perm (L.map fun q => Value.ref q.1) := by rw [← e']; exact a1.trans pm
    have pL : L'.Perm L := by
      refine (List.perm_ext_iff_of_nodup (nodup_of_map (pm'.nodup_iff.mpr nodR)) nodL).mpr fun q => ⟨hs' q, fun hq => ?_⟩
      obtain ⟨r, hr', e⟩ := List.mem_map.mp (pm'.mem_iff.mpr (List.mem_map.mpr ⟨q, hq, rfl⟩))
      rw [← same1 r (hs' r hr') q hq (Value.ref.inj e)]; exact hr'
    have pw : L'.Pairwise (fun q r => ρ q.2 ≤ ρ r.2) := by
      rw [e'] at a2
      refine List.Pairwise.imp_of_mem (fun {q r} hq hr' z => ?_) (List.pairwise_map.mp a2)
      have z' : ρ (intsOf (s1.heap.push (seqObj "list" vs.toArray 0)) (.ref q.1)) ≤ ρ (intsOf (s1.heap.push (seqObj "list" vs.toArray 0)) (.ref r.1)) := z
      rwa [(tups q (hs' q hq)).ints, (tups r (hs' r hr')).ints] at z'
    refine wpAny_pure ⟨_, rfl, hQ _ s1.heap.objs.size out c L' (fun b u e => ?_) g1 o1 hz hc e' pL pw⟩
    have lt := Heap.lt_size (k1 b u e)
    show (sortedHeap (s1.heap.push (seqObj "list" vs.toArray 0)) s1.heap.objs.size vs out).get? b = some u
    rw [sortedHeap_old (Nat.ne_of_lt lt) (by rw [size_push']; exact Nat.lt_succ_of_lt lt)]
    exact Heap.get?_push_of_some _ (k1 b u e)
end
section
variable {X : Cx}
def rSortA (K : PySem.W.Frag) (P : Program) (w : World) : List V → Hp → VK → Prop := fun vs H Q => ∃ (a : Addr) (L : List (Addr × List Int)) (ρ : List Int → Int), vs = [V.ref a] ∧ H a = some (SetTO P w a L) ∧ (∀ p ∈ L, SqT K H p.1 (p.2.map V.int)) ∧
  (∀ p ∈ L, p.2 ≠ []) ∧ (∀ p ∈ L, ∀ q ∈ L, lexA p.2 q.2 = decide (ρ p.2 < ρ q.2)) ∧
  ∀ (L' : List (Addr × List Int)) (p : Addr), L'.Perm L → (L'.map (·.2)).Nodup → L'.length < 64 → L'.Pairwise (fun q r => ρ q.2 ≤ ρ r.2) → H p = none → Q (.ref p) (upd H p (.lst (L'.map fun q => V.ref q.1)))
theorem cr_sortedA (hc : X.calm = true) : CallR X (.builtin "sorted") (rSortA X.K X.prog X.w) := by
  intro pins s σ H vs us Q I r h
  obtain ⟨a, L, ρ, rfl, ha, hk, hne, hr, q⟩ := h
  have R0 : SetT0 X.prog X.w s.heap a L := (I.hok a _ ha).1
  obtain ⟨es, ep, t, R⟩ := R0.full fun p hp => I.isT (hk p hp)
  rw [Vals.ref1 r]
  refine sorted_setA ρ R (I.ok.hd hc) hne hr fun s' p out c L' k g o hp hg hout pm pw => ?_
  have few : L'.length < 64 := by rw [pm.length_eq]; exact R.few
  have len : (L'.map fun q => V.ref q.1).length ≤ sizeLine := by rw [List.length_map, sizeLine_eq]; omega
  have new : H p = none := I.hok.fresh hp
  have vals : Vals (L'.map fun q => V.ref q.1) out.toList := by rw [hout]; exact vals_of_refs L'
  have J : Inv X pins σ (upd H p (.lst (L'.map fun q => V.ref q.1))) { s with heap := s'.heap, gens := s'.gens, drawn := s'.drawn, toks := s'.toks } :=
    I.call (ch := []) (Un.laid k hp new) (I.hok.laid k hp ⟨len, out.toList, c, vals, hg⟩) (by rw [g]; exact I.bare) (fun _ z => nomatch z)
  have e : s' = { s with heap := s'.heap, gens := s'.gens, drawn := s'.drawn, toks := s'.toks } := by
    cases s'; cases s; cases o; rfl
  rw [e]
  exact ⟨.ref p, _, J, rfl, q L' p pm ((pm.map (·.2)).nodup_iff.mpr R.nd) few pw new⟩
end
end RV
set_option maxHeartbeats 4000000
namespace RV
open PySem PySem.Spec PyProof.Rows L2
/-- a tuple known to be plain: its methods may be asked -/
def TupD (H : Hp) (a : Addr) (xs : List V) : Prop := ∃ o : Obj, o.dict = none ∧ o.cls = .type "tuple" ∧ H a = some (.frz o (.tup xs))
theorem TupD.sq {K : PySem.W.Frag} {H : Hp} {a : Addr} {xs : List V} (h : TupD H a xs) : SqT K H a xs := by
  obtain ⟨o, _, _, h⟩ := h
  exact .inl (.inr ⟨o, h⟩)
theorem TupD.same {H H' : Hp} {a : Addr} {xs : List V} (h : TupD H a xs) (s : Same H H') : TupD H' a xs := by
  obtain ⟨o, h1, h2, h⟩ := h
  exact ⟨o, h1, h2, s _ _ h⟩
/-- a tuple of plain tuples of ints -/
def TupsD (H : Hp) (a : Addr) (ps : List (List Int)) : Prop := ∃ ks : List (Addr × List Int), ks.map (·.2) = ps ∧ H a = some (.tup (ks.map fun p => V.ref p.1)) ∧ ∀ p ∈ ks, TupD H p.1 (p.2.map V.int)
theorem TupsD.tups {K : PySem.W.Frag} {H : Hp} {a : Addr} {ps : List (List Int)} (h : TupsD H a ps) : Tups K H a ps :=
  let ⟨ks, h1, h2, h3⟩ := h; ⟨ks, h1, tupNew h2, fun p hp => (h3 p hp).sq⟩
theorem TupsD.same {H H' : Hp} {a : Addr} {ps : List (List Int)} (h : TupsD H a ps) (e : Same H H') : TupsD H' a ps :=
  let ⟨ks, h1, h2, h3⟩ := h; ⟨ks, h1, e _ _ h2, fun p hp => (h3 p hp).same e⟩
section
variable {X : Cx} {a : Expr} {ta : TE}
/-- tuple(x) of a list: a new plain tuple -/
def kTupF (K : PySem.W.Frag) (x : V) (H : Hp) (Q : VK) : Prop := ∃ p xs, x = .ref p ∧ SqL K H p xs ∧ ∀ (q : Addr) (o : Obj), H q = none → o.dict = none → o.cls = .type "tuple" → Q (.ref q) (upd H q (.frz o (.tup xs)))
theorem rl_tupleF (pins : List (Addr × Obj)) (s : Shared) (σ : L2.St) (H : Hp) (x : V) (v : Value) (Q : VK) (I : Inv X pins σ H s) (r : RelV x v) (h : kTupF X.K x H Q) :
    wpAny (model X.prog X.w) X.A (call (.type "tuple") [v]) (EP X pins σ Q) X.xe s := by
  obtain ⟨p, xs, rfl, hs, q⟩ := h
  obtain rfl : v = .ref p := r
  obtain ⟨its, rv, pl, hz⟩ := I.list hs
  refine call_tuple_list pl.isList (fun h' hk => ?_) (by rw [List.size_toArray, ← rv.length]; exact hz)
  have I1 : Inv X pins σ H { s with heap := h' } := I.kept (t' := s.toks) hk
  have I2 : Inv X pins σ (upd H h'.objs.size (.frz { cls := .type "tuple", data := .seq its.toArray } (.tup xs))) { s with heap := h'.push { cls := .type "tuple", data := .seq its.toArray } } :=
    I1.laid (t' := s.toks) (fun b o e => Heap.get?_push_of_some _ e) (Nat.le_refl _) (show ObjOk X.prog X.w _ _ _ (.frz { cls := .type "tuple", data := .seq its.toArray } (.tup xs)) from ⟨Heap.get?_push_size _ rfl, hz, its, rv, IsTup.new _ _⟩)
  exact ⟨.ref h'.objs.size, _, I2, rfl, q _ _ (I1.hok.fresh (Nat.le_refl _)) rfl rfl⟩
theorem pe_tupleF {p pos : Pos} (hg : Gl X "tuple") (hm : X.mg "tuple" = none) (ha : PE X a ta) (na : starEach [a] X.env = (false, eval a X.env) :: starEach [] X.env := by rfl) :
    PE X (.Call (.Name "tuple" p) [a] [] pos) (tThen ta (kTupF X.K)) := by
  refine ⟨fun pins s σ H Q I h => ?_⟩
  exact Call_ (ld_blt I hg hm boot_tuple (PyProof.Rows.callWith_type1 (one_arg ha I h (fun v s2 x H2 I2 r q => rl_tupleF pins s2 σ H2 x v Q I2 r q) na) na))
def tBMT (r : V → List V → Hp → VK → Prop) (to : TE) (t : TA) : TE := fun σ H Q => to σ H fun x H1 => (∃ p xs, x = .ref p ∧ TupD H1 p xs) ∧ t σ H1 fun xs H2 => r x xs H2 Q
variable {o e : Expr} {es : List Expr} {to : TE} {t : TA} {name : Str} {apos cpos : Pos} {id : String} {r : V → List V → Hp → VK → Prop}
/-- t.m(e, ..), a plain tuple's method -/
theorem pe_bmT (slot : Slot "tuple" name id) (hty : typeOf (.builtin id) = pure (.type "method_descriptor")) (hm : MtR X id r) (ho : PE X o to) (ha : PA X (e :: es) t)
    (hbase : attributeBase o name X.env (eval o X.env) = eval o X.env := by rfl)
    (hfew : ((backTo cpos (starEach (e :: es) X.env)).all (fun x => !x.1) && (backToKw cpos (keywordEach [] X.env)).all (fun x => x.1.isSome)
      && decide ((e :: es).length + ([] : List Keyword).length + (if ([] : List Keyword).isEmpty then 0 else 1) < 30)) = true := by rfl)
    (hline : (apos.endLine == cpos.line) = true := by rfl) (hs : starEach (e :: es) X.env = (false, eval e X.env) :: starEach es X.env := by rfl) (hplain : (backTo cpos (starEach es X.env)).any (·.1) = false := by rfl) :
    PE X (.Call (.Attribute o name apos) (e :: es) [] cpos) (tBMT r to t) := by
  refine ⟨fun pins s σ H Q I h => ?_⟩
  refine wpAny_Call_method_late hbase hfew hline rfl (thn (ho.run pins s σ H _ I h) fun v s1 ⟨x, H1, I1, r1, ty, q1⟩ => ?_)
  obtain ⟨p, xs, rfl, ob, od, oc, hp⟩ := ty
  obtain rfl : v = .ref p := r1
  have g : s1.heap.get? p = some ob := (I1.hok p _ hp).1
  refine ⟨"tuple", id, PySem.F.plainAttrs_tuple, slot, hty, ⟨ob, g, oc⟩, fun a e => ?_, ?_⟩
  · cases e
    exact ⟨ob, g, od⟩
  have hA := ha.run cpos pins s1 σ H1 _ I1 q1
  rw [hs] at hA ⊢
  refine Calls.callWith_builtin (by show (false || (backTo cpos (starEach es X.env)).any (·.1)) = false; rw [hplain] <;> rfl) (Calls.evalArgs_plain ?_)
  exact thn hA fun us s2 ⟨vs, H2, I2, r2, q2⟩ => hm pins s2 σ H2 (.ref p) vs (.ref p) us Q I2 rfl r2 q2
end
section
variable {X : Cx}
/-- t.index(n), t a tuple of ints -/
def rIndexI (K : PySem.W.Frag) : V → List V → Hp → VK → Prop := fun x xs H Q => ∃ (a : Addr) (ns : List Int) (n : Int) (j : Nat), x = V.ref a ∧ xs = [V.int n] ∧ SqT K H a (ns.map V.int) ∧ ns[j]? = some n ∧ (∀ m, m < j → ns[m]? ≠ some n) ∧ Q (.int (j : Nat)) H
theorem mt_indexI (hu : X.A.units + 65 < cLine) : MtR X "tuple.index" (rIndexI X.K) := by
  intro pins s σ H x xs v us Q I rx rxs h
  obtain ⟨a, ns, n, j, rfl, rfl, hs, hj, hno, q⟩ := h
  cases rx
  obtain ⟨u, rfl, ru⟩ := vals1 rxs
  obtain ⟨bs, r1⟩ := Dp.reads I (.int n) (.int n) u (.int n) ru
  have lay := lay_ints ns
  have room : X.A.units + 1 + min (PyData.depthAll (ns.map PyData.int)) (PyData.int n).depth < cLine := by
    have := Nat.min_le_right (PyData.depthAll (ns.map PyData.int)) (PyData.int n).depth
    have e : (PyData.int n).depth = 0 := by simp [PyData.depth]
    omega
  obtain ⟨its, rv, ⟨⟨cls, dd, dat, sls⟩, ho, hc, m, hd⟩, hlen⟩ := I.tuple hs
  simp only at hc hd
  subst hc hd
  obtain ⟨as, rall⟩ := Dp.readsAll I (ns.map PyData.int) _ its (dpInts ns) rv
  have ln : its.length = (ns.map PyData.int).length := SeqAt.ReadsAll.length _ its as rall
  have mp : its.map (SeqAt.readOf s.heap) = ns.map PyData.int := SeqAt.readsAll_map _ its as lay rall
  have jl : j < its.toArray.size := by
    have := (List.getElem?_eq_some_iff.mp hj).1
    rw [List.size_toArray, ln, List.length_map]; exact this
  have at_ : ∀ (m : Nat) (hm : m < its.toArray.size), ∃ z, ns[m]? = some z ∧ SeqAt.readOf s.heap its.toArray[m] = PyData.int z := fun m hm => by
    have hm2 : m < ns.length := by rw [List.size_toArray, ln, List.length_map] at hm; exact hm
    refine ⟨_, List.getElem?_eq_getElem hm2, ?_⟩
    have e : (its.map (SeqAt.readOf s.heap))[m]? = some (PyData.int ns[m]) := by rw [mp, List.getElem?_map, List.getElem?_eq_getElem hm2]; rfl
    have hml : m < its.length := by simpa using hm
    rw [List.getElem?_map, List.getElem?_eq_getElem hml] at e
    have e' := Option.some.inj e
    simpa using e'
  refine call_meets PySem.F.slot_tuple_index ⟨_, ho, rfl⟩ PySem.F.entry_tuple_index (PySem.F.args_tuple_index_2 _ _) (TI.tuple_indexAt a its.toArray m dd sls u (fun y => PyData.eqv (SeqAt.readOf s.heap y) (.int n)) j jl ?_ ?_)
    ⟨ho, SeqAt.items_eqAt (vs := its.toArray) (show ReadsAll s.heap its.toArray.toList _ as from rall) r1 lay (by simp [PyData.canLay0]) room, ⟨.int (j : Nat), H, I.tok _, ⟨_, rfl⟩, q⟩⟩
  · obtain ⟨z, e1, e2⟩ := at_ j jl
    rw [hj] at e1
    cases e1
    show PyData.eqv (SeqAt.readOf s.heap its.toArray[j]) (.int n) = true
    rw [e2]
    simp [PyData.eqv]
  · intro m hm hmj
    obtain ⟨z, e1, e2⟩ := at_ m hm
    show PyData.eqv (SeqAt.readOf s.heap its.toArray[m]) (.int n) = false
    rw [e2]
    have ne : z ≠ n := fun e => hno m hmj (by rw [e1, e])
    simp [PyData.eqv, ne]
end
section
variable {X : Cx} {P : Program} {w : World} {K : PySem.W.Frag}
theorem cr_setNK (h : X.K = K) (hP : X.prog = P) (hw : X.w = w) (hc : X.calm = true) (hu : X.A.units + 64 < cLine) : CallR X (.type "set") (rSetN K P w) := by
  subst h hP hw
  exact cr_setN hc hu
theorem cr_sortedAK (h : X.K = K) (hP : X.prog = P) (hw : X.w = w) (hc : X.calm = true) : CallR X (.builtin "sorted") (rSortA K P w) := by
  subst h hP hw
  exact cr_sortedA hc
end
end RV
set_option maxHeartbeats 4000000
namespace K9
open PySem PySem.Spec PyProof.Rows L2 RV
theorem rgV_upN (n : Nat) : rgV 0 (n : Int) = (upN n).map V.int := by
  rw [rgV_rgI]
  unfold rgI upN
  rw [show ((n : Int) - 0).toNat = n by omega]
  congr 1
  refine List.map_congr_left fun i _ => ?_
  omega
/-- the ways of the first i marks -/
def Ways (H : Hp) (D : Addr) (ps : List (List Int)) (ws : List (Addr × List Int)) : Prop := H D = some (.lst (ws.map fun p => V.ref p.1)) ∧ ∀ (k : Nat) (x : Addr × List Int), ws[k]? = some x → H x.1 = some (.lst (x.2.map V.int)) ∧ x.1 ≠ D ∧ x.2.length ≤ 8 ∧ ∀ j, j ∈ x.2 ↔ Rch ps (k : Int) j
theorem Ways.same {H H' : Hp} {D : Addr} {ps : List (List Int)} {ws : List (Addr × List Int)} (h : Ways H D ps ws) (s : Same H H') : Ways H' D ps ws :=
  ⟨s _ _ h.1, fun k x g => let ⟨a, b⟩ := h.2 k x g; ⟨s _ _ a, b⟩⟩
theorem in_way {ps : List (List Int)} {k : Nat} {y : Int} {fs : List Int} (h : ∀ j, j ∈ fs ↔ Rch ps (k : Int) j) : decide (y ∈ fs) = rB ps (k : Int) y := by
  rw [Bool.eq_iff_iff, decide_eq_true_iff, rB_iff]
  exact h y
noncomputable def partsTo (ps : List (List Int)) (n i : Nat) : List (List Int) := (((upN n).take i).filter (isHead ps n)).map (lotOf ps n)
theorem partsTo_next {ps : List (List Int)} {n i : Nat} {m : Int} (g : (upN n)[i]? = some m) : partsTo ps n (i + 1) = partsTo ps n i ++ (if isHead ps n m = true then [lotOf ps n m] else []) := by
  unfold partsTo
  rw [take_filt g, List.map_append]
  by_cases e : isHead ps n m = true
  · rw [if_pos e, if_pos e]; rfl
  · rw [if_neg e, if_neg e]; rfl
theorem partsTo_all (ps : List (List Int)) (n : Nat) : partsTo ps n n = partsOf ps n := by
  unfold partsTo partsOf
  rw [List.take_of_length_le (by rw [upN_len]; exact Nat.le_refl _)]
theorem partsTo_len (ps : List (List Int)) (n i : Nat) : (partsTo ps n i).length ≤ n := by
  unfold partsTo
  rw [List.length_map]
  refine Nat.le_trans (List.length_filter_le _ _) ?_
  rw [List.length_take, upN_len]; omega
section
variable {P : Program} {w : World} {K : PySem.W.Frag} {mg : Str → Option Value} {base : Heap}
/-! ### parts -/
theorem scParts : FnScope ["rule", "every", "mark", "ways", "found", "part", "other"] ["rule"] (defScope sParts) := ⟨rfl, rfl, rfl, by decide +kernel, rfl, by decide +kernel, by decide +kernel⟩
def spParts (K : PySem.W.Frag) (C : Addr) : Sp := fun vs H Q _ => ∃ (r : Addr) (ns : List Int) (ps : List (List Int)), vs = [.ref r] ∧ RuleAt K C H r ns ps ∧ Mir ns ∧ Stp ns ps ∧
  ∀ (H' : Hp) (c : Addr), Same H H' → H c = none → TupsD H' c (partsOf ps ns.length) → Q (.ref c) H'
theorem ok_parts {f C fL fM : Addr} {fd dL dM : FuncData} (F : Fun K "parts" "parts" sParts f fd) (T : Txt K mg C) (B : Bare mg) (DL : DefAt K mg "led_to" sLed ["rule", "mark"] fL dL) (GL : FnOk P w K mg base CX0 2 fL dL ["rule", "mark"] (spLed K C))
    (FM : Fun K "marks" "Rule.marks" sMarksM fM dM) (bM : Binds K dM ["self"] []) (mM : Meth K C "marks" fM) : FnOk P w K mg base CX0 3 f fd ["rule"] (spParts K C) := by
  have GM : FnOk P w K mg base CX0 1 fM dM ["self"] (spMarksM K C) := ok_marksM FM T B
  refine F.ok scParts (fun vs H Q E h => ?_) (fun cdv A outer s H vs Q E hr h => ?_)
  · obtain ⟨r, ns, ps, rfl, _⟩ := h
    rfl
  · obtain ⟨r, ns, ps, rfl, R, M, S, q⟩ := h
    have hu5 := un65 hr
    have hr1 := hr.mono (show 1 ≤ 2 by decide)
    refine ⟨_, pss_cons (ps_set (i := 1) scParts.nd rfl (Or.inl rfl) (pe_listRg rfl (by rfl) B.list (prg_1 (by rfl) B.range (pe_meth0 (pv 0) T.cl mM GM hr1 bM .nil pass0))))
      (pss_cons (ps_set (i := 3) scParts.nd rfl (Or.inr rfl) (pe_lc (own := [("mark", 2)]) (g := gName 2) (tt := tYes) rfl scParts.nd (pi_list (pv 1)) (blkOk_by (N := ["rule", "every", "mark", "ways", "found", "part", "other"]) (sc := defScope sParts) (by decide +kernel))
          (fun _ _ _ _ _ => pg_name (i := 2) scParts.nd rfl (Or.inl rfl)) (fun _ _ _ _ _ => pts_nil) (fun _ _ _ _ _ => pe_call GL hr (by rfl) DL.mg DL.fn.kp DL.bi .nil pass0 (pa_cons (pv 0) (pa_cons (pv 2) pa_nil)))))
      (pss_cons (ps_set (i := 4) scParts.nd rfl (Or.inl rfl) (pe_lst pa_nil))
      (pss_cons (ps_for PassesOwn.never rfl (pi_list (pv 1)) (pg_name (i := 2) scParts.nd rfl (Or.inr rfl))
        (pss_cons (ps_set (i := 5) scParts.nd rfl (Or.inl rfl) (pe_tupleF (by rfl) B.tuple
          (pe_lc (own := [("other", 6)]) (g := gName 6) rfl scParts.nd (pi_list (pv 1)) (blkOk_by (N := ["rule", "every", "mark", "ways", "found", "part", "other"]) (sc := defScope sParts) (by decide +kernel))
            (fun _ _ _ _ _ => pg_name (i := 6) scParts.nd rfl (Or.inl rfl))
            (fun _ _ _ _ _ => pts_one (PW.pt (pw_and (pt_cmpR (op_inDK (K := K) rfl hu5) (pv 6) (pe_ix (ix_listK (K := K) rfl) (pv 3) (pv 2) (fun _ _ => rfl)) (by rfl)) (pw_and1 (pt_cmpR (op_inDK (K := K) rfl hu5) (pv 2) (pe_ix (ix_listK (K := K) rfl) (pv 3) (pv 6) (fun _ _ => rfl)) (by rfl))))))
            (fun _ _ _ _ _ => pv 6))))
        (pss_one (ps_if (PW.pt (pw_and (pt_cmpR op_gt (pe_callB call_len_seq (by rfl) B.len PySem.boot_len (pa_cons (pv 5) pa_nil)) pe_int (nomark _)) (pw_and1 (pt_cmpR op_eq (pe_ix ix_tup (pv 5) pe_int (fun _ _ => rfl)) (pv 2) (nomark _)))))
          (pss_one (ps_expr (pe_bm PySem.F.plainAttrs_list PySem.F.slot_list_append PySem.F.type_list_append mt_append (pv 4) (pa_cons (pv 5) pa_nil)))) pss_nil))))
      (pss_one (ps_ret (pe_tupleOf (by rfl) B.tuple (pv 4))))))), ?_⟩
    obtain ⟨dx, a0, b0, t0, g1, g2, g3, g4⟩ := R.ex
    have fno := flds_no a0 b0 t0 (m := "marks") (by decide +kernel) (by decide +kernel) (by decide +kernel)
    have h8 := M.few
    have hP : ∀ p ∈ ps, Pr (ns.length : Int) p := fun p hp => S.pair p hp
    -- every
    refine ⟨.ref r, rfl, r, dx, _, rfl, g1, fno, r, ns, ps, rfl, R, _, rfl, RgOk.of_le (by omega) (by omega) (by omega) (by omega), fun E0 nE => ?_⟩
    rw [rgV_upN]
    have s1 := same_upd (o := .lst ((upN ns.length).map V.int)) nE
    have eE : (upd H E0 (.lst ((upN ns.length).map V.int))) E0 = some (.lst ((upN ns.length).map V.int)) := upd_same
    generalize upd H E0 (.lst ((upN ns.length).map V.int)) = H1 at s1 eE ⊢
    -- ways
    refine ⟨.ref E0, rfl, E0, rfl, ⟨_, lstNew eE⟩, fun D nD => ?_⟩
    refine lc_list (K := K) (a := E0) (xs := (upN ns.length).map V.int) (fun i H' => Same H1 H' ∧ ∃ ws, ws.length = i ∧ Ways H' D ps ws) ⟨same_upd nD, [], rfl, upd_same, fun k x g => nomatch g⟩ (fun i H' _ p => lstNew (p.1 _ _ eE)) (fun i x H' hx p => ?_) fun H2 p => ?_
    · obtain ⟨k, g, rfl⟩ := map_at hx
      have hil : i < ns.length := by
        have := (List.getElem?_eq_some_iff.mp g).1
        rwa [upN_len] at this
      rw [upN_get hil] at g
      have ek : (i : Int) = k := Option.some.inj g
      subst ek
      obtain ⟨p1, ws, hws, W⟩ := p
      refine ⟨rfl, tt_yes ⟨.ref r, rfl, .int (i : Int), rfl, r, (i : Int), ns, ps, rfl, R.same (s1.trans p1), M, S, ⟨by omega, by omega⟩, fun H3 c fs s3 nc e3 l3 m3 => ?_⟩⟩
      have W3 := W.same s3
      have cD : c ≠ D := (ne_of_none W.1 nc).symm
      refine ⟨_, W3.1, by rw [List.length_map]; exact few1 (by omega), fun b o z => ?_, ws ++ [(c, fs)], by rw [List.length_append, hws]; rfl, ?_, fun k x gx => ?_⟩
      · rw [upd_ne (ne_of_none z nD)]; exact s3 _ _ (p1 b o z)
      · rw [upd_same, List.map_append]; rfl
      · by_cases hk : k < ws.length
        · rw [List.getElem?_append_left hk] at gx
          obtain ⟨w1, w2, w3, w4⟩ := W3.2 k x gx
          exact ⟨by rw [upd_ne w2]; exact w1, w2, w3, w4⟩
        · have hk2 := (List.getElem?_eq_some_iff.mp gx).1
          rw [List.length_append] at hk2
          have hk3 : k = ws.length := by
            have : ([(c, fs)] : List (Addr × List Int)).length = 1 := rfl
            omega
          subst hk3
          rw [List.getElem?_append_right (Nat.le_refl _), Nat.sub_self] at gx
          have ex : (c, fs) = x := Option.some.inj gx
          subst ex
          exact ⟨by rw [upd_ne cD]; exact e3, cD, l3, by rw [hws]; exact m3⟩
    · obtain ⟨p1, ws, hws, W⟩ := p
      rw [List.length_map, upN_len] at hws
      refine nx_step ?_
      dsimp only
      -- found
      refine ⟨Nat.zero_le _, fun F0 nF => ?_⟩
      have sF := same_upd (o := .lst []) nF
      refine ⟨.ref E0, rfl, E0, rfl, ⟨_, lstNew (sF _ _ (p1 _ _ eE))⟩, ?_⟩
      have nFH : H F0 = none := s1.free (p1.free nF)
      refine for_list (K := K) (a := E0) (xs := (upN ns.length).map V.int) (fun i σ H' => ∃ (ks : List (Addr × List Int)) (y2 y5 y6 : Option V), σ = [some (.ref r), some (.ref E0), y2, some (.ref D), some (.ref F0), y5, y6] ∧ Same H2 H' ∧ H' F0 = some (.lst (ks.map fun p => V.ref p.1)) ∧ ks.map (·.2) = partsTo ps ns.length i ∧ ∀ k ∈ ks, TupD H' k.1 (k.2.map V.int))
        ⟨[], none, none, none, rfl, sF, upd_same, rfl, fun _ z => nomatch z⟩ (fun i σ H' _ h => ?_) (fun i x σ H' hx h => ?_) (fun σ H' h => ?_)
      · obtain ⟨_, _, _, _, _, s', _⟩ := h
        exact lstNew (s' _ _ (p1 _ _ eE))
      · obtain ⟨ks, y2, y5, y6, rfl, s', eF, eks, hks⟩ := h
        obtain ⟨m, g, rfl⟩ := map_at hx
        have hil : i < ns.length := by
          have := (List.getElem?_eq_some_iff.mp g).1
          rwa [upN_len] at this
        have g' := g
        rw [upN_get hil] at g'
        have ek : (i : Int) = m := Option.some.inj g'
        subst ek
        have W' := W.same s'
        have lks : ks.length ≤ ns.length := by
          have z := congrArg List.length eks
          rw [List.length_map] at z
          have := partsTo_len ps ns.length i
          omega
        -- part
        refine ⟨.ref E0, rfl, E0, rfl, ⟨_, lstNew (s' _ _ (p1 _ _ eE))⟩, fun D2 nD2 => ?_⟩
        refine lc_filtL (f := fun y => rB ps (i : Int) y && rB ps y (i : Int)) (lstNew (s' _ _ (p1 _ _ eE))) (by rw [upN_len]; omega) nD2 (fun y hy H4 s4 A B h => ?_) (fun y H' Q h => ⟨.int y, rfl, h⟩) fun H4 s4 eD2 => ?_
        · have W4 := W'.same s4
          have hy' := mem_upN.mp hy
          obtain ⟨wi, gwi⟩ : ∃ x, ws[i]? = some x := ⟨_, List.getElem?_eq_getElem (by omega)⟩
          obtain ⟨wy, gwy⟩ : ∃ x, ws[y.toNat]? = some x := ⟨_, List.getElem?_eq_getElem (by omega)⟩
          obtain ⟨u1, _, _, u4⟩ := W4.2 _ _ gwi
          obtain ⟨v1, _, _, v4⟩ := W4.2 _ _ gwy
          have hh := h H4 (Same.refl H4)
          refine ⟨.int y, rfl, .ref D, rfl, .int (i : Int), rfl, D, _, _, .ref wi.1, rfl, rfl, lstNew W4.1, atI_nat (by rw [List.getElem?_map, gwi]; rfl), .int y, wi.2.map PyData.int, .int y, dpL (lstNew u1), shapedN y, shapedLI _, _, rfl, ?_⟩
          rw [any_int, in_way u4]
          cases e1 : rB ps (i : Int) y with
          | false =>
            rw [e1] at hh
            exact iteF hh
          | true =>
            rw [e1] at hh
            refine iteT ?_
            have ey : atI (ws.map fun p => V.ref p.1) y = some (.ref wy.1) := by
              have z : atI (ws.map fun p => V.ref p.1) ((y.toNat : Nat) : Int) = some (.ref wy.1) := atI_nat (by rw [List.getElem?_map, gwy]; rfl)
              rwa [Int.toNat_of_nonneg hy'.1] at z
            refine ⟨.int (i : Int), rfl, .ref D, rfl, .int y, rfl, D, _, _, .ref wy.1, rfl, rfl, lstNew W4.1, ey, .int (i : Int), wy.2.map PyData.int, .int (i : Int), dpL (lstNew v1), shapedN _, shapedLI _, _, rfl, ?_⟩
            rw [any_int, in_way v4, Int.toNat_of_nonneg hy'.1]
            rw [Bool.true_and] at hh
            exact hh
        · change H4 D2 = some (.lst ((lotOf ps ns.length (i : Int)).map V.int)) at eD2
          refine ⟨D2, _, rfl, lstNew eD2, fun T0 ob nT od oc => ?_⟩
          have sT := same_upd (o := .frz ob (.tup ((lotOf ps ns.length (i : Int)).map V.int))) nT
          have eT : TupD (upd H4 T0 (.frz ob (.tup ((lotOf ps ns.length (i : Int)).map V.int)))) T0 ((lotOf ps ns.length (i : Int)).map V.int) := ⟨ob, od, oc, upd_same⟩
          have s5 := s4.trans sT
          generalize upd H4 T0 (.frz ob (.tup ((lotOf ps ns.length (i : Int)).map V.int))) = H5 at eT s5 ⊢
          have eF5 := s5 _ _ eF
          have s25 := s'.trans s5
          refine ⟨.ref T0, rfl, T0, _, rfl, .inr eT.sq, _, _, rfl, rfl, _, rfl, ?_⟩
          have nxt := partsTo_next (ps := ps) g
          have no : isHead ps ns.length (i : Int) = false → partsTo ps ns.length (i + 1) = partsTo ps ns.length i := fun e => by
            rw [nxt, e, if_neg (by simp), List.append_nil]
          cases el : lotOf ps ns.length (i : Int) with
          | nil =>
            have e0 : isHead ps ns.length (i : Int) = false := by unfold isHead; rw [el]; rfl
            refine iteF (iteF ?_)
            exact ⟨ks, _, _, _, rfl, s25, eF5, by rw [no e0]; exact eks, fun k hk => (hks k hk).same s5⟩
          | cons x l =>
            rw [el] at eT
            have e0 : decide ((List.map V.int (x :: l)).length > (0 : Int)) = true := decide_eq_true (by rw [List.map_cons, List.length_cons]; omega)
            rw [e0]
            refine iteT ⟨.ref T0, rfl, T0, _, 0, .int x, rfl, rfl, eT.sq, atI_nat (j := 0) rfl, .int (i : Int), rfl, rfl, _, rfl, ?_⟩
            by_cases ex : x = (i : Int)
            · have e1 : isHead ps ns.length (i : Int) = true := by unfold isHead; rw [el, ex]; exact decide_eq_true rfl
              rw [decide_eq_true (by rw [ex])]
              refine iteT ⟨.ref F0, rfl, .inl ⟨rfl, _, lstNew eF5⟩, .ref T0, rfl, F0, _, _, rfl, rfl, eF5, by rw [List.length_map]; exact few1 (by omega), ?_⟩
              have tF : ∀ (c : Addr) (xs : List V), TupD H5 c xs → TupD (upd H5 F0 (.lst (ks.map (fun p => V.ref p.1) ++ [.ref T0]))) c xs := fun c xs ⟨o, z1, z2, e⟩ => ⟨o, z1, z2, by
                rw [upd_ne (fun z => by rw [z, eF5] at e; cases e)]; exact e⟩
              refine ⟨ks ++ [(T0, lotOf ps ns.length (i : Int))], _, _, _, rfl, fun b o z => ?_, ?_, ?_, fun k hk => ?_⟩
              · rw [upd_ne (ne_of_none z nF)]; exact s25 b o z
              · rw [upd_same, List.map_append]; rfl
              · rw [nxt, if_pos e1, List.map_append, eks]; rfl
              · rcases List.mem_append.mp hk with z | z
                · exact tF _ _ ((hks k z).same s5)
                · rw [List.mem_singleton.mp z]
                  refine tF _ _ ?_
                  rw [el]; exact eT
            · have e1 : isHead ps ns.length (i : Int) = false := by
                unfold isHead
                rw [el]
                exact decide_eq_false fun z => ex (Option.some.inj z)
              rw [decide_eq_false (fun z => ex (V.int.inj z))]
              refine iteF ?_
              exact ⟨ks, _, _, _, rfl, s25, eF5, by rw [no e1]; exact eks, fun k hk => (hks k hk).same s5⟩
      · obtain ⟨ks, y2, y5, y6, rfl, s', eF, eks, hks⟩ := h
        rw [List.length_map, upN_len, partsTo_all] at eks
        refine ⟨.ref F0, rfl, .inl ⟨F0, _, rfl, lstNew eF, fun c nc => ?_⟩⟩
        have sc := same_upd (o := .tup (ks.map fun p => V.ref p.1)) nc
        have s02 := s1.trans (p1.trans s')
        exact q _ c (s02.trans sc) (s02.free nc) ⟨ks, eks, upd_same, fun k hk => (hks k hk).same sc⟩
end
end K9
set_option maxHeartbeats 4000000
namespace K9
open PySem PySem.Spec PyProof.Rows L2 RV
/-! ### seen from the other side -/
theorem rch_mirror {ns : List Int} {ps : List (List Int)} (M : Mir ns) (S : Stp ns ps) {a b : Int} (h : Rch ps a b) : ∀ {ma mb : Int}, ns[a.toNat]? = some ma → ns[b.toNat]? = some mb → Rch ps mb ma := by
  have hP : ∀ p ∈ ps, Pr (ns.length : Int) p := fun p hp => S.pair p hp
  induction h with
  | one e => exact fun ha hb => .one (S.mirr _ _ _ _ e ha hb)
  | @more j k h1 e ih =>
    intro ma mb ha hb
    have bj := (Rch.bound hP (.one e)).1
    obtain ⟨mj, hj⟩ : ∃ x, ns[j.toNat]? = some x := ⟨_, List.getElem?_eq_getElem (by omega)⟩
    exact (Rch.one (S.mirr _ _ _ _ e hj hb)).trans (ih ha hj)
theorem mir_back {ns : List Int} (M : Mir ns) {a ma : Int} (ha : 0 ≤ a) (h : ns[a.toNat]? = some ma) : ns[ma.toNat]? = some a := by
  have z := M.back _ _ h
  rwa [Int.toNat_of_nonneg ha] at z
theorem lot_mirror {ns : List Int} {ps : List (List Int)} (M : Mir ns) (S : Stp ns ps) {x mx y my : Int} (h0 : 0 ≤ x) (hx : ns[x.toNat]? = some mx) (hy : ns[y.toNat]? = some my) (h : y ∈ lotOf ps ns.length x) : my ∈ lotOf ps ns.length mx := by
  obtain ⟨_, h1, h2⟩ := mem_lot.mp h
  have := M.inn my (List.mem_of_getElem? hy)
  exact mem_lot.mpr ⟨this, rch_mirror M S h2 hy hx, rch_mirror M S h1 hx hy⟩
/-- what part_of tells -/
def PartNo (ps : List (List Int)) (n : Nat) (m : Int) (v : V) : Prop := (¬ Rch ps m m ∧ v = .non) ∨ ∃ k : Nat, (partsOf ps n)[k]? = some (lotOf ps n m) ∧ Rch ps m m ∧ v = .int (k : Int)
section
variable {P : Program} {w : World} {K : PySem.W.Frag} {mg : Str → Option Value} {base : Heap}
/-! ### part_of -/
theorem scPartOf : FnScope ["rule", "mark", "number", "part"] ["rule", "mark"] (defScope sPartOf) := ⟨rfl, rfl, rfl, by decide +kernel, rfl, by decide +kernel, by decide +kernel⟩
def spPartOf (K : PySem.W.Frag) (C : Addr) : Sp := fun vs H Q _ => ∃ (r : Addr) (m : Int) (ns : List Int) (ps : List (List Int)), vs = [.ref r, .int m] ∧ RuleAt K C H r ns ps ∧ Mir ns ∧ Stp ns ps ∧ (0 ≤ m ∧ m < (ns.length : Int)) ∧
  ∀ (H' : Hp) (v : V), Same H H' → PartNo ps ns.length m v → Q v H'
theorem ok_partOf {f C fP : Addr} {fd dP : FuncData} (F : Fun K "part_of" "part_of" sPartOf f fd) (B : Bare mg) (DP : DefAt K mg "parts" sParts ["rule"] fP dP) (GP : FnOk P w K mg base CX0 3 fP dP ["rule"] (spParts K C)) : FnOk P w K mg base CX0 4 f fd ["rule", "mark"] (spPartOf K C) := by
  refine F.ok scPartOf (fun vs H Q E h => ?_) (fun cdv A outer s H vs Q E hr h => ?_)
  · obtain ⟨r, m, ns, ps, rfl, _⟩ := h
    rfl
  · obtain ⟨r, m, ns, ps, rfl, R, M, S, hm, q⟩ := h
    have hu5 := un65 hr
    refine ⟨_, pss_cons (ps_for PassesOwn.never rfl (pi_enT (by rfl) B.enumerate (pa_cons (pe_call GP hr (by rfl) DP.mg DP.fn.kp DP.bi .nil pass0 (pa_cons (pv 0) pa_nil)) pa_nil)) (pg_tup rfl (pgs_cons (pg_name (i := 2) scPartOf.nd rfl (Or.inl rfl)) (pgs_cons (pg_name (i := 3) scPartOf.nd rfl (Or.inl rfl)) pgs_nil)))
        (pss_one (ps_if (pt_cmpR (op_inTI hu5) (pv 1) (pv 3) (by rfl)) (pss_one (ps_ret (pv 2))) pss_nil)))
      (pss_one (ps_ret pe_non)), ?_⟩
    refine ⟨.ref r, rfl, r, ns, ps, rfl, R, M, S, fun H1 c s1 nc hC => ?_⟩
    obtain ⟨ks, ek, hc, hks⟩ := hC
    refine ⟨c, _, rfl, tupNew hc, ?_⟩
    refine for_it (walk_enT (K := K) (a := c) (xs := ks.map fun p => V.ref p.1)) (fun i σ H' => ∃ (y2 y3 : Option V), σ = [some (.ref r), some (.int m), y2, y3] ∧ Same H1 H' ∧ ∀ (k : Nat) (p : List Int), k < i → (partsOf ps ns.length)[k]? = some p → m ∉ p)
      ⟨none, none, rfl, Same.refl H1, fun k p hk => absurd hk (Nat.not_lt_zero _)⟩ (fun i σ H' _ h => ?_) (fun i x σ H2 H3 hi h y => ?_) (fun σ H' h => ?_)
    · obtain ⟨_, _, _, s', _⟩ := h
      exact tupNew (s' _ _ hc)
    · obtain ⟨y2, y3, rfl, s', no⟩ := h
      obtain ⟨T, x1, x2, rfl, nT, rfl, e1, e2⟩ := y
      have e1' : x1 = .int (i : Nat) := (Option.some.inj e1).symm
      subst e1'
      obtain ⟨k, g, rfl⟩ := map_at e2
      have sT := same_upd (o := .tup [.int (i : Nat), .ref k.1]) nT
      have s13 := s'.trans sT
      have gp : (partsOf ps ns.length)[i]? = some k.2 := by rw [← ek, List.getElem?_map, g]; rfl
      refine ⟨T, _, rfl, tupNew upd_same, rfl, _, _, rfl, _, _, rfl, rfl, .int m, rfl, .ref k.1, rfl, k.1, m, k.2, rfl, rfl, ((hks k (List.mem_of_getElem? g)).same s13).sq, _, rfl, ite2 (fun hin => ?_) (fun hno => ?_)⟩
      · have hin := of_decide_eq_true hin
        have hpm := List.mem_of_getElem? gp
        have el := part_lot hpm hin
        refine ⟨.int (i : Nat), rfl, q _ _ (s1.trans s13) (.inr ⟨i, by rw [gp, el], ?_, rfl⟩)⟩
        rw [← el] at hin
        exact lot_some hin
      · refine ⟨_, _, rfl, s13, fun j p hj gj => ?_⟩
        by_cases e : j = i
        · subst e
          rw [gp] at gj
          cases gj
          exact fun z => hno (decide_eq_true z)
        · exact no j p (by omega) gj
    · obtain ⟨y2, y3, rfl, s', no⟩ := h
      refine q _ _ (s1.trans s') (.inl ⟨fun z => ?_, rfl⟩)
      have hs := lot_self hm z
      obtain ⟨k, hk, e⟩ := List.getElem_of_mem (lot_part hs)
      have lk : (ks.map fun p => V.ref p.1).length = (partsOf ps ns.length).length := by rw [← ek, List.length_map, List.length_map]
      exact no k _ (by omega) (by rw [List.getElem?_eq_getElem hk, e]) hs
/-! ### mirror_part -/
theorem scMirrorPart : FnScope ["rule", "part", "mark"] ["rule", "part"] (defScope sMirrorPart) := ⟨rfl, rfl, rfl, by decide +kernel, rfl, by decide +kernel, by decide +kernel⟩
def spMirrorPart (K : PySem.W.Frag) (C : Addr) : Sp := fun vs H Q _ => ∃ (r : Addr) (k : Nat) (p : List Int) (ns : List Int) (ps : List (List Int)), vs = [.ref r, .int (k : Int)] ∧ RuleAt K C H r ns ps ∧ Mir ns ∧ Stp ns ps ∧ (partsOf ps ns.length)[k]? = some p ∧
  ∀ (H' : Hp) (x mx : Int) (k' : Nat), Same H H' → x ∈ p → ns[x.toNat]? = some mx → (partsOf ps ns.length)[k']? = some (lotOf ps ns.length mx) → Q (.int (k' : Int)) H'
theorem ok_mirrorPart {f C fP fO fR : Addr} {fd dP dO dR : FuncData} (F : Fun K "mirror_part" "mirror_part" sMirrorPart f fd) (T : Txt K mg C) (DP : DefAt K mg "parts" sParts ["rule"] fP dP) (GP : FnOk P w K mg base CX0 3 fP dP ["rule"] (spParts K C))
    (DO : DefAt K mg "part_of" sPartOf ["rule", "mark"] fO dO) (GO : FnOk P w K mg base CX0 4 fO dO ["rule", "mark"] (spPartOf K C)) (FR : Fun K "mirror" "Rule.mirror" sMirrorM fR dR) (bR : Binds K dR ["self", "mark"] []) (mR : Meth K C "mirror" fR) : FnOk P w K mg base CX0 5 f fd ["rule", "part"] (spMirrorPart K C) := by
  have GR : FnOk P w K mg base CX0 1 fR dR ["self", "mark"] (spMirrorM K C) := ok_mirrorM FR T
  refine F.ok scMirrorPart (fun vs H Q E h => ?_) (fun cdv A outer s H vs Q E hr h => ?_)
  · obtain ⟨r, k, p, ns, ps, rfl, _⟩ := h
    rfl
  · obtain ⟨r, k, p, ns, ps, rfl, R, M, S, hk, q⟩ := h
    have hr1 := hr.mono (show 1 ≤ 4 by decide)
    have hr3 := hr.mono (show 3 ≤ 4 by decide)
    refine ⟨_, pss_cons (ps_set (i := 2) scMirrorPart.nd rfl (Or.inl rfl) (pe_ix ix_tup (pe_ix ix_tup (pe_call GP hr3 (by rfl) DP.mg DP.fn.kp DP.bi .nil pass0 (pa_cons (pv 0) pa_nil)) (pv 1) (fun _ _ => rfl)) pe_int (fun _ _ => rfl)))
      (pss_one (ps_ret (pe_call GO hr (by rfl) DO.mg DO.fn.kp DO.bi .nil pass0 (pa_cons (pv 0) (pa_cons (pe_meth (pv 0) T.cl mR GR hr1 bR .nil pass0 (pa_cons (pv 2) pa_nil)) pa_nil))))), ?_⟩
    refine ⟨.ref r, rfl, r, ns, ps, rfl, R, M, S, fun H1 c s1 nc hC => ?_⟩
    obtain ⟨ks, ek, hc, hks⟩ := hC
    have gk : (ks.map (·.2))[k]? = some p := by rw [ek]; exact hk
    obtain ⟨kk, g, ekk⟩ := map_at gk
    have hpm := List.mem_of_getElem? hk
    cases ep : p with
    | nil => exact absurd ep (part_ne hpm)
    | cons x l =>
      have hxp : x ∈ p := by rw [ep]; exact List.mem_cons_self ..
      have hlot := part_lot hpm hxp
      have hxl : x ∈ lotOf ps ns.length x := by rw [hlot]; exact hxp
      have hx := (mem_lot.mp hxl).1
      obtain ⟨mx, gm⟩ : ∃ m, ns[x.toNat]? = some m := ⟨_, List.getElem?_eq_getElem (by omega)⟩
      have hT : SqT K H1 kk.1 ((x :: l).map V.int) := by rw [← ep, ekk]; exact (hks kk (List.mem_of_getElem? g)).sq
      refine ⟨.int (k : Int), rfl, c, _, _, .ref kk.1, rfl, rfl, tupNew hc, atI_nat (by rw [List.getElem?_map, g]; rfl), kk.1, _, 0, .int x, rfl, rfl, hT, atI_nat (j := 0) rfl, ?_⟩
      obtain ⟨dx, a0, b0, t0, g1, _⟩ := (R.same s1).ex
      have fno := flds_no a0 b0 t0 (m := "mirror") (by decide +kernel) (by decide +kernel) (by decide +kernel)
      refine ⟨.ref r, rfl, .ref r, rfl, r, dx, _, rfl, g1, fno, .int x, rfl, r, ns, ps, x.toNat, mx, by rw [Int.toNat_of_nonneg hx.1]; rfl, R.same s1, gm, ?_⟩
      refine ⟨r, mx, ns, ps, rfl, R.same s1, M, S, M.inn mx (List.mem_of_getElem? gm), fun H2 v s2 hv => ?_⟩
      rcases hv with ⟨hn, _⟩ | ⟨k', hk', _, rfl⟩
      · exact absurd (lot_some (lot_mirror M S hx.1 gm gm hxl)) hn
      · exact q H2 x mx k' (s1.trans s2) hxp gm hk'
end
end K9
set_option maxHeartbeats 4000000
namespace K9
open PySem PySem.Spec PyProof.Rows L2 RV
theorem part_hd_in {ps : List (List Int)} {n : Nat} {p : List Int} (hp : p ∈ partsOf ps n) : hd0 p ∈ p ∧ lotOf ps n (hd0 p) = p := by
  have ne := part_ne hp
  cases e : p with
  | nil => exact absurd e ne
  | cons x l =>
    have hx : x ∈ p := by rw [e]; exact List.mem_cons_self ..
    refine ⟨List.mem_cons_self .., ?_⟩
    have z := part_lot hp hx
    rw [e] at z
    exact z
theorem knot_of {ps : List (List Int)} {n : Nat} (hb : ∀ q ∈ ps, Pr (n : Int) q) {p : List Int} (hp : p ∈ partsOf ps n) : Knot ps p (hd0 p) := by
  obtain ⟨hx, hl⟩ := part_hd_in hp
  have hx' : hd0 p ∈ lotOf ps n (hd0 p) := by rw [hl]; exact hx
  have bx := (mem_lot.mp hx').1
  refine ⟨hx, fun m hm => ?_, fun m hm => ?_, fun m h1 h2 => ?_⟩
  · rw [← hl] at hm
    obtain ⟨k, w⟩ := rch_wk (mem_lot.mp hm).2.1
    exact ⟨_, w⟩
  · rw [← hl] at hm
    obtain ⟨k, w⟩ := rch_wk (mem_lot.mp hm).2.2
    exact ⟨_, w⟩
  · obtain ⟨a, wa⟩ := h1
    obtain ⟨b, wb⟩ := h2
    rcases wa.rch with ⟨_, e⟩ | r1
    · rw [← e]; exact hx
    · rcases wb.rch with ⟨_, e⟩ | r2
      · rw [e]; exact hx
      · rw [← hl]
        exact mem_lot.mpr ⟨wa.bound hb bx, r1, r2⟩
theorem part_len8 {ps : List (List Int)} {n : Nat} (h8 : n ≤ 8) {p : List Int} (hp : p ∈ partsOf ps n) : p.length ≤ 8 := by
  obtain ⟨m, _, _, rfl⟩ := mem_parts.mp hp
  exact Nat.le_trans (lot_len ps n m) h8
theorem part_bd {ps : List (List Int)} {n : Nat} {p : List Int} {x : Int} (h : p ∈ partsOf ps n) (hx : x ∈ p) : 0 ≤ x ∧ x < (n : Int) := by
  have e := part_lot h hx
  rw [← e] at hx
  exact (mem_lot.mp hx).1
section
variable {P : Program} {w : World} {K : PySem.W.Frag} {mg : Str → Option Value} {base : Heap}
/-! ### steps_off -/
theorem scOff : FnScope ["rule", "marks", "least", "off", "queue", "at", "here", "mark"] ["rule", "marks"] (defScope sOff) := ⟨rfl, rfl, rfl, by decide +kernel, rfl, by decide +kernel, by decide +kernel⟩
def spOff (K : PySem.W.Frag) (C : Addr) : Sp := fun vs H Q _ => ∃ (r a : Addr) (ns : List Int) (ps : List (List Int)) (p : List Int), vs = [.ref r, .ref a] ∧ RuleAt K C H r ns ps ∧ Mir ns ∧ Stp ns ps ∧ p ∈ partsOf ps ns.length ∧ SqT K H a (p.map V.int) ∧
  ∀ (H' : Hp) (d : Addr) (us : List (Int × Nat)), Same H H' → H d = none → H' d = some (.dK (us.map kO)) → Offs ps p (hd0 p) us → Q (.ref d) H'
def atOff : L2.St → Nat
  | [_, _, _, _, _, some (.int a), _, _] => 8 - a.toNat
  | _ => 0
theorem ok_off {f C fB : Addr} {fd dB : FuncData} (F : Fun K "steps_off" "steps_off" sOff f fd) (T : Txt K mg C) (B : Bare mg)
    (FB : Fun K "behind" "Rule.behind" sBehindM fB dB) (bB : Binds K dB ["self", "mark"] []) (mB : Meth K C "behind" fB) : FnOk P w K mg base CX0 2 f fd ["rule", "marks"] (spOff K C) := by
  have GB : FnOk P w K mg base CX0 1 fB dB ["self", "mark"] (spBehindM K C) := ok_behindM FB T
  refine F.ok scOff (fun vs H Q E h => ?_) (fun cdv A outer s H vs Q E hr h => ?_)
  · obtain ⟨r, a, ns, ps, p, rfl, _⟩ := h
    rfl
  · obtain ⟨r, a, ns, ps, p, rfl, R, M, S, hp, hA, q⟩ := h
    have hu := hu_of hr
    have hu5 := un65 hr
    refine ⟨_, pss_cons (ps_set (i := 2) scOff.nd rfl (Or.inl rfl) (pe_ix ix_tup (pv 1) pe_int (fun _ _ => rfl)))
      (pss_cons (ps_set (i := 3) scOff.nd rfl (Or.inl rfl) (pe_disp (pps_cons (pv 2) pe_int pps_nil) rfl rfl (by simp) (by decide)))
      (pss_cons (ps_set (i := 4) scOff.nd rfl (Or.inl rfl) (pe_lst (pa_cons (pv 2) pa_nil)))
      (pss_cons (ps_set (i := 5) scOff.nd rfl (Or.inl rfl) pe_int)
      (pss_cons (ps_while PassesOwn.never (pt_cmpR op_lt (pv 5) (pe_callB call_len_seq (by rfl) B.len PySem.boot_len (pa_cons (pv 4) pa_nil)) (nomark _))
        (pss_cons (ps_set (i := 6) scOff.nd rfl (Or.inl rfl) (pe_ix ix_list (pv 4) (pv 5) (fun _ _ => rfl)))
        (pss_cons (ps_for PassesOwn.never rfl (pi_tup (pe_meth (pv 0) T.cl mB GB hr bB .nil pass0 (pa_cons (pv 6) pa_nil))) (pg_name (i := 7) scOff.nd rfl (Or.inl rfl))
          (pss_one (ps_if (PW.pt (pw_and (pt_cmpR (op_inTI hu5) (pv 7) (pv 1) (by rfl)) (pw_and1 (pt_cmp (pc_dnotin hu (pv 7) (pv 3))))))
            (pss_cons (ps_dput hu (pv 3) (pv 7) (pe_op op_add (pe_dget hu (pv 3) (pv 6) (fun _ _ => rfl)) pe_int) rfl)
            (pss_one (ps_expr (pe_bm PySem.F.plainAttrs_list PySem.F.slot_list_append PySem.F.type_list_append mt_append (pv 4) (pa_cons (pv 7) pa_nil))))) pss_nil)))
        (pss_one (ps_aug (i := 5) scOff.nd rfl (.inl rfl) pe_int ip_add)))))
      (pss_one (ps_ret (pv 3))))))), ?_⟩
    obtain ⟨dx, a0, b0, t0, g1, g2, g3, g4⟩ := R.ex
    have fno := flds_no a0 b0 t0 (m := "behind") (by decide +kernel) (by decide +kernel) (by decide +kernel)
    have h8 := M.few
    have hP : ∀ q ∈ ps, Pr (ns.length : Int) q := fun q hq => S.pair q hq
    have kn := knot_of hP hp
    have l8 := part_len8 h8 hp
    have hx0 : (p.map V.int)[0]? = some (.int (hd0 p)) := by
      cases e : p with
      | nil => exact absurd e (part_ne hp)
      | cons x l => rfl
    refine ⟨.ref a, rfl, a, _, 0, .int (hd0 p), rfl, rfl, hA, atI_nat (j := 0) hx0, fun d nd => ?_⟩
    generalize hx : hd0 p = x at kn q ⊢
    refine ⟨.int x, rfl, upd_same, [(Sum.inl x, .int 0)], rfl, (by show 1 ≤ 15; decide), ?_⟩
    have s1 : Same H (upd (upd H d (.dK [])) d (.dK (mergeK [] [(Sum.inl x, .int 0)]))) := fun b o e => by
      rw [upd_ne (ne_of_none e nd), upd_ne (ne_of_none e nd)]; exact e
    have ed : (upd (upd H d (.dK [])) d (.dK (mergeK [] [(Sum.inl x, .int 0)]))) d = some (.dK ([(x, 0)].map kO)) := upd_same
    generalize upd (upd H d (.dK [])) d (.dK (mergeK [] [(Sum.inl x, .int 0)])) = H1 at s1 ed ⊢
    refine ⟨.int x, rfl, (by show 1 ≤ sizeLine; decide), fun L nL => ?_⟩
    have sL := same_upd (o := .lst [.int x]) nL
    have nLH : H L = none := s1.free nL
    have ndL : d ≠ L := ne_of_none ed nL
    refine while_by (fun σ H' => ∃ (us : List (Int × Nat)) (at_ : Nat) (y6 y7 : Option V), σ = [some (.ref r), some (.ref a), some (.int x), some (.ref d), some (.ref L), some (.int (at_ : Int)), y6, y7] ∧ Same H H' ∧ H' d = some (.dK (us.map kO)) ∧ H' L = some (.lst ((us.map (·.1)).map V.int)) ∧ Bf ps p x us ∧ at_ ≤ us.length ∧ ∀ (i : Nat) (u : Int × Nat), i < at_ → us[i]? = some u → ∀ y ∈ p, [u.1, y] ∈ ps → y ∈ us.map (·.1))
      (fun σ _ => atOff σ) ?_ ?_ ?_
    · exact ⟨[(x, 0)], 0, none, none, rfl, s1.trans sL, sL _ _ ed, upd_same, Bf.start kn.x_in, Nat.zero_le _, fun i u hi => absurd hi (Nat.not_lt_zero _)⟩
    · rintro σ H2 ⟨us, at_, y6, y7, rfl, s2, ed2, eL2, bf, hle, dn⟩
      refine ⟨.int (at_ : Int), rfl, .ref L, rfl, L, _, rfl, .inl (lstNew eL2), _, _, rfl, rfl, _, rfl, ite2 (fun hlt => ?_) (fun hge => ?_)⟩
      · have hlt : at_ < us.length := by
          have z := of_decide_eq_true hlt
          rw [List.length_map, List.length_map] at z; omega
        obtain ⟨u, gu⟩ : ∃ u, us[at_]? = some u := ⟨_, List.getElem?_eq_getElem hlt⟩
        obtain ⟨wu1, wu2, wu3⟩ := bf.wk _ _ gu
        have bu := part_bd hp wu2
        refine ⟨.ref L, rfl, .int (at_ : Int), rfl, L, _, _, .int u.1, rfl, rfl, lstNew eL2, atI_nat (by rw [List.getElem?_map, List.getElem?_map, gu]; rfl), ?_⟩
        refine ⟨.ref r, rfl, r, dx, _, rfl, s2 _ _ g1, fno, .int u.1, rfl, r, ns, ps, u.1.toNat, by rw [Int.toNat_of_nonneg bu.1]; rfl, R.same s2, by omega, fun c hc => ?_⟩
        rw [Int.toNat_of_nonneg bu.1] at hc
        refine ⟨c, rfl, ⟨_, hc⟩, ?_⟩
        have hbl : (behindOf ps u.1).length ≤ 64 := by
          have := behind_len ps u.1
          have := S.few
          omega
        refine for_it (walk_tup (K := K) (a := c) (xs := (behindOf ps u.1).map V.int)) (fun j σ H' => ∃ (us' : List (Int × Nat)) (y7 : Option V), σ = [some (.ref r), some (.ref a), some (.int x), some (.ref d), some (.ref L), some (.int (at_ : Int)), some (.int u.1), y7] ∧ Same H H' ∧ SqT K H' c ((behindOf ps u.1).map V.int) ∧ H' d = some (.dK (us'.map kO)) ∧ H' L = some (.lst ((us'.map (·.1)).map V.int)) ∧ Bf ps p x us' ∧ (∃ nw, us' = us ++ nw) ∧ ∀ y ∈ (behindOf ps u.1).take j, y ∈ p → y ∈ us'.map (·.1))
          ⟨us, _, rfl, s2, hc, ed2, eL2, bf, ⟨[], (List.append_nil us).symm⟩, fun y hy => by simp at hy⟩ (fun j σ H' _ h => ?_) (fun j z σ H4 H3 hj h y => ?_) (fun σ H3 h => ?_)
        · obtain ⟨_, _, _, _, hc', _⟩ := h
          exact hc'
        · obtain ⟨us', y7', rfl, s3, hc3, ed3, eL3, bf3, ⟨nw, enw⟩, tk⟩ := h
          obtain ⟨rfl, gz⟩ := y
          obtain ⟨y, gy, rfl⟩ := map_at gz
          have gu' : us'[at_]? = some u := by rw [enw, List.getElem?_append_left hlt]; exact gu
          have ebeh : [u.1, y] ∈ ps := (mem_behind hP).mp (List.mem_of_getElem? gy)
          have tkn : ∀ us2 : List (Int × Nat), (∀ z ∈ us'.map (·.1), z ∈ us2.map (·.1)) → (y ∈ p → y ∈ us2.map (·.1)) → ∀ z ∈ (behindOf ps u.1).take (j + 1), z ∈ p → z ∈ us2.map (·.1) := fun us2 h1 h2 z hz hzp => by
            rw [List.take_add_one, gy] at hz
            rcases List.mem_append.mp hz with e | e
            · exact h1 z (tk z e hzp)
            · have e : z = y := List.mem_singleton.mp e
              subst e
              exact h2 hzp
          refine ⟨.int y, rfl, .ref a, rfl, a, y, p, rfl, rfl, sqT_same s3 hA, _, rfl, ?_⟩
          by_cases hyp : y ∈ p
          · rw [decide_eq_true hyp]
            refine iteT ⟨.int y, rfl, .ref d, rfl, d, _, rfl, DGet.k (k := Sum.inl y) ed3, _, rfl, ?_⟩
            cases ev : valV (us'.map kO) (Sum.inl y) with
            | some v =>
              refine iteF ?_
              exact ⟨us', _, rfl, s3, hc3, ed3, eL3, bf3, ⟨nw, enw⟩, tkn us' (fun _ z => z) fun _ => valO_in ev⟩
            | none =>
              refine iteT ?_
              have ev' := valO_at bf3.nd (List.mem_of_getElem? gu')
              have hl3 := bf3.len
              have dput : DPut H3 d (kV (Sum.inl y)) (.int ((u.2 : Int) + 1)) (upd H3 d (.dK ((us' ++ [(y, u.2 + 1)]).map kO))) := by
                rw [← putO_new ev]
                exact DPut.k ed3 (by rw [List.length_map]; exact few1 (by omega))
              refine ⟨.ref d, rfl, .int u.1, rfl, d, _, rfl, (by rw [← ev']; exact DGet.k (k := Sum.inl u.1) ed3), _, _, rfl, rfl, .ref d, rfl, .int y, rfl, d, upd H3 d (.dK ((us' ++ [(y, u.2 + 1)]).map kO)), rfl, dput, ?_⟩
              have eL4 : (upd H3 d (.dK ((us' ++ [(y, u.2 + 1)]).map kO))) L = some (.lst ((us'.map (·.1)).map V.int)) := by rw [upd_ne ndL.symm]; exact eL3
              refine ⟨.ref L, rfl, .inl ⟨rfl, _, lstNew eL4⟩, .int y, rfl, L, _, _, rfl, rfl, eL4, by rw [List.length_map, List.length_map]; exact few1 (by omega), ?_⟩
              have s5 : Same H (upd (upd H3 d (.dK ((us' ++ [(y, u.2 + 1)]).map kO))) L (.lst ((us'.map (·.1)).map V.int ++ [.int y]))) := fun b o e => by
                rw [upd_ne (ne_of_none e nLH), upd_ne (ne_of_none e nd)]; exact s3 b o e
              refine ⟨us' ++ [(y, u.2 + 1)], _, rfl, s5, ?_, ?_, ?_, bf3.add gu' ebeh hyp (valO_not ev), ⟨nw ++ [(y, u.2 + 1)], by rw [enw, List.append_assoc]⟩, tkn _ (fun z hz => by rw [List.map_append]; exact List.mem_append_left _ hz) fun _ => by rw [List.map_append]; exact List.mem_append_right _ (List.mem_singleton.mpr rfl)⟩
              · have keep : ∀ b o, H3 b = some o → (∃ xs, o = .tup xs) ∨ (∃ ob xs, o = .frz ob (.tup xs)) → (upd (upd H3 d (.dK ((us' ++ [(y, u.2 + 1)]).map kO))) L (.lst ((us'.map (·.1)).map V.int ++ [.int y]))) b = some o := fun b o e k => by
                  rw [upd_ne (fun z => by rw [z, eL3] at e; cases e; rcases k with ⟨_, k⟩ | ⟨_, _, k⟩ <;> cases k), upd_ne (fun z => by rw [z, ed3] at e; cases e; rcases k with ⟨_, k⟩ | ⟨_, _, k⟩ <;> cases k)]
                  exact e
                rcases hc3 with (z | ⟨ob, z⟩) | z
                · exact .inl (.inl (keep _ _ z (.inl ⟨_, rfl⟩)))
                · exact .inl (.inr ⟨ob, keep _ _ z (.inr ⟨_, _, rfl⟩)⟩)
                · exact .inr z
              · rw [upd_ne ndL, upd_same]
              · rw [upd_same, List.map_append, List.map_append]; rfl
          · rw [decide_eq_false hyp]
            refine iteF (iteF ?_)
            exact ⟨us', _, rfl, s3, hc3, ed3, eL3, bf3, ⟨nw, enw⟩, tkn us' (fun _ z => z) fun z => absurd z hyp⟩
        · obtain ⟨us', y7', rfl, s3, hc3, ed3, eL3, bf3, ⟨nw, enw⟩, tk⟩ := h
          rw [List.length_map, List.take_of_length_le (Nat.le_refl _)] at tk
          refine ⟨.int (at_ : Int), rfl, _, _, rfl, rfl, ⟨us', at_ + 1, _, _, rfl, s3, ed3, eL3, bf3, ?_, fun i v hi hv y hy e => ?_⟩, ?_⟩
          · rw [enw, List.length_append]; omega
          · by_cases ei : i = at_
            · subst ei
              rw [enw, List.getElem?_append_left hlt, gu] at hv
              cases hv
              exact tk y ((mem_behind hP).mpr e) hy
            · rw [enw, List.getElem?_append_left (by omega)] at hv
              have := dn i v (by omega) hv y hy e
              rw [enw, List.map_append]
              exact List.mem_append_left _ this
          · show 8 - ((at_ : Int) + 1).toNat < 8 - ((at_ : Int)).toNat
            have := bf.len
            omega
      · have hge : us.length ≤ at_ := by
          have z : ¬ ((at_ : Int) < (((us.map (·.1)).map V.int).length : Int)) := fun z => hge (decide_eq_true z)
          rw [List.length_map, List.length_map] at z; omega
        refine ⟨.ref d, rfl, q H2 d us s2 nd ed2 ?_⟩
        refine bf.offs kn l8 fun i u hu => ?_
        exact dn i u (by have := (List.getElem?_eq_some_iff.mp hu).1; omega) hu
    · intro σ H1 Q1 Q2 hq h
      obtain ⟨x, e1, y, e2, p, l, e3, e4, i, j, e5, e6, b, e7, h⟩ := h
      exact ⟨x, e1, y, e2, p, l, e3, e4, i, j, e5, e6, b, e7, hq _ _ h⟩
end
end K9
set_option maxHeartbeats 4000000
namespace K9
open PySem PySem.Spec PyProof.Rows L2 RV
section
variable {P : Program} {w : World} {K : PySem.W.Frag} {mg : Str → Option Value} {base : Heap}
/-! ### common_measure -/
theorem scMeasure : FnScope ["one", "other"] ["one", "other"] (defScope sMeasure) := ⟨rfl, rfl, rfl, by decide +kernel, rfl, by decide +kernel, by decide +kernel⟩
def spMeasure : Sp := fun vs H Q _ => ∃ a b : Nat, vs = [.int (a : Int), .int (b : Int)] ∧ Q (.int ((Nat.gcd a b : Nat) : Int)) H
def otherOf : L2.St → Nat
  | [_, some (.int b)] => b.toNat
  | _ => 0
theorem ok_measure {f : Addr} {fd : FuncData} (F : Fun K "common_measure" "common_measure" sMeasure f fd) : FnOk P w K mg base CX0 1 f fd ["one", "other"] spMeasure := by
  refine F.ok scMeasure (fun vs H Q E h => ?_) (fun cdv A outer s H vs Q E hr h => ?_)
  · obtain ⟨a, b, rfl, _⟩ := h
    rfl
  · obtain ⟨a, b, rfl, q⟩ := h
    refine ⟨_, pss_cons (ps_while PassesOwn.never (pt_cmpR op_gt (pv 1) pe_int (nomark _))
        (pss_one (ps_par (i := 0) (j := 1) (by rfl) scMeasure.nd rfl rfl (by decide) rfl rfl (pa_cons (pv 1) (pa_cons (pe_op op_mod (pv 0) (pv 1)) pa_nil)) (by rfl))))
      (pss_one (ps_ret (pv 0))), ?_⟩
    refine while_by (fun σ H' => ∃ c d : Nat, σ = [some (.int (c : Int)), some (.int (d : Int))] ∧ H' = H ∧ Nat.gcd c d = Nat.gcd a b) (fun σ _ => otherOf σ) ?_ ?_ ?_
    · exact ⟨a, b, rfl, rfl, rfl⟩
    · rintro σ H1 ⟨c, d, rfl, rfl, e⟩
      refine ⟨.int (d : Int), rfl, _, _, rfl, rfl, _, rfl, ite2 (fun h0 => ?_) (fun h0 => ?_)⟩
      · have h0 : (d : Int) > 0 := of_decide_eq_true h0
        refine ⟨.int (d : Int), rfl, .int (c : Int), rfl, .int (d : Int), rfl, _, _, rfl, rfl, h0, _, _, rfl, ⟨d, c % d, rfl, rfl, ?_⟩, ?_⟩
        · rw [← e, Nat.gcd_comm d (c % d), ← Nat.gcd_rec, Nat.gcd_comm]
        · show ((c : Int) % (d : Int)).toNat < ((d : Int)).toNat
          have := Int.emod_lt_of_pos (c : Int) h0
          have := Int.emod_nonneg (c : Int) (show (d : Int) ≠ 0 by omega)
          omega
      · have h0 : d = 0 := by
          have z : ¬ ((d : Int) > 0) := fun z => h0 (decide_eq_true z)
          omega
        subst h0
        rw [Nat.gcd_zero_right] at e
        refine ⟨.int (c : Int), rfl, ?_⟩
        rw [e]; exact q
    · intro σ H1 Q1 Q2 hq h
      obtain ⟨x, e1, i, j, e5, e6, b, e7, h⟩ := h
      exact ⟨x, e1, i, j, e5, e6, b, e7, hq _ _ h⟩
/-! ### period -/
theorem scPeriod : FnScope ["rule", "part", "marks", "off", "found", "a", "b"] ["rule", "part"] (defScope sPeriod) := ⟨rfl, rfl, rfl, by decide +kernel, rfl, by decide +kernel, by decide +kernel⟩
def spPeriod (K : PySem.W.Frag) (C : Addr) : Sp := fun vs H Q _ => ∃ (r : Addr) (k : Nat) (ns : List Int) (ps : List (List Int)) (p : List Int), vs = [.ref r, .int (k : Int)] ∧ RuleAt K C H r ns ps ∧ Mir ns ∧ Stp ns ps ∧ (partsOf ps ns.length)[k]? = some p ∧
  ∀ H', Same H H' → Per ps (hd0 p) (perN ps (hd0 p)) → Q (.int ((perN ps (hd0 p) : Nat) : Int)) H'
theorem abs_gap (a b : Nat) : (if ((a : Int) + 1 - (b : Int)) < 0 then -((a : Int) + 1 - (b : Int)) else ((a : Int) + 1 - (b : Int))) = ((gapO a b : Nat) : Int) := by
  unfold gapO
  split <;> omega
theorem ok_period {f C fP fO fM : Addr} {fd dP dO dM : FuncData} (F : Fun K "period" "period" sPeriod f fd) (T : Txt K mg C) (B : Bare mg) (DP : DefAt K mg "parts" sParts ["rule"] fP dP) (GP : FnOk P w K mg base CX0 3 fP dP ["rule"] (spParts K C))
    (DO : DefAt K mg "steps_off" sOff ["rule", "marks"] fO dO) (GO : FnOk P w K mg base CX0 2 fO dO ["rule", "marks"] (spOff K C)) (DM : DefAt K mg "common_measure" sMeasure ["one", "other"] fM dM) : FnOk P w K mg base CX0 4 f fd ["rule", "part"] (spPeriod K C) := by
  have GM : FnOk P w K mg base CX0 1 fM dM ["one", "other"] spMeasure := ok_measure DM.fn
  refine F.ok scPeriod (fun vs H Q E h => ?_) (fun cdv A outer s H vs Q E hr h => ?_)
  · obtain ⟨r, k, ns, ps, p, rfl, _⟩ := h
    rfl
  · obtain ⟨r, k, ns, ps, p, rfl, R, M, S, gk, q⟩ := h
    have hu := hu_of hr
    have hu5 := un65 hr
    have hr1 := hr.mono (show 1 ≤ 3 by decide)
    have hr2 := hr.mono (show 2 ≤ 3 by decide)
    refine ⟨_, pss_cons (ps_set (i := 2) scPeriod.nd rfl (Or.inl rfl) (pe_ix ix_tup (pe_call GP hr (by rfl) DP.mg DP.fn.kp DP.bi .nil pass0 (pa_cons (pv 0) pa_nil)) (pv 1) (fun _ _ => rfl)))
      (pss_cons (ps_set (i := 3) scPeriod.nd rfl (Or.inl rfl) (pe_call GO hr2 (by rfl) DO.mg DO.fn.kp DO.bi .nil pass0 (pa_cons (pv 0) (pa_cons (pv 2) pa_nil))))
      (pss_cons (ps_set (i := 4) scPeriod.nd rfl (Or.inl rfl) pe_int)
      (pss_cons (ps_for PassesOwn.never rfl (pi_tup (pe_fld (pv 0) rfl)) (pg_tup rfl (pgs_cons (pg_name (i := 5) scPeriod.nd rfl (Or.inl rfl)) (pgs_cons (pg_name (i := 6) scPeriod.nd rfl (Or.inl rfl)) pgs_nil)))
        (pss_one (ps_if (PW.pt (pw_and (pt_cmpR (op_inTI hu5) (pv 5) (pv 2) (by rfl)) (pw_and1 (pt_cmpR (op_inTI hu5) (pv 6) (pv 2) (by rfl)))))
          (pss_one (ps_set (i := 4) scPeriod.nd rfl (Or.inl rfl) (pe_call GM hr1 (by rfl) DM.mg DM.fn.kp DM.bi .nil pass0 (pa_cons (pv 4) (pa_cons (pe_callB call_abs (by rfl) B.abs (by decide +kernel) (pa_cons (pe_op op_sub (pe_op op_add (pe_dget hu (pv 3) (pv 5) (fun _ _ => rfl)) pe_int) (pe_dget hu (pv 3) (pv 6) (fun _ _ => rfl))) pa_nil)) pa_nil))))) pss_nil)))
      (pss_one (ps_ret (pv 4)))))), ?_⟩
    have h8 := M.few
    have hP : ∀ q ∈ ps, Pr (ns.length : Int) q := fun q hq => S.pair q hq
    have hp := List.mem_of_getElem? gk
    refine ⟨.ref r, rfl, r, ns, ps, rfl, R, M, S, fun H1 c s1 nc hC => ?_⟩
    obtain ⟨ks, ek, hc, hks⟩ := hC
    have gk' : (ks.map (·.2))[k]? = some p := by rw [ek]; exact gk
    obtain ⟨kk, g, ekk⟩ := map_at gk'
    have hT1 : SqT K H1 kk.1 (p.map V.int) := by rw [ekk]; exact (hks kk (List.mem_of_getElem? g)).sq
    refine ⟨.int (k : Int), rfl, c, _, _, .ref kk.1, rfl, rfl, tupNew hc, atI_nat (by rw [List.getElem?_map, g]; rfl), ?_⟩
    refine ⟨.ref r, rfl, .ref kk.1, rfl, r, kk.1, ns, ps, p, rfl, R.same s1, M, S, hp, hT1, fun H2 d us s2 nd ed O => ?_⟩
    have s02 := s1.trans s2
    obtain ⟨dx, a0, b0, t0, g1, g2, g3, g4⟩ := (R.same s02).ex
    obtain ⟨js, ej, hb, hjs⟩ := g3
    refine ⟨.ref r, rfl, r, C, dx, _, _, rfl, g1, T.cl, T.nS, flds_s _ _ _, b0, rfl, ⟨_, hb⟩, ?_⟩
    refine for_it (walk_tup (K := K) (a := b0) (xs := js.map fun p => V.ref p.1)) (fun i σ H' => ∃ (g : Nat) (y5 y6 : Option V), σ = [some (.ref r), some (.int (k : Int)), some (.ref kk.1), some (.ref d), some (.int (g : Int)), y5, y6] ∧ H' = H2 ∧ Gf ps p us (ps.take i) g)
      ⟨0, none, none, rfl, rfl, Gf.nil⟩ (fun i σ H' _ h => ?_) (fun i z σ H4 H3 hi h y => ?_) (fun σ H3 h => ?_)
    · obtain ⟨_, _, _, _, rfl, _⟩ := h
      exact hb
    · obtain ⟨g0, y5, y6, rfl, rfl, G⟩ := h
      obtain ⟨rfl, gz⟩ := y
      obtain ⟨j, gj, rfl⟩ := map_at gz
      have hj : j ∈ js := List.mem_of_getElem? gj
      have hjp : j.2 ∈ ps := by rw [← ej]; exact List.mem_map_of_mem hj
      obtain ⟨x, y, e, _⟩ := S.pair j.2 hjp
      have hjT : SqT K H3 j.1 ([x, y].map V.int) := by rw [← e]; exact hjs j hj
      have gi : ps[i]? = some [x, y] := by rw [← ej, List.getElem?_map, gj, ← e]; rfl
      have tk : ps.take (i + 1) = ps.take i ++ [[x, y]] := by rw [List.take_add_one, gi]; rfl
      have hTp := sqT_same s2 hT1
      refine ⟨j.1, _, rfl, hjT, rfl, _, _, rfl, _, _, rfl, rfl, ?_⟩
      refine ⟨.int x, rfl, .ref kk.1, rfl, kk.1, x, p, rfl, rfl, hTp, _, rfl, ?_⟩
      by_cases hx : x ∈ p
      · rw [decide_eq_true hx]
        refine iteT ⟨.int y, rfl, .ref kk.1, rfl, kk.1, y, p, rfl, rfl, hTp, _, rfl, ?_⟩
        by_cases hy : y ∈ p
        · rw [decide_eq_true hy]
          obtain ⟨a, ha, _, _⟩ := O.get hx
          obtain ⟨b, hb', _, _⟩ := O.get hy
          have ea := valO_at O.nd ha
          have eb := valO_at O.nd hb'
          refine iteT ⟨.int (g0 : Int), rfl, .ref d, rfl, .int x, rfl, d, _, rfl, (by rw [← ea]; exact DGet.k (k := Sum.inl x) ed), _, _, rfl, rfl, .ref d, rfl, .int y, rfl, d, _, rfl, (by rw [← eb]; exact DGet.k (k := Sum.inl y) ed), _, _, rfl, rfl, _, rfl, g0, gapO a b, ?_, ?_⟩
          · rw [abs_gap]; rfl
          · refine ⟨_, _, _, rfl, rfl, ?_⟩
            rw [tk]
            exact G.add O hx hy ha hb'
        · rw [decide_eq_false hy]
          refine iteF ⟨g0, _, _, rfl, rfl, ?_⟩
          rw [tk]
          exact G.skip fun z => hy z.2
      · rw [decide_eq_false hx]
        refine iteF (iteF ⟨g0, _, _, rfl, rfl, ?_⟩)
        rw [tk]
        exact G.skip fun z => hx z.1
    · obtain ⟨g0, y5, y6, rfl, rfl, G⟩ := h
      have ef : ps.take (js.map fun p => V.ref p.1).length = ps := by
        rw [List.length_map]
        have lj : js.length = ps.length := by rw [← ej, List.length_map]
        exact List.take_of_length_le (by omega)
      rw [ef] at G
      have per := G.per O (knot_of hP hp) hP h8 fun m hm => part_bd hp hm
      have e := per.is
      refine ⟨.int (g0 : Int), rfl, ?_⟩
      have z := q H3 s02 (by rw [e]; exact per)
      rw [e] at z
      exact z
end
end K9
set_option maxHeartbeats 4000000
namespace K9
open PySem PySem.Spec PyProof.Rows L2 RV
/-- the class of a mark -/
noncomputable def clsM (ps : List (List Int)) (n : Nat) (m : Int) : Nat := clsN ps (hd0 (lotOf ps n m)) (perN ps (hd0 (lotOf ps n m))) m
noncomputable def clsL (ps : List (List Int)) (n : Nat) (p : List Int) : List Int := p.map fun m => ((clsM ps n m : Nat) : Int)
theorem clsM_of {ps : List (List Int)} {n : Nat} {p : List Int} {m : Int} (hp : p ∈ partsOf ps n) (hm : m ∈ p) : clsM ps n m = clsN ps (hd0 p) (perN ps (hd0 p)) m := by
  unfold clsM
  rw [part_lot hp hm]
section
variable {P : Program} {w : World} {K : PySem.W.Frag} {mg : Str → Option Value} {base : Heap}
/-! ### classes -/
theorem scClasses : FnScope ["rule", "part", "marks", "off", "its_period", "mark"] ["rule", "part"] (defScope sClasses) := ⟨rfl, rfl, rfl, by decide +kernel, rfl, by decide +kernel, by decide +kernel⟩
def spClasses (K : PySem.W.Frag) (C : Addr) : Sp := fun vs H Q _ => ∃ (r : Addr) (k : Nat) (ns : List Int) (ps : List (List Int)) (p : List Int), vs = [.ref r, .int (k : Int)] ∧ RuleAt K C H r ns ps ∧ Mir ns ∧ Stp ns ps ∧ (partsOf ps ns.length)[k]? = some p ∧
  ∀ (H' : Hp) (c : Addr), Same H H' → H c = none → H' c = some (.tup ((clsL ps ns.length p).map V.int)) → Per ps (hd0 p) (perN ps (hd0 p)) → Q (.ref c) H'
theorem ok_classes {f C fP fO fM : Addr} {fd dP dO dM : FuncData} (F : Fun K "classes" "classes" sClasses f fd) (B : Bare mg) (DP : DefAt K mg "parts" sParts ["rule"] fP dP) (GP : FnOk P w K mg base CX0 3 fP dP ["rule"] (spParts K C))
    (DO : DefAt K mg "steps_off" sOff ["rule", "marks"] fO dO) (GO : FnOk P w K mg base CX0 2 fO dO ["rule", "marks"] (spOff K C)) (DM : DefAt K mg "period" sPeriod ["rule", "part"] fM dM) (GM : FnOk P w K mg base CX0 4 fM dM ["rule", "part"] (spPeriod K C)) : FnOk P w K mg base CX0 5 f fd ["rule", "part"] (spClasses K C) := by
  refine F.ok scClasses (fun vs H Q E h => ?_) (fun cdv A outer s H vs Q E hr h => ?_)
  · obtain ⟨r, k, ns, ps, p, rfl, _⟩ := h
    rfl
  · obtain ⟨r, k, ns, ps, p, rfl, R, M, S, gk, q⟩ := h
    have hu := hu_of hr
    have hr2 := hr.mono (show 2 ≤ 4 by decide)
    have hr3 := hr.mono (show 3 ≤ 4 by decide)
    refine ⟨_, pss_cons (ps_set (i := 2) scClasses.nd rfl (Or.inl rfl) (pe_ix ix_tup (pe_call GP hr3 (by rfl) DP.mg DP.fn.kp DP.bi .nil pass0 (pa_cons (pv 0) pa_nil)) (pv 1) (fun _ _ => rfl)))
      (pss_cons (ps_set (i := 3) scClasses.nd rfl (Or.inr rfl) (pe_call GO hr2 (by rfl) DO.mg DO.fn.kp DO.bi .nil pass0 (pa_cons (pv 0) (pa_cons (pv 2) pa_nil))))
      (pss_cons (ps_set (i := 4) scClasses.nd rfl (Or.inr rfl) (pe_call GM hr (by rfl) DM.mg DM.fn.kp DM.bi .nil pass0 (pa_cons (pv 0) (pa_cons (pv 1) pa_nil))))
      (pss_one (ps_ret (pe_tupleOf (by rfl) B.tuple
        (pe_lc (own := [("mark", 5)]) (g := gName 5) (tt := tYes) rfl scClasses.nd (pi_tup (pv 2)) (blkOk_by (N := ["rule", "part", "marks", "off", "its_period", "mark"]) (sc := defScope sClasses) (by decide +kernel))
          (fun _ _ _ _ _ => pg_name (i := 5) scClasses.nd rfl (Or.inl rfl)) (fun _ _ _ _ _ => pts_nil) (fun _ _ _ _ _ => pe_op op_mod (pe_dget hu (pv 3) (pv 5) (fun _ _ => rfl)) (pv 4)))))))), ?_⟩
    have h8 := M.few
    have hP : ∀ q ∈ ps, Pr (ns.length : Int) q := fun q hq => S.pair q hq
    have hp := List.mem_of_getElem? gk
    have kn := knot_of hP hp
    refine ⟨.ref r, rfl, r, ns, ps, rfl, R, M, S, fun H1 c s1 nc hC => ?_⟩
    obtain ⟨ks, ek, hc, hks⟩ := hC
    have gk' : (ks.map (·.2))[k]? = some p := by rw [ek]; exact gk
    obtain ⟨kk, g, ekk⟩ := map_at gk'
    have hT1 : SqT K H1 kk.1 (p.map V.int) := by rw [ekk]; exact (hks kk (List.mem_of_getElem? g)).sq
    refine ⟨.int (k : Int), rfl, c, _, _, .ref kk.1, rfl, rfl, tupNew hc, atI_nat (by rw [List.getElem?_map, g]; rfl), ?_⟩
    refine ⟨.ref r, rfl, .ref kk.1, rfl, r, kk.1, ns, ps, p, rfl, R.same s1, M, S, hp, hT1, fun H2 d us s2 nd ed O => ?_⟩
    have s02 := s1.trans s2
    refine ⟨.ref r, rfl, .int (k : Int), rfl, r, k, ns, ps, p, rfl, R.same s02, M, S, gk, fun H3 s3 per => ?_⟩
    obtain ⟨hx0, hl0⟩ := part_hd_in hp
    have hxl : hd0 p ∈ lotOf ps ns.length (hd0 p) := by rw [hl0]; exact hx0
    have pos : 0 < perN ps (hd0 p) := per.pos (lot_some hxl)
    have s03 := s02.trans s3
    have hT3 := sqT_same (s2.trans s3) hT1
    have ed3 := s3 _ _ ed
    have l8 := part_len8 h8 hp
    refine ⟨.ref kk.1, rfl, kk.1, rfl, ⟨_, hT3⟩, fun D nD => ?_⟩
    refine lc_tup (K := K) (a := kk.1) (xs := p.map V.int) (fun i H' => Same H3 H' ∧ H' D = some (.lst ((clsL ps ns.length (p.take i)).map V.int))) ⟨same_upd nD, by rw [upd_same]; rfl⟩ (fun i H' _ h => sqT_same h.1 hT3) (fun i x H' hx h => ?_) fun H4 h => ?_
    · obtain ⟨m, gm, rfl⟩ := map_at hx
      have hm := List.mem_of_getElem? gm
      obtain ⟨o, ho, wo, _⟩ := O.get hm
      have eo := valO_at O.nd ho
      refine ⟨rfl, tt_yes ⟨.ref d, rfl, .int m, rfl, d, _, rfl, (by rw [← eo]; exact DGet.k (k := Sum.inl m) (h.1 _ _ ed3)), .int ((perN ps (hd0 p) : Nat) : Int), rfl, _, _, rfl, rfl, (by show (0 : Int) < ((perN ps (hd0 p) : Nat) : Int); omega), _, h.2, ?_, fun b o' z => ?_, ?_⟩⟩
      · rw [List.length_map]
        unfold clsL
        rw [List.length_map, List.length_take]; exact few1 (by omega)
      · rw [upd_ne (ne_of_none z nD)]; exact h.1 b o' z
      · have ec : ((o : Int) % ((perN ps (hd0 p) : Nat) : Int)) = ((clsM ps ns.length m : Nat) : Int) := by
          rw [clsM_of hp hm, ← per.cls wo (kn.back m hm)]
          exact (Int.natCast_emod _ _).symm
        rw [upd_same, List.take_add_one, gm]
        unfold clsL
        rw [List.map_append, List.map_append]
        show some (HO.lst (_ ++ [V.int ((o : Int) % ((perN ps (hd0 p) : Nat) : Int))])) = some (HO.lst (_ ++ [V.int ((clsM ps ns.length m : Nat) : Int)]))
        rw [ec]
    · rw [List.length_map, List.take_of_length_le (Nat.le_refl _)] at h
      refine .inl ⟨D, _, rfl, lstNew h.2, fun c2 nc2 => ?_⟩
      have s4 := s03.trans h.1
      exact q _ c2 (s4.trans (same_upd nc2)) (s4.free nc2) upd_same per
/-! ### class_of -/
theorem scClassOf : FnScope ["rule", "mark", "part", "at"] ["rule", "mark"] (defScope sClassOf) := ⟨rfl, rfl, rfl, by decide +kernel, rfl, by decide +kernel, by decide +kernel⟩
def spClassOf (K : PySem.W.Frag) (C : Addr) : Sp := fun vs H Q _ => ∃ (r : Addr) (m : Int) (ns : List Int) (ps : List (List Int)), vs = [.ref r, .int m] ∧ RuleAt K C H r ns ps ∧ Mir ns ∧ Stp ns ps ∧ (0 ≤ m ∧ m < (ns.length : Int)) ∧ Rch ps m m ∧
  ∀ H', Same H H' → Q (.int ((clsM ps ns.length m : Nat) : Int)) H'
theorem ok_classOf {f C fP fO fM : Addr} {fd dP dO dM : FuncData} (F : Fun K "class_of" "class_of" sClassOf f fd) (DP : DefAt K mg "parts" sParts ["rule"] fP dP) (GP : FnOk P w K mg base CX0 3 fP dP ["rule"] (spParts K C))
    (DO : DefAt K mg "part_of" sPartOf ["rule", "mark"] fO dO) (GO : FnOk P w K mg base CX0 4 fO dO ["rule", "mark"] (spPartOf K C)) (DM : DefAt K mg "classes" sClasses ["rule", "part"] fM dM) (GM : FnOk P w K mg base CX0 5 fM dM ["rule", "part"] (spClasses K C)) : FnOk P w K mg base CX0 6 f fd ["rule", "mark"] (spClassOf K C) := by
  refine F.ok scClassOf (fun vs H Q E h => ?_) (fun cdv A outer s H vs Q E hr h => ?_)
  · obtain ⟨r, m, ns, ps, rfl, _⟩ := h
    rfl
  · obtain ⟨r, m, ns, ps, rfl, R, M, S, hm, rc, q⟩ := h
    have hu5 := un65 hr
    have hr3 := hr.mono (show 3 ≤ 5 by decide)
    have hr4 := hr.mono (show 4 ≤ 5 by decide)
    refine ⟨_, pss_cons (ps_set (i := 2) scClassOf.nd rfl (Or.inl rfl) (pe_call GO hr4 (by rfl) DO.mg DO.fn.kp DO.bi .nil pass0 (pa_cons (pv 0) (pa_cons (pv 1) pa_nil))))
      (pss_cons (ps_set (i := 3) scClassOf.nd rfl (Or.inl rfl) (pe_bmT PySem.F.slot_tuple_index PySem.F.type_tuple_index (mt_indexI hu5) (pe_ix ix_tup (pe_call GP hr3 (by rfl) DP.mg DP.fn.kp DP.bi .nil pass0 (pa_cons (pv 0) pa_nil)) (pv 2) (fun _ _ => rfl)) (pa_cons (pv 1) pa_nil)))
      (pss_one (ps_ret (pe_ix ix_tup (pe_call GM hr (by rfl) DM.mg DM.fn.kp DM.bi .nil pass0 (pa_cons (pv 0) (pa_cons (pv 2) pa_nil))) (pv 3) (fun _ _ => rfl))))), ?_⟩
    refine ⟨.ref r, rfl, .int m, rfl, r, m, ns, ps, rfl, R, M, S, hm, fun H1 v s1 hv => ?_⟩
    rcases hv with ⟨no, _⟩ | ⟨k, gk, _, rfl⟩
    · exact absurd rc no
    have hin := lot_self hm rc
    have hp := List.mem_of_getElem? gk
    obtain ⟨j, hj, ej⟩ := List.getElem_of_mem hin
    have gj : (lotOf ps ns.length m)[j]? = some m := by rw [List.getElem?_eq_getElem hj, ej]
    have fst : ∀ i, i < j → (lotOf ps ns.length m)[i]? ≠ some m := fun i hi e => by
      obtain ⟨hi2, e2⟩ := List.getElem?_eq_some_iff.mp e
      have := List.pairwise_iff_getElem.mp (lot_rise ps ns.length m) i j hi2 hj hi
      rw [e2, ej] at this
      omega
    refine ⟨.ref r, rfl, r, ns, ps, rfl, R.same s1, M, S, fun H2 c s2 nc hC => ?_⟩
    obtain ⟨ks, ek, hc, hks⟩ := hC
    have gk' : (ks.map (·.2))[k]? = some (lotOf ps ns.length m) := by rw [ek]; exact gk
    obtain ⟨kk, g, ekk⟩ := map_at gk'
    have hT := hks kk (List.mem_of_getElem? g)
    rw [← ekk] at hT
    have s02 := s1.trans s2
    refine ⟨.int (k : Int), rfl, c, _, _, .ref kk.1, rfl, rfl, tupNew hc, atI_nat (by rw [List.getElem?_map, g]; rfl), ⟨kk.1, _, rfl, hT⟩, .int m, rfl, kk.1, _, m, j, rfl, rfl, hT.sq, gj, fst, ?_⟩
    refine ⟨.ref r, rfl, .int (k : Int), rfl, r, k, ns, ps, _, rfl, R.same s02, M, S, gk, fun H3 c3 s3 nc3 e3 per => ?_⟩
    refine ⟨.int (j : Nat), rfl, c3, _, _, _, rfl, rfl, tupNew e3, atI_nat (by unfold clsL; rw [List.getElem?_map, List.getElem?_map, gj]; rfl), q H3 (s02.trans s3)⟩
/-! ### turning -/
theorem scTurning : FnScope ["rule", "part", "mark"] ["rule", "part"] (defScope sTurning) := ⟨rfl, rfl, rfl, by decide +kernel, rfl, by decide +kernel, by decide +kernel⟩
noncomputable def turnN (ns : List Int) (ps : List (List Int)) (p : List Int) : Int := ((clsM ps ns.length (hd0 p) : Nat) + (clsM ps ns.length (ns.getD (hd0 p).toNat 0) : Nat) : Int) % ((perN ps (hd0 p) : Nat) : Int)
def spTurning (K : PySem.W.Frag) (C : Addr) : Sp := fun vs H Q _ => ∃ (r : Addr) (k : Nat) (ns : List Int) (ps : List (List Int)) (p : List Int), vs = [.ref r, .int (k : Int)] ∧ RuleAt K C H r ns ps ∧ Mir ns ∧ Stp ns ps ∧ (partsOf ps ns.length)[k]? = some p ∧
  ∀ H', Same H H' → Q (.int (turnN ns ps p)) H'
theorem ok_turning {f C fP fO fM fR : Addr} {fd dP dO dM dR : FuncData} (F : Fun K "turning" "turning" sTurning f fd) (T : Txt K mg C) (DP : DefAt K mg "parts" sParts ["rule"] fP dP) (GP : FnOk P w K mg base CX0 3 fP dP ["rule"] (spParts K C))
    (DO : DefAt K mg "class_of" sClassOf ["rule", "mark"] fO dO) (GO : FnOk P w K mg base CX0 6 fO dO ["rule", "mark"] (spClassOf K C)) (DM : DefAt K mg "period" sPeriod ["rule", "part"] fM dM) (GM : FnOk P w K mg base CX0 4 fM dM ["rule", "part"] (spPeriod K C))
    (FR : Fun K "mirror" "Rule.mirror" sMirrorM fR dR) (bR : Binds K dR ["self", "mark"] []) (mR : Meth K C "mirror" fR) : FnOk P w K mg base CX0 7 f fd ["rule", "part"] (spTurning K C) := by
  have GR : FnOk P w K mg base CX0 1 fR dR ["self", "mark"] (spMirrorM K C) := ok_mirrorM FR T
  refine F.ok scTurning (fun vs H Q E h => ?_) (fun cdv A outer s H vs Q E hr h => ?_)
  · obtain ⟨r, k, ns, ps, p, rfl, _⟩ := h
    rfl
  · obtain ⟨r, k, ns, ps, p, rfl, R, M, S, gk, q⟩ := h
    have hr1 := hr.mono (show 1 ≤ 6 by decide)
    have hr3 := hr.mono (show 3 ≤ 6 by decide)
    have hr4 := hr.mono (show 4 ≤ 6 by decide)
    refine ⟨_, pss_cons (ps_set (i := 2) scTurning.nd rfl (Or.inl rfl) (pe_ix ix_tup (pe_ix ix_tup (pe_call GP hr3 (by rfl) DP.mg DP.fn.kp DP.bi .nil pass0 (pa_cons (pv 0) pa_nil)) (pv 1) (fun _ _ => rfl)) pe_int (fun _ _ => rfl)))
      (pss_one (ps_ret (pe_op op_mod (pe_op op_add (pe_call GO hr (by rfl) DO.mg DO.fn.kp DO.bi .nil pass0 (pa_cons (pv 0) (pa_cons (pv 2) pa_nil))) (pe_call GO hr (by rfl) DO.mg DO.fn.kp DO.bi .nil pass0 (pa_cons (pv 0) (pa_cons (pe_meth (pv 0) T.cl mR GR hr1 bR .nil pass0 (pa_cons (pv 2) pa_nil)) pa_nil))))
        (pe_call GM hr4 (by rfl) DM.mg DM.fn.kp DM.bi .nil pass0 (pa_cons (pv 0) (pa_cons (pv 1) pa_nil)))))), ?_⟩
    have hp := List.mem_of_getElem? gk
    obtain ⟨hx, hl⟩ := part_hd_in hp
    have bx := part_bd hp hx
    have hxl : hd0 p ∈ lotOf ps ns.length (hd0 p) := by rw [hl]; exact hx
    have rx := lot_some hxl
    obtain ⟨mx, gm⟩ : ∃ m, ns[(hd0 p).toNat]? = some m := ⟨_, List.getElem?_eq_getElem (by omega)⟩
    have em : ns.getD (hd0 p).toNat 0 = mx := by rw [List.getD_eq_getElem?_getD, gm]; rfl
    have imx := M.inn mx (List.mem_of_getElem? gm)
    have rmx := lot_some (lot_mirror M S bx.1 gm gm hxl)
    refine ⟨.ref r, rfl, r, ns, ps, rfl, R, M, S, fun H1 c s1 nc hC => ?_⟩
    obtain ⟨ks, ek, hc, hks⟩ := hC
    have gk' : (ks.map (·.2))[k]? = some p := by rw [ek]; exact gk
    obtain ⟨kk, g, ekk⟩ := map_at gk'
    have hT1 : SqT K H1 kk.1 (p.map V.int) := by rw [ekk]; exact (hks kk (List.mem_of_getElem? g)).sq
    have hx0 : (p.map V.int)[0]? = some (.int (hd0 p)) := by
      cases e : p with
      | nil => exact absurd e (part_ne hp)
      | cons x l => rfl
    refine ⟨.int (k : Int), rfl, c, _, _, .ref kk.1, rfl, rfl, tupNew hc, atI_nat (by rw [List.getElem?_map, g]; rfl), kk.1, _, 0, .int (hd0 p), rfl, rfl, hT1, atI_nat (j := 0) hx0, ?_⟩
    refine ⟨.ref r, rfl, .int (hd0 p), rfl, r, hd0 p, ns, ps, rfl, R.same s1, M, S, bx, rx, fun H2 s2 => ?_⟩
    have s02 := s1.trans s2
    obtain ⟨dx, a0, b0, t0, g1, _⟩ := (R.same s02).ex
    have fno := flds_no a0 b0 t0 (m := "mirror") (by decide +kernel) (by decide +kernel) (by decide +kernel)
    refine ⟨.ref r, rfl, .ref r, rfl, r, dx, _, rfl, g1, fno, .int (hd0 p), rfl, r, ns, ps, (hd0 p).toNat, mx, by rw [Int.toNat_of_nonneg bx.1]; rfl, R.same s02, gm, ?_⟩
    refine ⟨r, mx, ns, ps, rfl, R.same s02, M, S, imx, rmx, fun H3 s3 => ⟨_, _, rfl, rfl, ?_⟩⟩
    have s03 := s02.trans s3
    refine ⟨.ref r, rfl, .int (k : Int), rfl, r, k, ns, ps, p, rfl, R.same s03, M, S, gk, fun H4 s4 per => ?_⟩
    have pos := per.pos rx
    refine ⟨_, _, rfl, rfl, (by show (0 : Int) < ((perN ps (hd0 p) : Nat) : Int); omega), ?_⟩
    have z := q H4 (s03.trans s4)
    unfold turnN at z
    rw [em] at z
    exact z
end
end K9
set_option maxHeartbeats 4000000
namespace K9
open PySem PySem.Spec PyProof.Rows L2 RV
/-! ### walks read from the other side -/
theorem wk_mirror {ns : List Int} {ps : List (List Int)} (M : Mir ns) (S : Stp ns ps) : ∀ {n : Nat} {a b : Int}, Wk ps n a b → ∀ {ma mb : Int}, ns[a.toNat]? = some ma → ns[b.toNat]? = some mb → Wk ps n mb ma
  | _, _, _, .nil i, ma, mb, h1, h2 => by
    rw [h1] at h2
    cases h2
    exact .nil _
  | _, _, _, .more (n := n) (j := j) w e, ma, mb, h1, h2 => by
    obtain ⟨x, y, exy, hx, _⟩ := S.pair _ e
    injection exy with e1 _
    subst e1
    obtain ⟨mj, hj⟩ : ∃ m, ns[j.toNat]? = some m := ⟨_, List.getElem?_eq_getElem (by omega)⟩
    have w2 := wk_mirror M S w h1 hj
    have z := (Wk.one (S.mirr _ _ _ _ e hj h2)).trans w2
    rwa [Nat.add_comm] at z
/-- closed walks on the other side are parted by the same -/
theorem per_over {ns : List Int} {ps : List (List Int)} (M : Mir ns) (S : Stp ns ps) {x y z : Int} {g : Nat} (h : Per ps x g) (out : ∃ n, Wk ps n x y) (back : ∃ n, Wk ps n y x) (hz : ns[z.toNat]? = some y) {n : Nat} (w : Wk ps n z z) : g ∣ n := by
  obtain ⟨t, wt⟩ := out
  obtain ⟨r, wr⟩ := back
  exact dvd_mid (h.all _ ((wt.trans (wk_mirror M S w hz hz)).trans wr)) (h.all _ (wt.trans wr))
theorem per_mirror {ns : List Int} {ps : List (List Int)} (M : Mir ns) (S : Stp ns ps) {p p' : List Int} {x x' mx mx' : Int} {g g' : Nat} (k : Knot ps p x) (k' : Knot ps p' x') (h : Per ps x g) (h' : Per ps x' g') (hx : ns[x.toNat]? = some mx) (hx' : ns[x'.toNat]? = some mx') (i1 : mx ∈ p') (i2 : mx' ∈ p) : g = g' :=
  Nat.dvd_antisymm (h'.most g fun n _ w => per_over M S h (k.out _ i2) (k.back _ i2) hx' w) (h.most g' fun n _ w => per_over M S h' (k'.out _ i1) (k'.back _ i1) hx w)
/-- the classes of a mark and its mirror together -/
theorem turn_const {ns : List Int} {ps : List (List Int)} (M : Mir ns) (S : Stp ns ps) {p p' : List Int} {x x' mx m mm : Int} {g : Nat} (k : Knot ps p x) (k' : Knot ps p' x') (h : Per ps x g) (h' : Per ps x' g) (hx : ns[x.toNat]? = some mx) (hm : m ∈ p) (hmm : ns[m.toNat]? = some mm) (i1 : mx ∈ p') (i2 : mm ∈ p') :
    (clsN ps x g m + clsN ps x' g mm) % g = clsN ps x' g mx % g := by
  obtain ⟨n, w⟩ := k.out m hm
  obtain ⟨t, wt⟩ := k'.out mm i2
  have w2 := wk_mirror M S w hx hmm
  rw [← h.cls w (k.back m hm), ← h'.cls wt (k'.back mm i2), ← h'.cls (wt.trans w2) (k'.back mx i1), Nat.mod_mod, Nat.add_comm (n % g), ← Nat.add_mod]
theorem rch_short {ps : List (List Int)} {n : Nat} (hb : ∀ q ∈ ps, Pr (n : Int) q) {x y : Int} (h : Rch ps x y) : ∃ m, 1 ≤ m ∧ m ≤ n + 1 ∧ Wk ps m x y := by
  cases h with
  | one e => exact ⟨1, Nat.le_refl _, by omega, .one e⟩
  | more r e =>
    obtain ⟨t, w⟩ := rch_wk r
    obtain ⟨m', h1, h2⟩ := wk_short hb (Rch.bound hb r).1 w
    exact ⟨m' + 1, by omega, by omega, .more h2 e⟩
end K9
set_option maxHeartbeats 4000000
namespace K9
open PySem PySem.Spec PyProof.Rows L2 RV
/-! ### marks called otherwise -/
/-- other names of n marks -/
structure Nms (n : Nat) (fs : List Int) : Prop where
  len : fs.length = n
  nd : fs.Nodup
  inn : ∀ x ∈ fs, 0 ≤ x ∧ x < (n : Int)
/-- the other name of a mark -/
def nm (fs : List Int) (m : Int) : Int := fs.getD m.toNat 0
theorem nm_at {fs : List Int} {n : Nat} (N : Nms n fs) {m : Int} (h : 0 ≤ m ∧ m < (n : Int)) : fs[m.toNat]? = some (nm fs m) := by
  have hl := N.len
  unfold nm
  rw [List.getD_eq_getElem?_getD, List.getElem?_eq_getElem (by omega)]; rfl
theorem nm_in {fs : List Int} {n : Nat} (N : Nms n fs) {m : Int} (h : 0 ≤ m ∧ m < (n : Int)) : 0 ≤ nm fs m ∧ nm fs m < (n : Int) := N.inn _ (List.mem_of_getElem? (nm_at N h))
theorem nm_inj {fs : List Int} {n : Nat} (N : Nms n fs) {a b : Int} (ha : 0 ≤ a ∧ a < (n : Int)) (hb : 0 ≤ b ∧ b < (n : Int)) (e : nm fs a = nm fs b) : a = b := by
  have h1 := nm_at N ha
  have h2 := nm_at N hb
  rw [e, ← h2] at h1
  have hl := N.len
  have := (List.getElem?_inj (by omega) N.nd).mp h1
  omega
theorem nm_onto {fs : List Int} {n : Nat} (N : Nms n fs) {y : Int} (h : 0 ≤ y ∧ y < (n : Int)) : ∃ m, (0 ≤ m ∧ m < (n : Int)) ∧ nm fs m = y := by
  have hin : y ∈ fs := by
    have sub : (upN n).length ≤ fs.length := by rw [upN_len, N.len]; exact Nat.le_refl _
    refine Classical.byContradiction fun no => ?_
    have z := few_below (n := n) (l := y :: fs) (List.nodup_cons.mpr ⟨no, N.nd⟩) (fun x hx => by
      rcases List.mem_cons.mp hx with e | e
      · rw [e]; exact h
      · exact N.inn x e)
    rw [List.length_cons, N.len] at z
    omega
  obtain ⟨j, hj, e⟩ := List.getElem_of_mem hin
  have hl := N.len
  refine ⟨(j : Int), by omega, ?_⟩
  unfold nm
  rw [List.getD_eq_getElem?_getD, Int.toNat_natCast, List.getElem?_eq_getElem hj, e]; rfl
/-- the rule by the other names -/
structure Ren (fs ns : List Int) (ps : List (List Int)) (ns2 : List Int) (ps2 : List (List Int)) : Prop where
  N : Nms ns.length fs
  len : ns2.length = ns.length
  mir : ∀ m mm : Int, (0 ≤ m ∧ m < (ns.length : Int)) → ns[m.toNat]? = some mm → ns2[(nm fs m).toNat]? = some (nm fs mm)
  ste : ∀ a b : Int, (0 ≤ a ∧ a < (ns.length : Int)) → (0 ≤ b ∧ b < (ns.length : Int)) → ([nm fs a, nm fs b] ∈ ps2 ↔ [a, b] ∈ ps)
  inn : ∀ p ∈ ps2, Pr (ns.length : Int) p
section
variable {fs ns ns2 : List Int} {ps ps2 : List (List Int)}
theorem Ren.wk (R : Ren fs ns ps ns2 ps2) (hP : ∀ p ∈ ps, Pr (ns.length : Int) p) {n : Nat} {a b : Int} (w : Wk ps n a b) (ha : 0 ≤ a ∧ a < (ns.length : Int)) : Wk ps2 n (nm fs a) (nm fs b) := by
  induction w with
  | nil _ => exact .nil _
  | more w e ih => exact .more (ih ha) ((R.ste _ _ (w.bound hP ha) ((Wk.one e).bound hP (w.bound hP ha))).mpr e)
theorem Ren.kw (R : Ren fs ns ps ns2 ps2) : ∀ {n : Nat} {a y : Int}, Wk ps2 n (nm fs a) y → (0 ≤ a ∧ a < (ns.length : Int)) → ∃ b, (0 ≤ b ∧ b < (ns.length : Int)) ∧ nm fs b = y ∧ Wk ps n a b
  | 0, a, y, w, ha => by
    have e := w.zero
    exact ⟨a, ha, e, .nil a⟩
  | n + 1, a, y, w, ha => by
    cases w with
    | more w e =>
      obtain ⟨b, hb, eb, wb⟩ := R.kw w ha
      obtain ⟨x, y', exy, hx, hy⟩ := R.inn _ e
      injection exy with e1 e2
      injection e2 with e2 _
      subst e1 e2
      obtain ⟨c, hc, ec⟩ := nm_onto R.N hy
      subst eb ec
      exact ⟨c, hc, rfl, .more wb ((R.ste _ _ hb hc).mp e)⟩
theorem Ren.wk_iff (R : Ren fs ns ps ns2 ps2) (hP : ∀ p ∈ ps, Pr (ns.length : Int) p) {n : Nat} {a b : Int} (ha : 0 ≤ a ∧ a < (ns.length : Int)) (hb : 0 ≤ b ∧ b < (ns.length : Int)) : Wk ps2 n (nm fs a) (nm fs b) ↔ Wk ps n a b := by
  refine ⟨fun w => ?_, fun w => R.wk hP w ha⟩
  obtain ⟨c, hc, ec, wc⟩ := R.kw w ha
  rw [nm_inj R.N hc hb ec] at wc
  exact wc
theorem Ren.rch (R : Ren fs ns ps ns2 ps2) (hP : ∀ p ∈ ps, Pr (ns.length : Int) p) {a b : Int} (ha : 0 ≤ a ∧ a < (ns.length : Int)) (hb : 0 ≤ b ∧ b < (ns.length : Int)) : Rch ps2 (nm fs a) (nm fs b) ↔ Rch ps a b := by
  constructor
  · intro r
    obtain ⟨n, w⟩ := rch_wk r
    exact ((R.wk_iff hP ha hb).mp w).lead
  · intro r
    obtain ⟨n, w⟩ := rch_wk r
    exact ((R.wk_iff hP ha hb).mpr w).lead
theorem Ren.lot (R : Ren fs ns ps ns2 ps2) (hP : ∀ p ∈ ps, Pr (ns.length : Int) p) {a b : Int} (ha : 0 ≤ a ∧ a < (ns.length : Int)) (hb : 0 ≤ b ∧ b < (ns.length : Int)) : nm fs b ∈ lotOf ps2 ns.length (nm fs a) ↔ b ∈ lotOf ps ns.length a := by
  rw [mem_lot, mem_lot, R.rch hP ha hb, R.rch hP hb ha]
  exact ⟨fun h => ⟨hb, h.2⟩, fun h => ⟨nm_in R.N hb, h.2⟩⟩
/-- who stands in the lot of a mark by its other name -/
theorem Ren.mem_lot (R : Ren fs ns ps ns2 ps2) (hP : ∀ p ∈ ps, Pr (ns.length : Int) p) {a y : Int} (ha : 0 ≤ a ∧ a < (ns.length : Int)) : y ∈ lotOf ps2 ns.length (nm fs a) ↔ y ∈ (lotOf ps ns.length a).map (nm fs) := by
  constructor
  · intro h
    have hy := (RV.mem_lot.mp h).1
    obtain ⟨b, hb, rfl⟩ := nm_onto R.N hy
    exact List.mem_map_of_mem ((R.lot hP ha hb).mp h)
  · intro h
    obtain ⟨b, hb, rfl⟩ := List.mem_map.mp h
    exact (R.lot hP ha (RV.mem_lot.mp hb).1).mpr hb
/-- periods are the same -/
theorem Ren.per (R : Ren fs ns ps ns2 ps2) (hP : ∀ p ∈ ps, Pr (ns.length : Int) p) {x : Int} {g : Nat} (hx : 0 ≤ x ∧ x < (ns.length : Int)) : Per ps2 (nm fs x) g ↔ Per ps x g := by
  constructor
  · intro h
    exact ⟨fun n w => h.all n ((R.wk_iff hP hx hx).mpr w), fun d hd => h.most d fun n hn w => hd n hn ((R.wk_iff hP hx hx).mp w)⟩
  · intro h
    exact ⟨fun n w => h.all n ((R.wk_iff hP hx hx).mp w), fun d hd => h.most d fun n hn w => hd n hn ((R.wk_iff hP hx hx).mpr w)⟩
end
end K9
set_option maxHeartbeats 4000000
/-! sorted(l), l a list of unlike tuples of ints of any lengths, none of them empty -/
namespace RV
open PySem PySem.Spec PyProof.Rows L2 TS
section
variable {P : Program} {w : World} {A : Around} {E : Value → Shared → Prop} {s : Shared}
theorem sorted_listA {a : Addr} {L : List (Addr × List Int)} {Q : Value → Shared → Prop} (ρ : List Int → Int) (hl : s.heap.IsList a (L.map fun q => Value.ref q.1).toArray) (tup : ∀ q ∈ L, IsT P w s.heap q.2 q.1) (nd : (L.map (·.2)).Nodup) (few64 : L.length < 64)
    (hne : ∀ p ∈ L, p.2 ≠ []) (hr : ∀ p ∈ L, ∀ q ∈ L, lexA p.2 q.2 = decide (ρ p.2 < ρ q.2))
    (hQ : ∀ (h' : Heap) (d : Addr) (out : Array Value) (c : Nat) (L' : List (Addr × List Int)), (∀ b o, s.heap.get? b = some o → h'.get? b = some o) → s.heap.objs.size ≤ d → h'.get? d = some (seqObj "list" out c) →
      out.toList = L'.map (fun q => Value.ref q.1) → L'.Perm L → L'.Pairwise (fun q r => ρ q.2 ≤ ρ r.2) → Q (.ref d) { s with heap := h' }) : wpAny (model P w) A (call (.builtin "sorted") [.ref a]) Q E s := by
  have same1 : ∀ q ∈ L, ∀ r ∈ L, q.1 = r.1 → q = r := fun q hq r hr e => by
    have z := tup q hq
    rw [e] at z
    exact Prod.ext e (z.inj (tup r hr))
  have nodL : L.Nodup := nodup_of_map nd
  have nodR : (L.map fun q => Value.ref q.1).Nodup := List.pairwise_map.mpr (List.Pairwise.imp_of_mem (fun {q r} hq hr ne e => ne (same1 q hq r hr (Value.ref.inj e))) nodL)
  have lvs : (L.map fun q => Value.ref q.1).length < 64 := by rw [List.length_map]; exact few64
  have hz : (L.map fun q => Value.ref q.1).length ≤ sizeLine := by rw [sizeLine_eq]; omega
  have from_ : ∀ v ∈ L.map (fun q => Value.ref q.1), ∃ q ∈ L, v = Value.ref q.1 := fun v hv => by
    obtain ⟨q, hq, e⟩ := List.mem_map.mp hv
    exact ⟨q, hq, e.symm⟩
  generalize ev : L.map (fun q => Value.ref q.1) = vs at hl lvs hz from_ nodR
  refine Calls.call_function_entry kind_sorted plain_sorted entry_sorted (args_sorted1 _) (show wpAny _ _ _ _ _ _ from ?_)
  unfold Builtin.«sorted»
  refine wpAny_bind (m := checkCount "sorted" 1 1 _) (wpAny_pure (wpAny_bind (collect_list hl (wpAny_bind (wpAny_newList ?_ hz)) hz)))
  have hsz : ((s.heap.push (seqObj "list" #[] 0)).update s.heap.objs.size (Obj.mapSeq (· ++ vs.toArray))).objs.size = s.heap.objs.size + 1 := (Heap.size_update ..).trans (size_push' ..)
  have hoL : (((s.heap.push (seqObj "list" #[] 0)).update s.heap.objs.size (Obj.mapSeq (· ++ vs.toArray))).push (seqObj "list" vs.toArray 0)).get? (s.heap.objs.size + 1) = some (seqObj "list" vs.toArray 0) := hsz ▸ Heap.get?_push_size _ rfl
  have keep : ∀ b o, s.heap.get? b = some o → b < s.heap.objs.size ∧ (((s.heap.push (seqObj "list" #[] 0)).update s.heap.objs.size (Obj.mapSeq (· ++ vs.toArray))).push (seqObj "list" vs.toArray 0)).get? b = some o := fun b o z => by
    have hlt := Heap.lt_size z
    refine ⟨hlt, Heap.get?_push_of_some _ ?_⟩
    exact (Heap.get?_update_ne _ _ _ _ (Nat.ne_of_lt hlt)).trans (Heap.get?_push_of_some _ z)
  show wpAny _ _ _ _ _ { s with heap := ((s.heap.push (seqObj "list" #[] 0)).update s.heap.objs.size (Obj.mapSeq (· ++ vs.toArray))).push (seqObj "list" vs.toArray 0) }
  rw [hsz]
  generalize ((s.heap.push (seqObj "list" #[] 0)).update s.heap.objs.size (Obj.mapSeq (· ++ vs.toArray))).push (seqObj "list" vs.toArray 0) = h1 at hoL keep ⊢
  have tups : ∀ q ∈ L, TupInts h1 (.ref q.1) q.2 := fun q hq => tupInts_of (P := P) (w := w) (isT_keep (tup q hq) fun b u e => (keep b u e).2)
  refine wpAny_bind (wpAny_holding (call_sort_any (s := { s with heap := h1 }) ρ hoL lvs (fun v hv => ?_) (fun u hu v hv ns ms tu tv => ?_) fun out a1 a2 => ?_))
  · obtain ⟨q, hq, rfl⟩ := from_ v hv
    exact ⟨q.2, tups q hq, hne q hq⟩
  · obtain ⟨q, hq, rfl⟩ := from_ u hu
    obtain ⟨r, hr', rfl⟩ := from_ v hv
    have e1 : ns = q.2 := tu.ints.symm.trans (tups q hq).ints
    have e2 : ms = r.2 := tv.ints.symm.trans (tups r hr').ints
    subst e1 e2
    exact hr q hq r hr'
  · obtain ⟨c, hc⟩ := sortedHeap_at (vs := vs) (out := out) hoL
    obtain ⟨L', e', hs'⟩ := refs_some L out.toList fun v hv => from_ v (a1.mem_iff.mp hv)
    have pm' : (L'.map fun q => Value.ref q.1).Perm (L.map fun q => Value.ref q.1) := by rw [← e', ev]; exact a1
    have pL : L'.Perm L := by
      refine (List.perm_ext_iff_of_nodup (nodup_of_map (pm'.nodup_iff.mpr (ev ▸ nodR))) nodL).mpr fun q => ⟨hs' q, fun hq => ?_⟩
      obtain ⟨r, hr', e⟩ := List.mem_map.mp (pm'.mem_iff.mpr (List.mem_map.mpr ⟨q, hq, rfl⟩))
      rw [← same1 r (hs' r hr') q hq (Value.ref.inj e)]; exact hr'
    have pw : L'.Pairwise (fun q r => ρ q.2 ≤ ρ r.2) := by
      rw [e'] at a2
      refine List.Pairwise.imp_of_mem (fun {q r} hq hr' z => ?_) (List.pairwise_map.mp a2)
      have z' : ρ (intsOf h1 (.ref q.1)) ≤ ρ (intsOf h1 (.ref r.1)) := z
      rwa [(tups q (hs' q hq)).ints, (tups r (hs' r hr')).ints] at z'
    refine wpAny_pure ⟨_, rfl, hQ _ (s.heap.objs.size + 1) out c L' (fun b u e => ?_) (Nat.le_succ _) hc e' pL pw⟩
    have lt := (keep b u e).1
    have lt1 := Heap.lt_size hoL
    show (sortedHeap h1 (s.heap.objs.size + 1) vs out).get? b = some u
    rw [sortedHeap_old (Nat.ne_of_lt (Nat.lt_succ_of_lt lt)) (Nat.lt_trans (Nat.lt_succ_of_lt lt) lt1)]
    exact (keep b u e).2
end
section
variable {X : Cx}
def rSortL (K : PySem.W.Frag) : List V → Hp → VK → Prop := fun vs H Q => ∃ (a : Addr) (L : List (Addr × List Int)) (ρ : List Int → Int), vs = [V.ref a] ∧ SqL K H a (L.map fun q => V.ref q.1) ∧ (∀ p ∈ L, SqT K H p.1 (p.2.map V.int)) ∧ (L.map (·.2)).Nodup ∧ L.length < 64 ∧
  (∀ p ∈ L, p.2 ≠ []) ∧ (∀ p ∈ L, ∀ q ∈ L, lexA p.2 q.2 = decide (ρ p.2 < ρ q.2)) ∧
  ∀ (L' : List (Addr × List Int)) (p : Addr), L'.Perm L → L'.Pairwise (fun q r => ρ q.2 ≤ ρ r.2) → H p = none → Q (.ref p) (upd H p (.lst (L'.map fun q => V.ref q.1)))
theorem cr_sortedL : CallR X (.builtin "sorted") (rSortL X.K) := by
  intro pins s σ H vs us Q I r h
  obtain ⟨a, L, ρ, rfl, hs, hk, nd, few, hne, hr, q⟩ := h
  obtain ⟨its, rv, hl, hz⟩ := I.list hs
  rw [Vals.ref1 r]
  have ei : its = L.map fun q => Value.ref q.1 := by
    clear hs hk nd few hne hr q hl hz
    induction L generalizing its with
    | nil => cases rv; rfl
    | cons k L ih =>
      cases rv with
      | cons r1 r2 =>
        cases r1
        rw [List.map_cons, ih _ r2]
  subst ei
  refine sorted_listA ρ hl.isList (fun p hp => I.isT (hk p hp)) nd few hne hr fun h' d out c L' kp hd hg hout pm pw => ?_
  have len : (L'.map fun q => V.ref q.1).length ≤ sizeLine := by rw [List.length_map, sizeLine_eq, pm.length_eq]; omega
  have vals : Vals (L'.map fun q => V.ref q.1) out.toList := by rw [hout]; exact vals_of_refs L'
  exact ⟨.ref d, upd H d (.lst (L'.map fun q => V.ref q.1)), I.laid (t' := s.toks) kp hd ⟨len, out.toList, c, vals, by simpa using hg⟩, rfl, q L' d pm pw (I.hok.fresh hd)⟩
end
end RV
set_option maxHeartbeats 4000000
namespace K9
open PySem PySem.Spec PyProof.Rows L2 RV
/-! ### parts by the other names -/
theorem per_knot {ps : List (List Int)} {x y : Int} {g g' : Nat} (h : Per ps x g) (h' : Per ps y g') (out : ∃ n, Wk ps n x y) (back : ∃ n, Wk ps n y x) : g = g' := by
  obtain ⟨t, wt⟩ := out
  obtain ⟨r, wr⟩ := back
  refine Nat.dvd_antisymm (h'.most g fun n _ w => dvd_mid (h.all _ ((wt.trans w).trans wr)) (h.all _ (wt.trans wr))) (h.most g' fun n _ w => dvd_mid (h'.all _ ((wr.trans w).trans wt)) (h'.all _ (wr.trans wt)))
/-- the part of the other rule -/
noncomputable def pf (ps2 : List (List Int)) (n : Nat) (fs p : List Int) : List Int := lotOf ps2 n (nm fs (hd0 p))
/-- by how much the classes are others -/
noncomputable def shf (ps2 : List (List Int)) (n : Nat) (fs p : List Int) : Nat := clsM ps2 n (nm fs (hd0 p))
section
variable {fs ns ns2 : List Int} {ps ps2 : List (List Int)} {p : List Int}
theorem Ren.pf_mem (R : Ren fs ns ps ns2 ps2) (hP : ∀ p ∈ ps, Pr (ns.length : Int) p) (hp : p ∈ partsOf ps ns.length) {y : Int} : y ∈ pf ps2 ns.length fs p ↔ y ∈ p.map (nm fs) := by
  obtain ⟨hx, hl⟩ := part_hd_in hp
  unfold pf
  rw [R.mem_lot hP (part_bd hp hx), hl]
theorem Ren.pf_part (R : Ren fs ns ps ns2 ps2) (hP : ∀ p ∈ ps, Pr (ns.length : Int) p) (hp : p ∈ partsOf ps ns.length) : pf ps2 ns.length fs p ∈ partsOf ps2 ns.length := by
  obtain ⟨hx, hl⟩ := part_hd_in hp
  exact lot_part ((R.pf_mem hP hp).mpr (List.mem_map_of_mem hx))
theorem Ren.pf_inj (R : Ren fs ns ps ns2 ps2) (hP : ∀ p ∈ ps, Pr (ns.length : Int) p) {q : List Int} (hp : p ∈ partsOf ps ns.length) (hq : q ∈ partsOf ps ns.length) (e : pf ps2 ns.length fs p = pf ps2 ns.length fs q) : p = q := by
  obtain ⟨hx, hl⟩ := part_hd_in hp
  have z := (R.pf_mem hP hp).mpr (List.mem_map_of_mem hx)
  rw [e] at z
  obtain ⟨y, hy, ey⟩ := List.mem_map.mp ((R.pf_mem hP hq).mp z)
  have := nm_inj R.N (part_bd hq hy) (part_bd hp hx) ey
  subst this
  rw [← part_lot hq hy, hl]
theorem Ren.pf_onto (R : Ren fs ns ps ns2 ps2) (hP : ∀ p ∈ ps, Pr (ns.length : Int) p) {q : List Int} (hq : q ∈ partsOf ps2 ns.length) : ∃ p ∈ partsOf ps ns.length, pf ps2 ns.length fs p = q := by
  obtain ⟨hx, hl⟩ := part_hd_in hq
  obtain ⟨m, hm, em⟩ := nm_onto R.N (part_bd hq hx)
  rw [← em] at hl
  have hx' : nm fs m ∈ lotOf ps2 ns.length (nm fs m) := by rw [hl, em]; exact hx
  have h1 := (R.lot hP hm hm).mp hx'
  have hp := lot_part h1
  refine ⟨_, hp, ?_⟩
  have z := (R.pf_mem hP hp).mpr (List.mem_map_of_mem h1)
  rw [← part_lot (R.pf_part hP hp) z, hl]
/-- the sorted other names of a part are the part of the other rule -/
theorem Ren.pf_sort (R : Ren fs ns ps ns2 ps2) (hP : ∀ p ∈ ps, Pr (ns.length : Int) p) (hp : p ∈ partsOf ps ns.length) {zs : List Int} (pm : zs.Perm (p.map (nm fs))) (up : zs.Pairwise (· ≤ ·)) : zs = pf ps2 ns.length fs p := by
  have nd : zs.Nodup := by
    rw [pm.nodup_iff]
    obtain ⟨m, hm, hh, rfl⟩ := mem_parts.mp hp
    have rise := lot_rise ps ns.length m
    rw [List.nodup_iff_pairwise_ne, List.pairwise_map]
    exact rise.imp_of_mem fun {a b} ha hb h e => by
      have := nm_inj R.N (RV.mem_lot.mp ha).1 (RV.mem_lot.mp hb).1 e
      omega
  have up2 : zs.Pairwise (· < ·) := (up.and nd).imp fun h => by omega
  refine sorted_eq (f := fun x => x) up2 (lot_rise _ _ _) fun x => ?_
  rw [pm.mem_iff]
  exact (R.pf_mem hP hp).symm
/-- all parts sorted -/
theorem Ren.all_sort (R : Ren fs ns ps ns2 ps2) (hP : ∀ p ∈ ps, Pr (ns.length : Int) p) {L : List (List Int)} (pm : L.Perm ((partsOf ps ns.length).map (pf ps2 ns.length fs))) (up : L.Pairwise fun q r => hd0 q ≤ hd0 r) : L = partsOf ps2 ns.length := by
  have nd : L.Nodup := by
    rw [pm.nodup_iff, List.nodup_iff_pairwise_ne, List.pairwise_map]
    exact List.Pairwise.imp_of_mem (fun {a b} ha hb h e => h (R.pf_inj hP ha hb e)) (List.nodup_iff_pairwise_ne.mp (parts_nodup ps ns.length))
  have mem : ∀ x, x ∈ L ↔ x ∈ partsOf ps2 ns.length := fun x => by
    rw [pm.mem_iff]
    constructor
    · intro h
      obtain ⟨p, hp, rfl⟩ := List.mem_map.mp h
      exact R.pf_part hP hp
    · intro h
      obtain ⟨p, hp, e⟩ := R.pf_onto hP h
      rw [← e]; exact List.mem_map_of_mem hp
  have up2 : L.Pairwise fun q r => hd0 q < hd0 r := (up.and nd).imp_of_mem fun {a b} ha hb h => by
    have : hd0 a ≠ hd0 b := fun e => h.2 (part_hd ((mem a).mp ha) ((mem b).mp hb) e)
    omega
  exact sorted_eq (f := hd0) up2 (parts_rise _ _) mem
theorem lex_hd {n : Nat} {p q : List Int} (hp : p ∈ partsOf ps n) (hq : q ∈ partsOf ps n) : lexA p q = decide (hd0 p < hd0 q) := by
  by_cases e : hd0 p = hd0 q
  · have z := part_hd hp hq e
    subst z
    rw [decide_eq_false (Int.lt_irrefl _)]
    have irr : ∀ l : List Int, lexA l l = false := fun l => by
      induction l with
      | nil => rfl
      | cons x l ih => unfold lexA; rw [if_pos rfl]; exact ih
    exact irr p
  · cases p with
    | nil => exact absurd rfl (part_ne hp)
    | cons x l =>
      cases q with
      | nil => exact absurd rfl (part_ne hq)
      | cons y m =>
        have e : ¬ x = y := e
        unfold lexA
        rw [if_neg e]
        rfl
/-- a mark's class by the other names -/
theorem Ren.cls (R : Ren fs ns ps ns2 ps2) (hP : ∀ p ∈ ps, Pr (ns.length : Int) p) (hp : p ∈ partsOf ps ns.length) {g : Nat} (h : Per ps (hd0 p) g) (h2 : Per ps2 (hd0 (pf ps2 ns.length fs p)) g) {m : Int} (hm : m ∈ p) :
    clsM ps2 ns.length (nm fs m) % g = (shf ps2 ns.length fs p + clsM ps ns.length m) % g := by
  have hp2 := R.pf_part hP hp
  obtain ⟨hx, hl⟩ := part_hd_in hp
  have kn := knot_of hP hp
  have kn2 := knot_of R.inn hp2
  have ix := (R.pf_mem hP hp).mpr (List.mem_map_of_mem hx)
  have im := (R.pf_mem hP hp).mpr (List.mem_map_of_mem hm)
  unfold shf
  rw [clsM_of hp2 ix, clsM_of hp2 im, clsM_of hp hm, h.is, h2.is]
  obtain ⟨t, wt⟩ := kn.out m hm
  obtain ⟨r, wr⟩ := kn2.out _ ix
  have w2 := R.wk hP wt (part_bd hp hx)
  rw [← h2.cls wr (kn2.back _ ix), ← h2.cls (wr.trans w2) (kn2.back _ im), ← h.cls wt (kn.back _ hm), Nat.mod_mod, ← Nat.add_mod]
theorem Ren.per_of (R : Ren fs ns ps ns2 ps2) (hP : ∀ p ∈ ps, Pr (ns.length : Int) p) (hp : p ∈ partsOf ps ns.length) {g g2 : Nat} (h : Per ps (hd0 p) g) (h2 : Per ps2 (hd0 (pf ps2 ns.length fs p)) g2) : g = g2 := by
  have hp2 := R.pf_part hP hp
  obtain ⟨hx, hl⟩ := part_hd_in hp
  have kn2 := knot_of R.inn hp2
  have ix := (R.pf_mem hP hp).mpr (List.mem_map_of_mem hx)
  exact per_knot ((R.per hP (part_bd hp hx)).mpr h) h2 (kn2.back _ ix) (kn2.out _ ix)
/-- the shift as the law tells it -/
theorem shift_is {a b s g : Nat} (pos : 0 < g) (sg : s < g) (h : a % g = (s + b) % g) : ((a : Int) - (b : Int)) % (g : Int) = (s : Int) := by
  have z : ((a : Int) - b) % (g : Int) = (s : Int) % (g : Int) := by
    refine Int.emod_eq_emod_iff_emod_sub_eq_zero.mpr ?_
    have e : ((a : Int)) % (g : Int) = ((s + b : Nat) : Int) % (g : Int) := by rw [← Int.natCast_emod, ← Int.natCast_emod, h]
    have e2 := Int.emod_eq_emod_iff_emod_sub_eq_zero.mp e
    rw [show (a : Int) - b - s = (a : Int) - ((s + b : Nat) : Int) by omega]
    exact e2
  rw [z]
  exact Int.emod_eq_of_lt (by omega) (by omega)
theorem cls_lt {n : Nat} {g : Nat} {m : Int} (hp : p ∈ partsOf ps n) (hm : m ∈ p) (h : Per ps (hd0 p) g) (pos : 0 < g) (hP : ∀ p ∈ ps, Pr (n : Int) p) : clsM ps n m < g := by
  have kn := knot_of hP hp
  obtain ⟨t, wt⟩ := kn.out m hm
  rw [clsM_of hp hm, h.is, ← h.cls wt (kn.back m hm)]
  exact Nat.mod_lt _ pos
/-- a mark and its mirror: the turning -/
theorem turn_any (M : Mir ns) (S : Stp ns ps) {p' : List Int} {g : Nat} (hp : p ∈ partsOf ps ns.length) (hp' : p' ∈ partsOf ps ns.length) (h : Per ps (hd0 p) g) (h' : Per ps (hd0 p') g) {x mx m mm : Int} (hx : x ∈ p) (hmx : ns[x.toNat]? = some mx) (i1 : mx ∈ p') (hm : m ∈ p) (hmm : ns[m.toNat]? = some mm) : turnN ns ps p = ((clsM ps ns.length m : Nat) + (clsM ps ns.length mm : Nat) : Int) % (g : Int) := by
  have hP : ∀ q ∈ ps, Pr (ns.length : Int) q := fun q hq => S.pair q hq
  have bx := part_bd hp hx
  have bm := part_bd hp hm
  obtain ⟨h0, l0⟩ := part_hd_in hp
  have b0 := part_bd hp h0
  obtain ⟨m0, hm0⟩ : ∃ z, ns[(hd0 p).toNat]? = some z := ⟨_, List.getElem?_eq_getElem (by omega)⟩
  have mir_in : ∀ y my : Int, y ∈ p → ns[y.toNat]? = some my → my ∈ p' := fun y my hy hmy => by
    have hl := part_lot hp hx
    rw [← hl] at hy
    have z := lot_mirror M S bx.1 hmx hmy hy
    rwa [part_lot hp' i1] at z
  have k := knot_of hP hp
  have k' := knot_of hP hp'
  have j0 := mir_in _ _ h0 hm0
  have jm := mir_in _ _ hm hmm
  have t1 := turn_const M S k k' h h' hm0 hm hmm j0 jm
  have t2 := turn_const M S k k' h h' hm0 h0 hm0 j0 j0
  unfold turnN
  rw [show ns.getD (hd0 p).toNat 0 = m0 by rw [List.getD_eq_getElem?_getD, hm0]; rfl, h.is, ← Int.natCast_add, ← Int.natCast_add, ← Int.natCast_emod, ← Int.natCast_emod, clsM_of hp h0, clsM_of hp hm, clsM_of hp' j0, clsM_of hp' jm, h.is, h'.is, t1, t2]
/-- turnings by the other names -/
theorem Ren.turn (R : Ren fs ns ps ns2 ps2) (M : Mir ns) (S : Stp ns ps) (M2 : Mir ns2) (S2 : Stp ns2 ps2) {p' : List Int} {g : Nat} (hp : p ∈ partsOf ps ns.length) (hp' : p' ∈ partsOf ps ns.length) (h : Per ps (hd0 p) g) (h' : Per ps (hd0 p') g) (h2 : Per ps2 (hd0 (pf ps2 ns.length fs p)) g) (h2' : Per ps2 (hd0 (pf ps2 ns.length fs p')) g)
    {x mx : Int} (hx : x ∈ p) (hmx : ns[x.toNat]? = some mx) (i1 : mx ∈ p') : turnN ns2 ps2 (pf ps2 ns.length fs p) = (turnN ns ps p + ((shf ps2 ns.length fs p : Nat) + (shf ps2 ns.length fs p' : Nat) : Int)) % (g : Int) := by
  have hP : ∀ q ∈ ps, Pr (ns.length : Int) q := fun q hq => S.pair q hq
  have hp2 := R.pf_part hP hp
  have hp2' := R.pf_part hP hp'
  have bx := part_bd hp hx
  have ix := (R.pf_mem hP hp).mpr (List.mem_map_of_mem hx)
  have imx := (R.pf_mem hP hp').mpr (List.mem_map_of_mem i1)
  have e2 := R.mir x mx bx hmx
  have c1 := R.cls hP hp h h2 hx
  have c2 := R.cls hP hp' h' h2' i1
  rw [turn_any M S hp hp' h h' hx hmx i1 hx hmx]
  have eT := turn_any (p := pf ps2 ns.length fs p) (p' := pf ps2 ns.length fs p') M2 S2 (by rw [R.len]; exact hp2) (by rw [R.len]; exact hp2') h2 h2' ix e2 imx ix e2
  rw [R.len] at eT
  rw [eT]
  generalize clsM ps2 ns.length (nm fs x) = a at c1 ⊢
  generalize clsM ps2 ns.length (nm fs mx) = b at c2 ⊢
  generalize clsM ps ns.length x = c at c1 ⊢
  generalize clsM ps ns.length mx = d at c2 ⊢
  generalize shf ps2 ns.length fs p = s at c1 ⊢
  generalize shf ps2 ns.length fs p' = t at c2 ⊢
  have e : (a + b) % g = ((c + d) % g + (s + t)) % g := by
    rw [Nat.add_mod a b, c1, c2, ← Nat.add_mod, Nat.mod_add_mod]
    congr 1
    omega
  have e3 : (((a + b) % g : Nat) : Int) = ((((c + d) % g + (s + t)) % g : Nat) : Int) := by rw [e]
  rw [Int.natCast_emod, Int.natCast_emod, Int.natCast_add, Int.natCast_add, Int.natCast_add, Int.natCast_emod, Int.natCast_add] at e3
  exact e3
end
end K9
set_option maxHeartbeats 4000000
namespace K9
open PySem PySem.Spec PyProof.Rows L2 RV
theorem perm_erase {ls : List Int} : ∀ {r : Nat} {y : Int}, ls[r]? = some y → ls.Perm (y :: ls.eraseIdx r) := by
  induction ls with
  | nil => intro r y h; cases h
  | cons x l ih =>
    intro r y h
    cases r with
    | zero => cases h; exact List.Perm.refl _
    | succ r => exact ((ih h).cons x).trans (List.Perm.swap y x _)
section
variable {P : Program} {w : World} {K : PySem.W.Frag} {mg : Str → Option Value} {base : Heap}
/-! ### _law_names -/
abbrev nNames : List Str := ["_law_pail_here", "_law_many", "_law_left", "_law_found", "_law_mark"]
theorem scNames : FnScope nNames ["_law_pail_here", "_law_many"] (defScope sNames) := ⟨rfl, rfl, rfl, by decide +kernel, rfl, by decide +kernel, by decide +kernel⟩
def spNames (K : PySem.W.Frag) : Sp := fun vs H Q _ => ∃ (p : Addr) (t m : Nat), vs = [.ref p, .int (m : Int)] ∧ PailAt H p t ∧ t ≤ 1500 ∧ 1 ≤ m ∧ m ≤ 8 ∧
  ∀ (H' : Hp) (u : Addr) (t' : Nat) (fs : List Int), PailAt H' p t' → t' ≤ t + 10 → But p H H' → u ≠ p → H u = none → H' u = some (.lst (fs.map V.int)) → Nms m fs → Q (.ref u) H'
theorem ok_names {f fD : Addr} {fd fdD : FuncData} (F : Fun K "_law_names" "_law_names" sNames f fd) (DD : DefAt K mg "_law_draw" sDraw ["_law_pail_here", "_law_many"] fD fdD) (B : Bare mg) : FnOk P w K mg base CX0 2 f fd ["_law_pail_here", "_law_many"] (spNames K) := by
  have GD : FnOk P w K mg base CX0 1 fD fdD ["_law_pail_here", "_law_many"] spDraw := ok_draw DD.fn
  refine F.ok scNames (fun vs H Q E h => ?_) (fun cdv A outer s H vs Q E hr h => ?_)
  · obtain ⟨p, t, m, rfl, _⟩ := h
    rfl
  · obtain ⟨p, t, m, rfl, hp, ht, m1, m8, q⟩ := h
    refine ⟨_, pss_cons (ps_par (i := 2) (j := 3) (by rfl) scNames.nd rfl rfl (by decide) rfl rfl (pa_cons (pe_listRg rfl (by rfl) B.list (prg_1 (by rfl) B.range (pv 1))) (pa_cons (pe_lst pa_nil) pa_nil)) (by rfl))
      (pss_cons (ps_for PassesOwn.never rfl (pi_range1 (by rfl) B.range (pa_cons (pv 1) pa_nil)) (pg_name (i := 4) scNames.nd rfl (Or.inl rfl))
        (pss_one (ps_expr (pe_bm PySem.F.plainAttrs_list PySem.F.slot_list_append PySem.F.type_list_append mt_append (pv 3) (pa_cons (pe_bm PySem.F.plainAttrs_list PySem.F.slot_list_pop PySem.F.type_list_pop mt_popAt (pv 2) (pa_cons (pe_call GD hr (by rfl) DD.mg DD.fn.kp DD.bi .nil pass0 (pa_cons (pv 0) (pa_cons (pe_callB call_len_seq (by rfl) B.len PySem.boot_len (pa_cons (pv 2) pa_nil)) pa_nil))) pa_nil)) pa_nil)))))
      (pss_one (ps_ret (pv 3)))), ?_⟩
    refine ⟨.int (m : Int), rfl, (m : Int), rfl, RgOk.of_le (by omega) (by omega) (by omega) (by omega), fun a na => ⟨Nat.zero_le _, fun b nb => ?_⟩⟩
    refine ⟨.ref a, .ref b, rfl, ?_⟩
    have hab : a ≠ b := ne_of_none upd_same nb
    have hap : a ≠ p := pail_ne hp na
    have hbp : b ≠ p := pail_ne (pail_new hp na) nb
    have nbH : H b = none := (same_upd na).free nb
    have s0 := (same_upd (o := .lst (rgV 0 (m : Int))) na).trans (same_upd (o := .lst []) nb)
    dsimp only
    refine ⟨.int (m : Int), rfl, (m : Int), rfl, by omega, by omega, ?_⟩
    refine for_range (lo := 0) (n := (m : Int).toNat) (fun i σ H' => ∃ (y4 : Option V) (t' : Nat) (fs ls : List Int), σ = [some (.ref p), some (.int (m : Int)), some (.ref a), some (.ref b), y4] ∧ But p H H' ∧ PailAt H' p t' ∧ t' ≤ t + i ∧ H' a = some (.lst (ls.map V.int)) ∧ H' b = some (.lst (fs.map V.int)) ∧ fs.length = i ∧ (fs ++ ls).Perm (rgI 0 (m : Int)))
      ⟨none, t, [], rgI 0 (m : Int), rfl, But.of s0, pail_same hp s0, Nat.le_refl _, by rw [upd_ne hab, upd_same, rgV_rgI], upd_same, rfl, List.Perm.refl _⟩ ?_ ?_
    · rintro i σ H1 hi ⟨y4, t1, fs, ls, rfl, b1, hp1, ht1, ea, eb, lf, pm⟩
      have hl := pm.length_eq
      rw [List.length_append, rgI_len] at hl
      refine ⟨.ref b, rfl, .inl ⟨rfl, _, lstNew eb⟩, .ref a, rfl, .inl ⟨rfl, _, lstNew ea⟩, .ref p, rfl, .ref a, rfl, a, _, rfl, .inl (lstNew ea), p, t1, _, rfl, hp1, by omega, by rw [List.length_map]; omega, by rw [List.length_map]; omega, fun r t2 H2 r0 r1 ht2 hp2 b2 => ?_⟩
      rw [List.length_map] at r1
      have ea2 := b2 _ _ ea hap
      have eb2 := b2 _ _ eb hbp
      have b02 := b1.trans b2
      obtain ⟨y, hy⟩ : ∃ y, ls[r.toNat]? = some y := ⟨_, List.getElem?_eq_getElem (by omega)⟩
      refine ⟨a, _, r, r.toNat, .int y, rfl, rfl, ea2, by omega, by omega, ?_, by rw [List.getElem?_map, hy]; rfl, ?_⟩
      · rw [List.length_map]
        unfold seqIndex?
        simp only [if_neg (show ¬ r < 0 by omega)]
        rw [if_pos]
        simp only [Bool.and_eq_true, decide_eq_true_eq]
        exact ⟨r0, by omega⟩
      have ea3 : (upd H2 a (.lst ((ls.map V.int).eraseIdx r.toNat))) a = some (.lst ((ls.eraseIdx r.toNat).map V.int)) := by rw [upd_same, erase_map]
      have eb3 : (upd H2 a (.lst ((ls.map V.int).eraseIdx r.toNat))) b = some (.lst (fs.map V.int)) := by rw [upd_ne hab.symm]; exact eb2
      have hp3 := pail_set (o := .lst ((ls.map V.int).eraseIdx r.toNat)) hp2 hap
      have b3 : But p H (upd H2 a (.lst ((ls.map V.int).eraseIdx r.toNat))) := fun k o e z => by rw [upd_ne (ne_of_none e na)]; exact b02 k o e z
      generalize upd H2 a (.lst ((ls.map V.int).eraseIdx r.toNat)) = H3 at ea3 eb3 hp3 b3 ⊢
      refine ⟨b, _, _, rfl, rfl, eb3, by rw [List.length_map]; exact few1 (by omega), ?_⟩
      refine ⟨_, t2, fs ++ [y], ls.eraseIdx r.toNat, rfl, fun k o e z => by rw [upd_ne (ne_of_none e nbH)]; exact b3 k o e z, pail_set hp3 hbp, by omega, by rw [upd_ne hab]; exact ea3, by rw [upd_same, List.map_append]; rfl, by rw [List.length_append, lf]; rfl, ?_⟩
      rw [List.append_assoc]
      exact ((perm_erase hy).symm.append_left fs).trans pm
    · rintro σ H1 ⟨y4, t1, fs, ls, rfl, b1, hp1, ht1, ea, eb, lf, pm⟩
      have hl := pm.length_eq
      rw [List.length_append, rgI_len] at hl
      have e0 : ls = [] := List.length_eq_zero_iff.mp (by omega)
      rw [e0, List.append_nil] at pm
      refine ⟨.ref b, rfl, q H1 b t1 fs hp1 (by omega) b1 hbp nbH eb ⟨by omega, ?_, fun x hx => ?_⟩⟩
      · rw [pm.nodup_iff]
        exact (half_start m).nd
      · exact (half_start m).lin x (pm.mem_iff.mp hx)
/-! ### _law_known -/
/-- the dict of a part's classes -/
def Knw (H : Hp) (d : Addr) (ps : List (List Int)) (n : Nat) (p : List Int) : Prop := H d = some (.dK (p.map fun m => (Sum.inl m, V.int ((clsM ps n m : Nat) : Int))))
theorem Knw.same {H H' : Hp} {d : Addr} {ps : List (List Int)} {n : Nat} {p : List Int} (h : Knw H d ps n p) (s : Same H H') : Knw H' d ps n p := s _ _ h
theorem knw_val {f : Int → V} : ∀ {p : List Int} {m : Int}, m ∈ p → valV (p.map fun m => ((Sum.inl m : L2.Key), f m)) (Sum.inl m) = some (f m)
  | x :: p, m, h => by
    unfold valV
    by_cases e : x = m
    · subst e
      simp
    · have h' : m ∈ p := by rcases List.mem_cons.mp h with z | z; exact absurd z.symm e; exact z
      have ih := knw_val (f := f) h'
      unfold valV at ih
      rw [List.map_cons, List.find?_cons_of_neg (by simp [e])]
      exact ih
theorem merge_map {f : Int → V} : ∀ (p q : List Int), (q ++ p).Nodup → mergeK (q.map fun m => ((Sum.inl m : L2.Key), f m)) (p.map fun m => ((Sum.inl m : L2.Key), f m)) = (q ++ p).map fun m => ((Sum.inl m : L2.Key), f m)
  | [], q, _ => by rw [List.append_nil]; rfl
  | x :: p, q, nd => by
    have e : putK (q.map fun m => ((Sum.inl m : L2.Key), f m)) (Sum.inl x) (f x) = (q ++ [x]).map fun m => ((Sum.inl m : L2.Key), f m) := by
      unfold putK
      rw [if_neg, List.map_append]; rfl
      intro h
      obtain ⟨kv, h1, h2⟩ := List.any_eq_true.mp h
      obtain ⟨m, hm, rfl⟩ := List.mem_map.mp h1
      have h2 : (Sum.inl m : L2.Key) = Sum.inl x := of_decide_eq_true h2
      injection h2 with h2
      exact (List.nodup_append.mp nd).2.2 m hm x (List.mem_cons_self ..) h2
    show mergeK (putK _ (Sum.inl x) (f x)) _ = _
    rw [e, merge_map p (q ++ [x]) (by rw [List.append_assoc]; exact nd), List.append_assoc]; rfl
theorem paired_at {α β : Type} {F : α → β → Prop} : ∀ {as : List α} {bs : List β}, as.length = bs.length → (∀ (j : Nat) (a : α) (b : β), as[j]? = some a → bs[j]? = some b → F a b) → Paired F as bs
  | [], [], _, _ => .nil
  | a :: as, b :: bs, hl, h => .cons (h 0 a b rfl rfl) (paired_at (by simpa using hl) fun j x y hx hy => h (j + 1) x y hx hy)
  | [], _ :: _, hl, _ => by cases hl
  | _ :: _, [], hl, _ => by cases hl
abbrev nKnown : List Str := ["_law_rule", "_law_number"]
theorem scKnown : FnScope nKnown ["_law_rule", "_law_number"] (defScope sKnown) := ⟨rfl, rfl, rfl, by decide +kernel, rfl, by decide +kernel, by decide +kernel⟩
def spKnown (K : PySem.W.Frag) (C : Addr) : Sp := fun vs H Q _ => ∃ (r : Addr) (k : Nat) (ns : List Int) (ps : List (List Int)) (p : List Int), vs = [.ref r, .int (k : Int)] ∧ RuleAt K C H r ns ps ∧ Mir ns ∧ Stp ns ps ∧ (partsOf ps ns.length)[k]? = some p ∧
  ∀ (H' : Hp) (d : Addr), Same H H' → H d = none → Knw H' d ps ns.length p → Per ps (hd0 p) (perN ps (hd0 p)) → Q (.ref d) H'
theorem ok_known {f C fP fM : Addr} {fd dP dM : FuncData} (F : Fun K "_law_known" "_law_known" sKnown f fd) (B : Bare mg) (DP : DefAt K mg "parts" sParts ["rule"] fP dP) (GP : FnOk P w K mg base CX0 3 fP dP ["rule"] (spParts K C))
    (DM : DefAt K mg "classes" sClasses ["rule", "part"] fM dM) (GM : FnOk P w K mg base CX0 5 fM dM ["rule", "part"] (spClasses K C)) : FnOk P w K mg base CX0 6 f fd ["_law_rule", "_law_number"] (spKnown K C) := by
  refine F.ok scKnown (fun vs H Q E h => ?_) (fun cdv A outer s H vs Q E hr h => ?_)
  · obtain ⟨r, k, ns, ps, p, rfl, _⟩ := h
    rfl
  · obtain ⟨r, k, ns, ps, p, rfl, R, M, S, gk, q⟩ := h
    have r3 := hr.mono (show 3 ≤ 5 by decide)
    refine ⟨_, pss_one (ps_ret (pe_callTy (call_dictP rfl) (by rfl) B.dict (by decide +kernel) (pa_cons (pe_listZip rfl (by rfl) B.list (by rfl) B.zip
      (pa_cons (pe_ix ix_tup (pe_call GP r3 (by rfl) DP.mg DP.fn.kp DP.bi .nil pass0 (pa_cons (pv 0) pa_nil)) (pv 1) (fun _ _ => rfl)) (pa_cons (pe_call GM hr (by rfl) DM.mg DM.fn.kp DM.bi .nil pass0 (pa_cons (pv 0) (pa_cons (pv 1) pa_nil))) pa_nil))) pa_nil))), ?_⟩
    refine ⟨.ref r, rfl, r, ns, ps, rfl, R, M, S, fun H1 c s1 nc hC => ?_⟩
    obtain ⟨ks, ek, hc, hks⟩ := hC
    have gk' : (ks.map (·.2))[k]? = some p := by rw [ek]; exact gk
    obtain ⟨kk, g, ekk⟩ := map_at gk'
    have hT := hks kk (List.mem_of_getElem? g)
    rw [← ekk] at hT
    have hp := List.mem_of_getElem? gk
    refine ⟨.int (k : Int), rfl, c, _, _, .ref kk.1, rfl, rfl, tupNew hc, atI_nat (by rw [List.getElem?_map, g]; rfl), ?_⟩
    refine ⟨.ref r, rfl, .int (k : Int), rfl, r, k, ns, ps, p, rfl, R.same s1, M, S, gk, fun H2 c2 s2 nc2 e2 per => ?_⟩
    refine ⟨kk.1, c2, _, _, rfl, (hT.same s2).sq, tupNew e2, fun H3 z ts s3 nz ez lt ht => ?_⟩
    have lc : (clsL ps ns.length p).length = p.length := by unfold clsL; rw [List.length_map]
    rw [List.length_map, List.length_map, lc, Nat.min_self] at lt
    refine ⟨z, ts, p.map fun m => (Sum.inl m, V.int ((clsM ps ns.length m : Nat) : Int)), rfl, lstNew ez, ?_, fun d nd => ?_⟩
    · refine paired_at (by rw [lt, List.length_map]) fun j a kv ha hkv => ?_
      obtain ⟨m, gm, rfl⟩ := map_at hkv
      obtain ⟨x, y, gx, gy, et⟩ := ht j a ha
      rw [List.getElem?_map, gm] at gx
      cases gx
      rw [List.getElem?_map] at gy
      unfold clsL at gy
      rw [List.getElem?_map, gm] at gy
      cases gy
      exact tupNew et
    · have nd2 : p.Nodup := by
        obtain ⟨m, _, _, rfl⟩ := mem_parts.mp hp
        exact (lot_rise ps ns.length m).imp fun h => by omega
      have s03 := (s1.trans s2).trans s3
      refine q _ d (s03.trans (same_upd nd)) (s03.free nd) ?_ per
      unfold Knw
      have e := merge_map (f := fun m => V.int ((clsM ps ns.length m : Nat) : Int)) p [] nd2
      have e' : mergeK [] (p.map fun m => ((Sum.inl m : L2.Key), V.int ((clsM ps ns.length m : Nat) : Int))) = p.map fun m => ((Sum.inl m : L2.Key), V.int ((clsM ps ns.length m : Nat) : Int)) := e
      rw [upd_same, e']
end
end K9
set_option maxHeartbeats 4000000
namespace K9
open PySem PySem.Spec PyProof.Rows L2 RV
/-- a list of tuples of ints, all of them seen -/
def LotsH (H : Hp) (a : Addr) (ls : List (List Int)) : Prop := ∃ ks : List (Addr × List Int), ks.map (·.2) = ls ∧ H a = some (.lst (ks.map fun p => V.ref p.1)) ∧ ∀ p ∈ ks, H p.1 = some (.tup (p.2.map V.int))
theorem LotsH.same {H H' : Hp} {a : Addr} {ls : List (List Int)} (h : LotsH H a ls) (s : Same H H') : LotsH H' a ls := by
  obtain ⟨ks, h1, h2, h3⟩ := h
  exact ⟨ks, h1, s _ _ h2, fun p hp => s _ _ (h3 p hp)⟩
theorem any_lots (p : List Int) (ls : List (List Int)) : (ls.map RV.dI).any (fun y => PyData.eqv y (RV.dI p)) = decide (p ∈ ls) := any_dI p ls
theorem shapedLs (ls : List (List Int)) : SeqAt.shaped (.list (ls.map RV.dI)) = true := by
  have h1 := dep_dI ls
  have e : (PyData.list (ls.map RV.dI)).depth ≤ 64 := by simp only [PyData.depth]; omega
  show ((PyData.list (ls.map RV.dI)).canLay0 && decide ((PyData.list (ls.map RV.dI)).depth ≤ 64)) = true
  rw [decide_eq_true e, Bool.and_true]
  simp only [PyData.canLay0]
  exact lay_dI ls
theorem LotsH.dp {K : PySem.W.Frag} {H : Hp} {a : Addr} {ls : List (List Int)} (h : LotsH H a ls) : Dp K H (.ref a) (.list (ls.map RV.dI)) := by
  obtain ⟨ks, rfl, h2, h3⟩ := h
  exact .lst (lstNew h2) (dpTs ks fun p hp => tupNew (h3 p hp))
/-! ### sorted of a list of pairs -/
def kOf (H : Hp) : V → Int × Int
  | .ref t => match H t with
    | some (.tup [.int i, .int j]) => (i, j)
    | _ => (0, 0)
  | _ => (0, 0)
def adOf : V → Addr
  | .ref t => t
  | _ => 0
theorem LotsH.add {H : Hp} {L T : Addr} {qs : List (List Int)} {q : List Int} {vs : List V} (h : LotsH H L qs) (e : H L = some (.lst vs)) (nT : H T = none) : LotsH (upd (upd H T (.tup (q.map V.int))) L (.lst (vs ++ [.ref T]))) L (qs ++ [q]) := by
  obtain ⟨ks, h1, h2, h3⟩ := h
  have sT := same_upd (o := .tup (q.map V.int)) nT
  have ev : vs = ks.map fun p => V.ref p.1 := by rw [e] at h2; cases h2; rfl
  subst ev
  refine ⟨ks ++ [(T, q)], by rw [List.map_append, h1]; rfl, by rw [upd_same, List.map_append]; rfl, fun k hk => ?_⟩
  rcases List.mem_append.mp hk with hk | hk
  · rw [upd_ne (fun z => by have w := h3 k hk; rw [z, e] at w; cases w)]; exact sT _ _ (h3 k hk)
  · rw [List.mem_singleton.mp hk, upd_ne (ne_of_none e nT).symm]; exact upd_same
theorem sort_lots {K : PySem.W.Frag} {H : Hp} {a : Addr} {ps : List (List Int)} {Q : VK} (h : LotsH H a ps) (pr : ∀ p ∈ ps, ∃ x y : Int, p = [x, y])
    (q : ∀ (L : List (Addr × List Int)) (p : Addr), (L.map (·.2)).Perm ps → L.Pairwise (fun a b => SrtO.lexB (two b.2) (two a.2) = false) → (∀ k ∈ L, H k.1 = some (.tup (k.2.map V.int))) → H p = none → Q (.ref p) (upd H p (.lst (L.map fun p => V.ref p.1)))) : rSortedPO K [.ref a] H Q := by
  obtain ⟨ks, h1, h2, h3⟩ := h
  have two_ : ∀ k ∈ ks, kOf H (.ref k.1) = two k.2 ∧ k.2 = [(kOf H (.ref k.1)).1, (kOf H (.ref k.1)).2] := fun k hk => by
    obtain ⟨x, y, e⟩ := pr k.2 (by rw [← h1]; exact List.mem_map_of_mem hk)
    have z := h3 k hk
    rw [e] at z
    have z2 : kOf H (.ref k.1) = (x, y) := by
      show (match H k.1 with | some (.tup [.int i, .int j]) => (i, j) | _ => (0, 0)) = _
      rw [z]; rfl
    rw [z2, e]
    exact ⟨rfl, rfl⟩
  refine ⟨a, _, kOf H, rfl, lstNew h2, fun x hx => ?_, fun ys p srt stb np => ?_⟩
  · obtain ⟨k, hk, rfl⟩ := List.mem_map.mp hx
    refine ⟨k.1, rfl, ?_⟩
    have z := h3 k hk
    rw [(two_ k hk).2] at z
    exact z
  · have pm := stb.perm
    have hy : ∀ y ∈ ys, ∃ k ∈ ks, y = V.ref k.1 := fun y hy => by
      obtain ⟨k, hk, e⟩ := List.mem_map.mp (pm.mem_iff.mp hy)
      exact ⟨k, hk, e.symm⟩
    let g : V → Addr × List Int := fun v => (adOf v, [(kOf H v).1, (kOf H v).2])
    have gk : ∀ k ∈ ks, g (V.ref k.1) = k := fun k hk => by
      show (k.1, _) = k
      rw [← (two_ k hk).2]
    have e1 : (ys.map g).map (fun p => V.ref p.1) = ys := by
      rw [List.map_map]
      conv => rhs; rw [← List.map_id ys]
      refine List.map_congr_left fun y m => ?_
      obtain ⟨k, hk, rfl⟩ := hy y m
      show V.ref (g (V.ref k.1)).1 = _
      rw [gk k hk]; rfl
    have pk : (ys.map g).Perm ks := by
      have z := pm.map g
      rw [List.map_map] at z
      have e2 : ks.map (g ∘ fun p => V.ref p.1) = ks := by
        conv => rhs; rw [← List.map_id ks]
        exact List.map_congr_left fun k hk => gk k hk
      rwa [e2] at z
    have z := q (ys.map g) p (by rw [← h1]; exact pk.map _) ?_ (fun k hk => h3 k (pk.mem_iff.mp hk)) np
    · rwa [e1] at z
    · rw [List.pairwise_map]
      refine List.Pairwise.imp_of_mem ?_ srt
      intro y y' m m' l
      obtain ⟨k, hk, rfl⟩ := hy y m
      obtain ⟨k', hk', rfl⟩ := hy y' m'
      rw [gk k hk, gk k' hk', ← (two_ k hk).1, ← (two_ k' hk').1]
      exact l
end K9
set_option maxHeartbeats 4000000
namespace K9
open PySem PySem.Spec PyProof.Rows L2 RV
/-- a step by the other names -/
def nmP (fs : List Int) (p : List Int) : List Int := [nm fs (p.getD 0 0), nm fs (p.getD 1 0)]
/-- what the mirrors come to -/
theorem ren_mir {fs ns xs : List Int} (M : Mir ns) (N : Nms ns.length fs) (hl : xs.length = ns.length) (h : ∀ (m : Nat) (mm : Int), ns[m]? = some mm → xs[(nm fs (m : Int)).toNat]? = some (nm fs mm)) : Mir xs := by
  have at_ : ∀ (k : Nat), k < ns.length → ∃ (m : Nat) (mm : Int), nm fs (m : Int) = (k : Int) ∧ ns[m]? = some mm ∧ xs[k]? = some (nm fs mm) := fun k hk => by
    obtain ⟨m, hm, e⟩ := nm_onto N (y := (k : Int)) (by omega)
    obtain ⟨mm, hmm⟩ : ∃ z, ns[m.toNat]? = some z := ⟨_, List.getElem?_eq_getElem (by omega)⟩
    have z := h m.toNat mm hmm
    rw [Int.toNat_of_nonneg hm.1, e, Int.toNat_natCast] at z
    exact ⟨m.toNat, mm, by rw [Int.toNat_of_nonneg hm.1]; exact e, hmm, z⟩
  refine ⟨by rw [hl]; exact M.pos, by rw [hl]; exact M.few, fun i hi => ?_, fun k y hk => ?_⟩
  · obtain ⟨k, hk, e⟩ := List.getElem_of_mem hi
    obtain ⟨m, mm, _, e2, e3⟩ := at_ k (by omega)
    rw [List.getElem?_eq_getElem hk, e] at e3
    rw [Option.some.inj e3, hl]
    exact nm_in N (M.inn mm (List.mem_of_getElem? e2))
  · have hk2 := (List.getElem?_eq_some_iff.mp hk).1
    obtain ⟨m, mm, e1, e2, e3⟩ := at_ k (by omega)
    rw [hk] at e3
    have e3 := Option.some.inj e3
    have b := M.inn mm (List.mem_of_getElem? e2)
    have z := h mm.toNat (m : Int) (M.back m mm e2)
    rw [Int.toNat_of_nonneg b.1, ← e3, e1] at z
    exact z
theorem nmP_mem {fs ns : List Int} {ps : List (List Int)} (N : Nms ns.length fs) (hP : ∀ p ∈ ps, Pr (ns.length : Int) p) {a b : Int} (ha : 0 ≤ a ∧ a < (ns.length : Int)) (hb : 0 ≤ b ∧ b < (ns.length : Int)) : [nm fs a, nm fs b] ∈ ps.map (nmP fs) ↔ [a, b] ∈ ps := by
  constructor
  · intro h
    obtain ⟨p, hp, e⟩ := List.mem_map.mp h
    obtain ⟨x, y, rfl, hx, hy⟩ := hP p hp
    have e : [nm fs x, nm fs y] = [nm fs a, nm fs b] := e
    injection e with e1 e2
    injection e2 with e2 _
    rw [← nm_inj N hx ha e1, ← nm_inj N hy hb e2]
    exact hp
  · intro h
    exact List.mem_map.mpr ⟨_, h, rfl⟩
theorem ren_part {fs ns xs : List Int} {ps : List (List Int)} (M : Mir ns) (S : Stp ns ps) (N : Nms ns.length fs) (hl : xs.length = ns.length) (h : ∀ (m : Nat) (mm : Int), ns[m]? = some mm → xs[(nm fs (m : Int)).toNat]? = some (nm fs mm)) : Part xs (ps.map (nmP fs)) := by
  have hP : ∀ q ∈ ps, Pr (ns.length : Int) q := fun q hq => S.pair q hq
  refine ⟨?_, fun p hp => ?_, fun x y mx my hxy hx hy => ?_⟩
  · rw [List.nodup_iff_pairwise_ne, List.pairwise_map]
    refine (List.nodup_iff_pairwise_ne.mp S.nd).imp_of_mem fun {p q} hp hq ne e => ne ?_
    obtain ⟨x, y, rfl, hx, hy⟩ := hP p hp
    obtain ⟨x', y', rfl, hx', hy'⟩ := hP q hq
    have e : [nm fs x, nm fs y] = [nm fs x', nm fs y'] := e
    injection e with e1 e2
    injection e2 with e2 _
    rw [nm_inj N hx hx' e1, nm_inj N hy hy' e2]
  · obtain ⟨q, hq, rfl⟩ := List.mem_map.mp hp
    obtain ⟨x, y, rfl, hx, hy⟩ := hP q hq
    rw [hl]
    exact ⟨_, _, rfl, nm_in N hx, nm_in N hy⟩
  · obtain ⟨q, hq, e⟩ := List.mem_map.mp hxy
    obtain ⟨a, b, rfl, ha, hb⟩ := hP q hq
    have e : [nm fs a, nm fs b] = [x, y] := e
    injection e with e1 e2
    injection e2 with e2 _
    subst e1 e2
    obtain ⟨ma, hma⟩ : ∃ z, ns[a.toNat]? = some z := ⟨_, List.getElem?_eq_getElem (by omega)⟩
    obtain ⟨mb, hmb⟩ : ∃ z, ns[b.toNat]? = some z := ⟨_, List.getElem?_eq_getElem (by omega)⟩
    have za := h a.toNat ma hma
    have zb := h b.toNat mb hmb
    rw [Int.toNat_of_nonneg ha.1, hx] at za
    rw [Int.toNat_of_nonneg hb.1, hy] at zb
    rw [Option.some.inj za, Option.some.inj zb]
    exact (nmP_mem N hP (M.inn mb (List.mem_of_getElem? hmb)) (M.inn ma (List.mem_of_getElem? hma))).mpr (S.mirr _ _ _ _ hq hma hmb)
theorem ren_all {fs ns xs : List Int} {ps ps2 : List (List Int)} (M : Mir ns) (S : Stp ns ps) (N : Nms ns.length fs) (hl : xs.length = ns.length) (h : ∀ (m : Nat) (mm : Int), ns[m]? = some mm → xs[(nm fs (m : Int)).toNat]? = some (nm fs mm)) (pm : ps2.Perm (ps.map (nmP fs))) : Ren fs ns ps xs ps2 := by
  have hP : ∀ q ∈ ps, Pr (ns.length : Int) q := fun q hq => S.pair q hq
  refine ⟨N, hl, fun m mm hm hmm => ?_, fun a b ha hb => ?_, fun p hp => ?_⟩
  · have z := h m.toNat mm hmm
    rwa [Int.toNat_of_nonneg hm.1] at z
  · rw [pm.mem_iff]
    exact nmP_mem N hP ha hb
  · have z := (ren_part M S N hl h).pr p (pm.mem_iff.mp hp)
    rwa [hl] at z
theorem rep_flat (n : Nat) (v : V) : (List.replicate n [v]).flatten = List.replicate n v := by
  induction n with
  | zero => rfl
  | succ n ih => rw [List.replicate_succ, List.flatten_cons, ih, List.replicate_succ]; rfl
theorem rep_int (n : Nat) (x : Int) : (List.replicate n [V.int x]).flatten = (List.replicate n x).map V.int := by
  rw [rep_flat, List.map_replicate]
section
variable {P : Program} {w : World} {K : PySem.W.Frag} {mg : Str → Option Value} {base : Heap}
/-! ### _law_renamed -/
abbrev nRen : List Str := ["_law_rule", "_law_names_here", "_law_mirrors_here", "_law_mark", "_law_one", "_law_other"]
theorem scRen : FnScope nRen ["_law_rule", "_law_names_here"] (defScope sRenamed) := ⟨rfl, rfl, rfl, by decide +kernel, rfl, by decide +kernel, by decide +kernel⟩
def spRen (K : PySem.W.Frag) (C : Addr) : Sp := fun vs H Q _ => ∃ (r f : Addr) (ns fs : List Int) (ps : List (List Int)), vs = [.ref r, .ref f] ∧ RuleAt K C H r ns ps ∧ Mir ns ∧ Stp ns ps ∧ H f = some (.lst (fs.map V.int)) ∧ Nms ns.length fs ∧
  ∀ (H' : Hp) (r2 : Addr) (ns2 : List Int) (ps2 : List (List Int)), Same H H' → RuleAt K C H' r2 ns2 ps2 → Mir ns2 → Stp ns2 ps2 → Ren fs ns ps ns2 ps2 → Q (.ref r2) H'
theorem ok_ren {f C fI fM fR : Addr} {fd dI dM dR : FuncData} (F : Fun K "_law_renamed" "_law_renamed" sRenamed f fd) (T : Txt K mg C) (B : Bare mg) (MK : Mk K C fI) (bI : Binds K dI ["self", "mirrors", "steps"] []) (GI : FnOk P w K mg base CX0 6 fI dI ["self", "mirrors", "steps"] (spInit K C))
    (FM : Fun K "marks" "Rule.marks" sMarksM fM dM) (bM : Binds K dM ["self"] []) (mM : Meth K C "marks" fM) (FR : Fun K "mirror" "Rule.mirror" sMirrorM fR dR) (bR : Binds K dR ["self", "mark"] []) (mR : Meth K C "mirror" fR) : FnOk P w K mg base CX0 8 f fd ["_law_rule", "_law_names_here"] (spRen K C) := by
  have GM : FnOk P w K mg base CX0 1 fM dM ["self"] (spMarksM K C) := ok_marksM FM T B
  have GR : FnOk P w K mg base CX0 1 fR dR ["self", "mark"] (spMirrorM K C) := ok_mirrorM FR T
  refine F.ok scRen (fun vs H Q E h => ?_) (fun cdv A outer s H vs Q E hr h => ?_)
  · obtain ⟨r, a, ns, fs, ps, rfl, _⟩ := h
    rfl
  · obtain ⟨r, a, ns, fs, ps, rfl, R, M, S, ha, N, q⟩ := h
    have one : (1 : Nat) ≤ sizeLine := by decide
    have r1 := hr.mono (show 1 ≤ 7 by decide)
    refine ⟨_, pss_cons (ps_set (i := 2) scRen.nd rfl (Or.inl rfl) (pe_op op_rep (pe_lst (pa_cons pe_int pa_nil)) (pe_meth0 (pv 0) T.cl mM GM r1 bM .nil pass0)))
      (pss_cons (ps_for PassesOwn.never rfl (pi_range1 (by rfl) B.range (pa_cons (pe_meth0 (pv 0) T.cl mM GM r1 bM .nil pass0) pa_nil)) (pg_name (i := 3) scRen.nd rfl (Or.inl rfl))
        (pss_one (ps_asg (pe_ix ix_list (pv 1) (pe_meth (pv 0) T.cl mR GR r1 bR .nil pass0 (pa_cons (pv 3) pa_nil)) (fun _ _ => rfl)) (pg_sub (pv 2) (pe_ix ix_list (pv 1) (pv 3) (fun _ _ => rfl)) set_list))))
      (pss_one (ps_ret (pe_make MK GI hr (by rfl) T.mgC bI .nil pass0 (pa_cons (pe_tupleOf (by rfl) B.tuple (pv 2)) (pa_cons (pe_tupleOf (by rfl) B.tuple (pe_callB cr_sortedPO (by rfl) B.sorted (by decide +kernel) (pa_cons
        (pe_lc (own := [("_law_one", 4), ("_law_other", 5)]) (g := gTup K 2 (gCons (gName 4) (gCons (gName 5) gNil))) (tt := tYes) rfl scRen.nd (pi_tup (pe_fld (pv 0) rfl)) (blkOk_by (N := nRen) (sc := defScope sRenamed) (by decide +kernel))
          (fun _ _ _ _ _ => pg_tupK rfl rfl (pgs_cons (pg_name (i := 4) scRen.nd rfl (Or.inl rfl)) (pgs_cons (pg_name (i := 5) scRen.nd rfl (Or.inl rfl)) pgs_nil))) (fun _ _ _ _ _ => pts_nil)
          (fun _ _ _ _ _ => pe_tup (pa_cons (pe_ix (ix_listK (K := K) rfl) (pv 1) (pv 4) (fun _ _ => rfl)) (pa_cons (pe_ix (ix_listK (K := K) rfl) (pv 1) (pv 5) (fun _ _ => rfl)) pa_nil)))) pa_nil))) pa_nil)))))), ?_⟩
    obtain ⟨dx, a0, b0, t0, g1, g2, g3, g4⟩ := R.ex
    have fno1 := flds_no a0 b0 t0 (m := "marks") (by decide +kernel) (by decide +kernel) (by decide +kernel)
    have fno2 := flds_no a0 b0 t0 (m := "mirror") (by decide +kernel) (by decide +kernel) (by decide +kernel)
    have h8 := M.few
    have hP : ∀ p ∈ ps, Pr (ns.length : Int) p := fun p hp => S.pair p hp
    have at_ : ∀ {H' : Hp} {m : Int}, Same H H' → (0 ≤ m ∧ m < (ns.length : Int)) → atI (fs.map V.int) m = some (.int (nm fs m)) := fun {H' m} s' hm => by
      have e : m = ((m.toNat : Nat) : Int) := by omega
      have z := nm_at N hm
      have z2 : atI (fs.map V.int) ((m.toNat : Nat) : Int) = some (.int (nm fs m)) := atI_nat (by rw [List.getElem?_map, z]; rfl)
      rw [← e] at z2
      exact z2
    -- mirrors
    refine ⟨one, fun N0 nN => ⟨.ref r, rfl, r, dx, _, rfl, same_upd nN _ _ g1, fno1, r, ns, ps, rfl, R.same (same_upd nN), N0, _, _, rfl, rfl, upd_same, by omega, by omega, ?_, fun L nL => ?_⟩⟩
    · rw [Int.toNat_natCast]; exact Nat.le_trans (by simp) (Nat.le_of_lt (few1 (show ns.length ≤ 1000 by omega)))
    rw [Int.toNat_natCast, rep_int]
    have sL := (same_upd (o := .lst [.int 0]) nN).trans (same_upd (o := .lst ((List.replicate ns.length (0 : Int)).map V.int)) nL)
    have nLH : H L = none := (same_upd nN).free nL
    have eL0 : (upd (upd H N0 (.lst [.int 0])) L (.lst ((List.replicate ns.length (0 : Int)).map V.int))) L = some (.lst ((List.replicate ns.length (0 : Int)).map V.int)) := upd_same
    generalize upd (upd H N0 (.lst [.int 0])) L (.lst ((List.replicate ns.length (0 : Int)).map V.int)) = H0 at sL eL0 ⊢
    refine ⟨.ref r, rfl, r, dx, _, rfl, sL _ _ g1, fno1, r, ns, ps, rfl, R.same sL, (ns.length : Int), rfl, by omega, by omega, ?_⟩
    refine for_range (lo := 0) (n := (ns.length : Int).toNat) (fun i σ H' => ∃ (y3 y4 y5 : Option V) (xs : List Int), σ = [some (.ref r), some (.ref a), some (.ref L), y3, y4, y5] ∧ Same H H' ∧ H' L = some (.lst (xs.map V.int)) ∧ xs.length = ns.length ∧ ∀ (m : Nat) (mm : Int), m < i → ns[m]? = some mm → xs[(nm fs (m : Int)).toNat]? = some (nm fs mm))
      ⟨none, none, none, _, rfl, sL, eL0, List.length_replicate, fun m mm hm => absurd hm (Nat.not_lt_zero _)⟩ ?_ ?_
    · rintro i σ H1 hi ⟨y3, y4, y5, xs, rfl, s1, eL, lx, hx⟩
      have bi : 0 ≤ ((i : Nat) : Int) ∧ ((i : Nat) : Int) < (ns.length : Int) := by omega
      obtain ⟨mm, hmm⟩ : ∃ z, ns[i]? = some z := ⟨_, List.getElem?_eq_getElem (by omega)⟩
      have bm := M.inn mm (List.mem_of_getElem? hmm)
      have bn := nm_in N bi
      rw [show (0 : Int) + ((i : Nat) : Int) = (i : Int) by omega]
      refine ⟨.ref a, rfl, .ref r, rfl, r, dx, _, rfl, s1 _ _ g1, fno2, .int (i : Int), rfl, r, ns, ps, i, mm, rfl, R.same s1, hmm, a, _, _, _, rfl, rfl, lstNew (s1 _ _ ha), at_ (Same.refl H) bm, ?_⟩
      refine ⟨.ref L, rfl, .ref a, rfl, .int (i : Int), rfl, a, _, _, _, rfl, rfl, lstNew (s1 _ _ ha), at_ (Same.refl H) bi, ?_⟩
      refine ⟨L, _, nm fs (i : Int), (nm fs (i : Int)).toNat, rfl, rfl, eL, ix_at (by rw [List.length_map]; omega) bn.1, ?_⟩
      refine ⟨_, _, _, xs.set (nm fs (i : Int)).toNat (nm fs mm), rfl, fun k o e => by rw [upd_ne (ne_of_none e nLH)]; exact s1 k o e, by rw [upd_same, List.map_set], by rw [List.length_set, lx], fun m mk hm hmk => ?_⟩
      by_cases e : m = i
      · subst e
        rw [hmm] at hmk
        cases hmk
        rw [List.getElem?_set_self (by omega)]
      · have bm2 : 0 ≤ ((m : Nat) : Int) ∧ ((m : Nat) : Int) < (ns.length : Int) := by omega
        have bn2 := nm_in N bm2
        rw [List.getElem?_set_ne (fun z => e (by have := nm_inj N bi bm2 (by omega); omega))]
        exact hx m mk (by omega) hmk
    · rintro σ H1 ⟨y3, y4, y5, xs, rfl, s1, eL, lx, hx⟩
      have hx' : ∀ (m : Nat) (mm : Int), ns[m]? = some mm → xs[(nm fs (m : Int)).toNat]? = some (nm fs mm) := fun m mm h => hx m mm (by have := (List.getElem?_eq_some_iff.mp h).1; omega) h
      have M2 := ren_mir M N lx hx'
      have P2 := ren_part M S N lx hx'
      refine ⟨.ref L, rfl, .inl ⟨L, _, rfl, lstNew eL, fun u nu => ?_⟩⟩
      have su := same_upd (o := .tup (xs.map V.int)) nu
      have hu : SqT K (upd H1 u (.tup (xs.map V.int))) u (xs.map V.int) := tupNew upd_same
      have s2 := s1.trans su
      generalize upd H1 u (.tup (xs.map V.int)) = H2 at hu s2 ⊢
      obtain ⟨js, ej, hb, hjs⟩ := g3.same s2
      refine ⟨.ref r, rfl, r, C, dx, _, _, rfl, s2 _ _ g1, T.cl, T.nS, flds_s _ _ _, b0, rfl, ⟨_, hb⟩, fun D nD => ?_⟩
      refine lc_tup (K := K) (a := b0) (xs := js.map fun p => V.ref p.1) (fun i H' => Same H2 H' ∧ LotsH H' D ((ps.take i).map (nmP fs)))
        ⟨same_upd nD, [], rfl, upd_same, fun _ z => nomatch z⟩ (fun i H' _ h => sqT_same h.1 hb) (fun i x H' hx h => ?_) fun H3 h => ?_
      · obtain ⟨j, gj, rfl⟩ := map_at hx
        obtain ⟨s3, hL⟩ := h
        have hj := List.mem_of_getElem? gj
        have gi : ps[i]? = some j.2 := by rw [← ej, List.getElem?_map, gj]; rfl
        obtain ⟨x, y, e, bx, by_⟩ := hP j.2 (List.mem_of_getElem? gi)
        have hjT : SqT K H' j.1 ([x, y].map V.int) := by rw [← e]; exact sqT_same s3 (hjs j hj)
        have ea := s3 _ _ (s2 _ _ ha)
        have hl64 := S.few
        have hi : i < ps.length := (List.getElem?_eq_some_iff.mp gi).1
        have hL' := hL
        obtain ⟨lks, l1, l2, l3⟩ := hL'
        have ll : lks.length = i := by
          have z := congrArg List.length l1
          rw [List.length_map, List.length_map, List.length_take] at z; omega
        refine ⟨j.1, _, rfl, hjT, rfl, _, _, rfl, _, _, rfl, rfl, rfl, tt_yes ⟨.ref a, rfl, .int x, rfl, a, _, _, _, rfl, rfl, lstNew ea, at_ (Same.refl H) bx, .ref a, rfl, .int y, rfl, a, _, _, _, rfl, rfl, lstNew ea, at_ (Same.refl H) by_, (by show 2 ≤ sizeLine; decide), fun U nU => ?_⟩⟩
        refine ⟨_, (same_upd nU) _ _ l2, by rw [List.length_map]; exact few1 (by omega), fun b o z => ?_, ?_⟩
        · rw [upd_ne (ne_of_none z nD)]; exact same_upd nU _ _ (s3 b o z)
        · rw [List.take_add_one, gi, List.map_append]
          have z := LotsH.add (q := [nm fs x, nm fs y]) hL l2 nU
          have e3 : (some j.2).toList.map (nmP fs) = [[nm fs x, nm fs y]] := by rw [e]; rfl
          rw [e3]; exact z
      · obtain ⟨s3, hL⟩ := h
        rw [List.take_of_length_le (by rw [List.length_map, ← ej, List.length_map]; exact Nat.le_refl _)] at hL
        dsimp only [tNil]
        refine sort_lots (K := K) (a := D) (H := H3) (ps := ps.map (nmP fs)) hL (fun p hp => ?_) fun Ls e pm pw tu ne => ?_
        · obtain ⟨q, _, rfl⟩ := List.mem_map.mp hp
          exact ⟨_, _, rfl⟩
        have S2 := P2.stp M2 pm pw
        have RN := ren_all M S N lx hx' pm
        have sE := same_upd (o := .lst (Ls.map fun p => V.ref p.1)) ne
        refine .inl ⟨e, _, rfl, lstNew upd_same, fun c nc => ?_⟩
        have sC := same_upd (o := .tup (Ls.map fun p => V.ref p.1)) nc
        have hC : TupsH (upd (upd H3 e (.lst (Ls.map fun p => V.ref p.1))) c (.tup (Ls.map fun p => V.ref p.1))) c (Ls.map (·.2)) := ⟨Ls, rfl, upd_same, fun k hk => sC _ _ (sE _ _ (tu k hk))⟩
        have s4 := s3.trans (sE.trans sC)
        generalize upd (upd H3 e (.lst (Ls.map fun p => V.ref p.1))) c (.tup (Ls.map fun p => V.ref p.1)) = H4 at hC s4 ⊢
        exact fun x dr nr ndr ner => make_rule (ns := xs) (ps := Ls.map (·.2)) (sqT_same s4 hu) hC.tups M2 S2 nr ndr ner fun H5 s5 R5 => q H5 x xs (Ls.map (·.2)) ((s2.trans s4).trans s5) R5 M2 S2 RN
end
end K9
set_option maxHeartbeats 4000000
/-! set(xs) of nums -/
namespace RV
open PySem PySem.Spec PyProof.Rows L2
section
variable {P : Program} {w : World} {A : Around} {E : Value → Shared → Prop} {s : Shared}
theorem SetR.names {h : Heap} {a : Addr} {S : Int → Bool} {n : Nat} (R : SetR w h a S n) : ∃ ls : List Int, ls.Nodup ∧ ls.length = n ∧ ∀ k, k ∈ ls ↔ S k = true := by
  obtain ⟨o, es, ep, t, _, _, _, _, nd, hm, _, _, hn, _⟩ := R
  exact ⟨es.toList.map keyOf, nd, by rw [List.length_map, Array.length_toList]; exact hn, fun k => (hm k).symm⟩
theorem setI_loop {R : Result → Shared → Prop} (hh : A.in1.handled = none) (S l it : Addr) (hSl : S ≠ l) (hSi : S ≠ it) (hli : l ≠ it) (items : Array Value) (ns : List Int) (few : ns.length ≤ 1000)
    (nums : ∀ (i : Nat) (k : Int), ns[i]? = some k → ∃ tk, items[i]? = some (Value.int k tk)) (size : items.size = ns.length) (old : Heap) (o1 : old.get? S = none) (o2 : old.get? it = none) :
    ∀ (k i : Nat) (s : Shared), ns.length - i = k → i ≤ ns.length → s.heap.IsListIter it l i → s.heap.IsList l items → (∀ b o, old.get? b = some o → s.heap.get? b = some o) → (∃ n, n ≤ i ∧ SetR w s.heap S (fun j => decide (j ∈ ns.take i)) n) →
      (∀ h' tk n, SetR w h' S (fun j => decide (j ∈ ns)) n → (∀ b o, old.get? b = some o → h'.get? b = some o) → R (.ok (.ret .none)) { s with heap := h', toks := tk }) →
      codeAny (model P w) A (.builtin "set.update.loop" ⟨[.ref S, .ref it], []⟩) R s
  | 0, i, s, hk, hi, hit, hl, keep, ⟨n, hn, hS⟩, fin => by
    obtain rfl : i = ns.length := by omega
    rw [List.take_length] at hS
    refine codeAny_builtin F.entry_set_update_loop ?_
    rw [Around.under_plainId F.plain_set_update_loop _]
    show wpAny _ A.in1 (pyNext (.ref it) >>= _) _ _ s
    refine wpAny_bind (wpAny_pyNext_list_end hh hit hl (by simp [size]) fun h' ext => ?_)
    exact wpAny_pure (fin h' s.toks n (hS.at fun o e => ext S o hSi e) fun b o e => ext b o (fun z => by rw [z, o2] at e; cases e) (keep b o e))
  | k + 1, i, s, hk, hi, hit, hl, keep, ⟨n, hn, hS⟩, fin => by
    obtain ⟨x, hx⟩ : ∃ x, ns[i]? = some x := ⟨_, List.getElem?_eq_getElem (by omega)⟩
    obtain ⟨tk, hv⟩ := nums i x hx
    refine codeAny_builtin F.entry_set_update_loop ?_
    rw [Around.under_plainId F.plain_set_update_loop _]
    show wpAny _ A.in1 (pyNext (.ref it) >>= _) _ _ s
    refine wpAny_bind (wpAny_pyNext_list_item hit hl hv fun h1 hit1 sb1 => ?_)
    have keep1 : ∀ b o, old.get? b = some o → h1.get? b = some o := fun b o e => (sb1.2 b fun z => by rw [z, o2] at e; cases e).trans (keep b o e)
    have hS1 := hS.at (h' := h1) fun o e => (sb1.2 S hSi).trans e
    show wpAny _ A.in1 (holding [Value.int x tk] (setAdd S (.int x tk)) >>= _) _ _ _
    refine wpAny_bind (wpAny_holding ?_)
    unfold setAdd
    refine wpAny_holding (wpAny_bind ((intKind P w).pyHash (intKind_is P w x tk) ?_))
    refine setR_add_hashed (s := { s with heap := h1, toks := s.toks + 1 }) hS1 (by show n + 1 < 4096; omega) fun h2 sb2 hS2 => ?_
    have e : (fun j => decide (j ∈ ns.take i) || decide (j = x)) = fun j => decide (j ∈ ns.take (i + 1)) := by
      funext j
      rw [List.take_add_one, hx, ← Bool.decide_or]
      refine decide_eq_decide.mpr ?_
      rw [List.mem_append]
      simp
    rw [e] at hS2
    have keep2 : ∀ b o, old.get? b = some o → h2.get? b = some o := fun b o e => (sb2.2 b fun z => by rw [z, o1] at e; cases e).trans (keep1 b o e)
    refine wpAny_pure ⟨plainId_quiet F.plain_set_update_loop _, setI_loop hh S l it hSl hSi hli items ns few nums size old o1 o2 k (i + 1) _ (by omega) (by omega)
      (hit1.at fun o e => (sb2.2 it (Ne.symm hSi)).trans e) ((hl.at fun o e => (sb1.2 l hli).trans e).at fun o e => (sb2.2 l (Ne.symm hSl)).trans e) keep2 ⟨_, by split <;> omega, hS2⟩ fun h' tk n z1 z2 => fin h' tk n z1 z2⟩
set_option maxHeartbeats 8000000 in
theorem call_setI {l : Addr} {items : Array Value} (ns : List Int) {Q : Value → Shared → Prop} (hh : A.handled = none) (hl : s.heap.IsList l items) (nums : IntsAre items.toList ns)
    (few : ns.length ≤ 1000) (hu : A.units + 3 < cLine)
    (k : ∀ (h' : Heap) (tk n : Nat), SetR w h' s.heap.objs.size (fun j => decide (j ∈ ns)) n → (∀ b o, s.heap.get? b = some o → h'.get? b = some o) → Q (.ref s.heap.objs.size) { s with heap := h', toks := tk }) :
    wpAny (model P w) A (call (.type "set") [.ref l]) Q E s := by
  have size : items.size = ns.length := by rw [← Array.length_toList]; exact IntsAre.length nums
  have nums' : ∀ (i : Nat) (k : Int), ns[i]? = some k → ∃ tk, items[i]? = some (Value.int k tk) := fun i k e => by
    have hi : i < items.size := by rw [size]; exact (List.getElem?_eq_some_iff.mp e).1
    obtain ⟨n, t, h1, h2⟩ := IntsAre.at nums i items[i] (by rw [Array.getElem?_toList]; exact Array.getElem?_eq_getElem hi)
    rw [e] at h2
    cases h2
    exact ⟨t, by rw [Array.getElem?_eq_getElem hi, h1]⟩
  obtain ⟨c, tl, hm⟩ := F.called_set.mro
  have a1 := F.called_set.made
  have a2 := F.called_set.sub
  have a3 := F.called_set.notType
  have a4 := F.called_set.canCreate
  have a5 := F.typeCall_set_1 (.ref l)
  refine wpAny_call (codeAny_of_tree ?_)
  show wpAny _ _ (callAny (.type "set") _) _ _ _
  refine wpAny_pure ⟨Code.quiet_builtin _ (by decide +kernel), codeAny_builtin F.entry_type_call ?_⟩
  rw [Around.under_plain (weight_type_call_type "set" [.ref l] []) rfl]
  repeat (any_goals (first | assumption | wp_step))
  refine codeAny_mono (code_set_led1 (.ref l) (E := E) (Q₁ := fun obj s₁ => obj = .ref s.heap.objs.size ∧ s₁ = { s with heap := s.heap.push (noneYet w) }) ⟨rfl, rfl⟩) fun r s₁ hr => ?_
  match r, hr with
  | .error e, hr => exact hr
  | .ok .next, hr => exact hr.elim
  | .ok .brk, hr => exact hr.elim
  | .ok .cont, hr => exact hr.elim
  | .ok (.ret obj), hr =>
    obtain ⟨rfl, rfl⟩ := hr
    have hS : (s.heap.push (noneYet w)).get? s.heap.objs.size = some (noneYet w) := Heap.get?_push_size _ rfl
    have hT : Shared.TypeIs { s with heap := s.heap.push (noneYet w) } (.ref s.heap.objs.size) "set" := ⟨_, hS, rfl⟩
    have b1 := F.called_set.init.lookup
    have b2 := F.called_set.init.bind (.ref s.heap.objs.size)
    repeat (any_goals (first | assumption | wp_step))
    refine codeAny_mono (codeAny_call_builtin (R := wants (fun r s₂ => r = .none ∧ ∃ h' tk n, s₂ = { s with heap := h', toks := tk } ∧ SetR w h' s.heap.objs.size (fun j => decide (j ∈ ns)) n ∧
        (∀ b o, s.heap.get? b = some o → h'.get? b = some o)) E) F.called_set.init.plain F.entry_set_init (check_set_init_1 hT ?_)) fun r₂ s₂ hr₂ => ?_
    · obtain ⟨⟨oc, od, dt, os⟩, g1, g2, nl, g3⟩ := hl
      simp only at g2 g3
      subst g2 g3
      have g4 : (s.heap.push (noneYet w)).get? l = some { cls := .type "list", dict := od, data := .seq items nl, slots := os } := Heap.get?_push_of_some _ g1
      have c1 := F.sub_list_set
      have c2 := F.sub_list_frozenset
      have c3 : (Value.type "list" == Value.type "dict") = false := by decide
      have isl : (s.heap.push (noneYet w)).IsList l items := ⟨_, g4, rfl, nl, rfl⟩
      unfold Builtin.«set.__init__» noKeywords Builtin.Frozenset.updateFrom
      generalize hpi : pyIter = pI
      wp_walk
      subst hpi
      refine wpAny_pyIter_list isl (wpAny_bind (wpAny_runValue ?_))
      have lt : l < s.heap.objs.size := Heap.lt_size g1
      have z1 : (s.heap.push (noneYet w)).objs.size = s.heap.objs.size + 1 := Heap.size_push ..
      have none1 : ∀ b, s.heap.objs.size ≤ b → s.heap.get? b = none := fun b hb => by
        cases q : s.heap.get? b with
        | none => rfl
        | some o => exact absurd (Nat.lt_of_lt_of_le (Heap.lt_size q) hb) (Nat.lt_irrefl _)
      refine setI_loop (A := A.in1.in1) (by simp [hh]) s.heap.objs.size l (s.heap.push (noneYet w)).objs.size (Nat.ne_of_gt lt) (by rw [z1]; exact Nat.ne_of_lt (Nat.lt_succ_self _)) (by rw [z1]; exact Nat.ne_of_lt (Nat.lt_succ_of_lt lt)) items ns few nums' size s.heap (none1 _ (Nat.le_refl _)) (none1 _ (by rw [z1]; exact Nat.le_succ _)) (ns.length - 0) 0 _ rfl (Nat.zero_le _)
        ⟨_, Heap.get?_push_size _ rfl, rfl, rfl⟩ (isl.push _) (fun b o e => Heap.get?_push_of_some _ (Heap.get?_push_of_some _ e)) ⟨0, Nat.le_refl _, by rw [List.take_zero]; exact (setR_fresh w).at fun o e => Heap.get?_push_of_some _ e⟩ fun h' tk n q1 q3 => ?_
      show wpAny _ _ _ _ _ _
      refine wpAny_pure ?_
      show wpAny _ _ (ret Value.none) _ _ _
      exact wpAny_pure ⟨rfl, h', tk, n, rfl, q1, q3⟩
    · match r₂, hr₂ with
      | .error e, hr₂ => exact hr₂
      | .ok .next, hr₂ => exact hr₂.elim
      | .ok .brk, hr₂ => exact hr₂.elim
      | .ok .cont, hr₂ => exact hr₂.elim
      | .ok (.ret r), hr₂ =>
        obtain ⟨rfl, h', tk, n, rfl, q1, q3⟩ := hr₂
        repeat (any_goals (first | assumption | wp_step))
        exact k _ _ _ q1 q3
end
section
variable {X : Cx}
/-- set(xs), xs a list of nums -/
def rSetI (K : PySem.W.Frag) (w : World) : List V → Hp → VK → Prop := fun xs H Q => ∃ (l : Addr) (ns : List Int), xs = [V.ref l] ∧ SqL K H l (ns.map V.int) ∧ ns.length ≤ 1000 ∧
  ∀ (a : Addr) (n : Nat), H a = none → (∃ ls : List Int, ls.Nodup ∧ ls.length = n ∧ ∀ k, k ∈ ls ↔ k ∈ ns) → Q (.ref a) (upd H a (SetO w a (fun j => decide (j ∈ ns)) n))
theorem cr_setI (hc : X.calm = true) (hu : X.A.units + 64 < cLine) : CallR X (.type "set") (rSetI X.K X.w) := by
  intro pins s σ H xs us Q I r h
  obtain ⟨l, ns, rfl, hl, few, q⟩ := h
  rw [Vals.ref1 r]
  obtain ⟨its, rv, pl, hz⟩ := I.list hl
  refine call_setI ns (I.ok.hd hc) pl.isList (intsAre_of rv) few (by omega) fun h' tk n R kp => ?_
  refine ⟨.ref s.heap.objs.size, upd H s.heap.objs.size (SetO X.w s.heap.objs.size (fun j => decide (j ∈ ns)) n), I.laid (t' := tk) kp (Nat.le_refl _) (setO_new R), rfl, ?_⟩
  obtain ⟨ls, h1, h2, h3⟩ := RV.SetR.names R
  exact q _ n (I.hok.fresh (Nat.le_refl _)) ⟨ls, h1, h2, fun k => (h3 k).trans decide_eq_true_iff⟩
end
end RV
set_option maxHeartbeats 4000000
/-! len(s), s a set of ints -/
namespace RV
open PySem PySem.Spec PyProof.Rows L2
section
variable {X : Cx}
def rLenSI (w : World) : List V → Hp → VK → Prop := fun xs H Q => ∃ (a : Addr) (S : Int → Bool) (n : Nat), xs = [V.ref a] ∧ H a = some (SetO w a S n) ∧ Q (.int (n : Int)) H
theorem call_lenSI : CallR X (.builtin "len") (rLenSI X.w) := by
  intro pins s σ H xs us Q I r h
  obtain ⟨a, S, n, rfl, ha, q⟩ := h
  rw [Vals.ref1 r]
  have R : SetR X.w s.heap a S n := (I.hok a _ ha).1
  obtain ⟨o, es, ep, t, ho, hex, hd, _, _, _, hb, hf, hn, _⟩ := R
  subst hn
  refine call_len_set ho hex hd hf ?_ ?_
  · have : scanBound < 2 ^ 62 := by decide
    omega
  · exact ⟨.int (es.size : Int), H, I.tok _, ⟨_, rfl⟩, q⟩
end
end RV
set_option maxHeartbeats 4000000
namespace K9
open PySem PySem.Spec PyProof.Rows L2 RV
/-- a loop over a locked dict's keys -/
theorem it_keys {d : Addr} {o : Obj} {kvs : List (L2.Key × V)} {H0 : Hp} {Fin : Hp → Prop} {Bd : V → Hp → (Hp → Prop) → Prop} (Pv : Nat → Hp → Prop) (h0 : Pv 0 H0) (hl : ∀ i H, Pv i H → H d = some (.frz o (.dK kvs)))
    (hs : ∀ i k v H, kvs[i]? = some (k, v) → Pv i H → Bd (kV k) H (Pv (i + 1))) (hd : ∀ H, Pv kvs.length H → Fin H) :
    ∃ W : Nat → Nat → Hp → Prop, (∃ m, W 0 m H0) ∧ ∀ i m H, W i m H → ((Itk d o kvs).stop i H ∧ Fin H) ∨ ((Itk d o kvs).go i H ∧ ∃ Nx : Hp → Prop, (∀ H', Nx H' → ∃ m', m' < m ∧ W (i + 1) m' H') ∧ ∀ x H', (Itk d o kvs).yld i H x H' → Bd x H' Nx) := by
  refine ⟨fun i m H => i ≤ kvs.length ∧ m + i = kvs.length ∧ Pv i H, ⟨kvs.length, Nat.zero_le _, rfl, h0⟩, fun i m H ⟨hi, hm, hp⟩ => ?_⟩
  have hq := hl i H hp
  rcases Nat.lt_or_ge i kvs.length with z | z
  · refine .inr ⟨⟨hq, z⟩, Pv (i + 1), fun H' p' => ⟨m - 1, by omega, z, by omega, p'⟩, fun x H' y => ?_⟩
    obtain ⟨rfl, k, v, e, rfl⟩ := y
    exact hs i k v _ e hp
  · obtain rfl : i = kvs.length := by omega
    exact .inl ⟨⟨hq, Nat.le_refl _⟩, hd H hp⟩
theorem one_name {k n : Nat} {s : Int} {ls : List Int} (k1 : 1 ≤ k) (nd : ls.Nodup) (ll : ls.length = n) (h : ∀ x, x ∈ ls ↔ x ∈ List.replicate k s) : n = 1 := by
  have z : ∀ x ∈ ls, x = s := fun x hx => List.eq_of_mem_replicate ((h x).mp hx)
  have m : s ∈ ls := (h s).mpr (List.mem_replicate.mpr ⟨by omega, rfl⟩)
  match ls, nd, z, m, ll with
  | [], _, _, m, _ => cases m
  | [_], _, _, _, ll => exact ll.symm
  | a :: b :: l, nd, z, _, _ =>
    have e1 := z a (List.mem_cons_self ..)
    have e2 := z b (List.mem_cons_of_mem _ (List.mem_cons_self ..))
    exact absurd (List.mem_cons.mpr (.inl (e1.trans e2.symm))) (List.nodup_cons.mp nd).1
section
variable {P : Program} {w : World} {K : PySem.W.Frag} {mg : Str → Option Value} {base : Heap}
/-- both periods are seen -/
def Pers (fs ns : List Int) (ps ps2 : List (List Int)) (p : List Int) : Prop := Per ps (hd0 p) (perN ps (hd0 p)) ∧ Per ps2 (hd0 (pf ps2 ns.length fs p)) (perN ps (hd0 p))
/-! ### _law_shift -/
abbrev nShift : List Str := ["_law_rule", "_law_other", "_law_names_here", "_law_number", "_law_there", "_law_own", "_law_its", "_law_wheel", "_law_found", "_law_mark"]
theorem scShift : FnScope nShift ["_law_rule", "_law_other", "_law_names_here", "_law_number"] (defScope sShift) := ⟨rfl, rfl, rfl, by decide +kernel, rfl, by decide +kernel, by decide +kernel⟩
def spShift (K : PySem.W.Frag) (C : Addr) : Sp := fun vs H Q _ => ∃ (r o f : Addr) (k : Nat) (ns ns2 fs p : List Int) (ps ps2 : List (List Int)), vs = [.ref r, .ref o, .ref f, .int (k : Int)] ∧ RuleAt K C H r ns ps ∧ Mir ns ∧ Stp ns ps ∧ RuleAt K C H o ns2 ps2 ∧ Mir ns2 ∧ Stp ns2 ps2 ∧ Ren fs ns ps ns2 ps2 ∧ H f = some (.lst (fs.map V.int)) ∧ (partsOf ps ns.length)[k]? = some p ∧
  ∀ H', Same H H' → Pers fs ns ps ps2 p → Q (.int ((shf ps2 ns.length fs p : Nat) : Int)) H'
theorem ok_shift {f C fP fO fK fM : Addr} {fd dP dO dK dM : FuncData} (F : Fun K "_law_shift" "_law_shift" sShift f fd) (B : Bare mg) (DP : DefAt K mg "parts" sParts ["rule"] fP dP) (GP : FnOk P w K mg base CX0 3 fP dP ["rule"] (spParts K C))
    (DO : DefAt K mg "part_of" sPartOf ["rule", "mark"] fO dO) (GO : FnOk P w K mg base CX0 4 fO dO ["rule", "mark"] (spPartOf K C)) (DK : DefAt K mg "_law_known" sKnown ["_law_rule", "_law_number"] fK dK) (GK : FnOk P w K mg base CX0 6 fK dK ["_law_rule", "_law_number"] (spKnown K C))
    (DM : DefAt K mg "period" sPeriod ["rule", "part"] fM dM) (GM : FnOk P w K mg base CX0 4 fM dM ["rule", "part"] (spPeriod K C)) : FnOk P w K mg base CX0 7 f fd ["_law_rule", "_law_other", "_law_names_here", "_law_number"] (spShift K C) := by
  refine F.ok scShift (fun vs H Q E h => ?_) (fun cdv A outer s H vs Q E hr h => ?_)
  · obtain ⟨r, o, a, k, ns, ns2, fs, p, ps, ps2, rfl, _⟩ := h
    rfl
  · obtain ⟨r, o, a, k, ns, ns2, fs, p, ps, ps2, rfl, R, M, S, R2, M2, S2, RN, ha, gk, q⟩ := h
    have hu := hu_of hr
    have r3 := hr.mono (show 3 ≤ 6 by decide)
    have r4 := hr.mono (show 4 ≤ 6 by decide)
    have three : (3 : Nat) ≤ sizeLine := by decide
    refine ⟨_, pss_cons (ps_set (i := 4) scShift.nd rfl (Or.inl rfl) (pe_call GO r4 (by rfl) DO.mg DO.fn.kp DO.bi .nil pass0 (pa_cons (pv 1) (pa_cons (pe_ix ix_list (pv 2) (pe_ix ix_tup (pe_ix ix_tup (pe_call GP r3 (by rfl) DP.mg DP.fn.kp DP.bi .nil pass0 (pa_cons (pv 0) pa_nil)) (pv 3) (fun _ _ => rfl)) pe_int (fun _ _ => rfl)) (fun _ _ => rfl)) pa_nil))))
      (pss_cons (ps_asg (pe_tup (pa_cons (pe_call GK hr (by rfl) DK.mg DK.fn.kp DK.bi .nil pass0 (pa_cons (pv 0) (pa_cons (pv 3) pa_nil))) (pa_cons (pe_call GK hr (by rfl) DK.mg DK.fn.kp DK.bi .nil pass0 (pa_cons (pv 1) (pa_cons (pv 4) pa_nil))) (pa_cons (pe_call GM r4 (by rfl) DM.mg DM.fn.kp DM.bi .nil pass0 (pa_cons (pv 0) (pa_cons (pv 3) pa_nil))) pa_nil))))
        (pg_tup rfl (pgs_cons (pg_name (i := 5) scShift.nd rfl (Or.inr rfl)) (pgs_cons (pg_name (i := 6) scShift.nd rfl (Or.inr rfl)) (pgs_cons (pg_name (i := 7) scShift.nd rfl (Or.inr rfl)) pgs_nil)))))
      (pss_cons (ps_lock (ps_setLc (i := 8) (own := [("_law_mark", 9)]) (g := gName 9) (tt := tYes) rfl scShift.nd rfl rfl (by rfl) (pi_keys (pv 5)) (blkOk_by (N := nShift) (sc := defScope sShift) (by decide +kernel)) (fun _ _ _ _ _ => pg_name (i := 9) scShift.nd rfl (Or.inl rfl)) (fun _ _ _ _ _ => pts_nil)
          (fun _ _ _ _ _ => pe_op op_mod (pe_op op_sub (pe_dget hu (pv 6) (pe_ix (ix_listK (K := K) rfl) (pv 2) (pv 9) (fun _ _ => rfl)) (fun _ _ => rfl)) (pe_dget hu (pv 5) (pv 9) (fun _ _ => rfl))) (pv 7))))
      (pss_one (ps_ret (pe_ifExp (pt_cmpR op_eq (pe_callB call_lenSI (by rfl) B.len PySem.boot_len (pa_cons (pe_callTy (cr_setI rfl hr.units) (by rfl) B.set (by decide +kernel) (pa_cons (pv 8) pa_nil)) pa_nil)) pe_int (nomark _)) (pe_ix ix_list (pv 8) pe_int (fun _ _ => rfl)) (pe_un un_neg pe_int)))))), ?_⟩
    have hP : ∀ q ∈ ps, Pr (ns.length : Int) q := fun q hq => S.pair q hq
    have hp := List.mem_of_getElem? gk
    obtain ⟨hx, hlx⟩ := part_hd_in hp
    have bx := part_bd hp hx
    have hn := RN.len
    have lp8 := part_len8 M.few hp
    have lp1 : 1 ≤ p.length := List.length_pos_of_mem hx
    have at_ : ∀ {m : Int}, (0 ≤ m ∧ m < (ns.length : Int)) → atI (fs.map V.int) m = some (.int (nm fs m)) := fun {m} hm => by
      have e : m = ((m.toNat : Nat) : Int) := by omega
      have z := nm_at RN.N hm
      have z2 : atI (fs.map V.int) ((m.toNat : Nat) : Int) = some (.int (nm fs m)) := atI_nat (by rw [List.getElem?_map, z]; rfl)
      rw [← e] at z2
      exact z2
    -- there
    refine ⟨.ref o, rfl, .ref a, rfl, .ref r, rfl, r, ns, ps, rfl, R, M, S, fun H1 c s1 nc hC => ?_⟩
    obtain ⟨ks, ek, hc, hks⟩ := hC
    have gk' : (ks.map (·.2))[k]? = some p := by rw [ek]; exact gk
    obtain ⟨kk, g, ekk⟩ := map_at gk'
    have hT1 : SqT K H1 kk.1 (p.map V.int) := by rw [ekk]; exact (hks kk (List.mem_of_getElem? g)).sq
    have hx0 : (p.map V.int)[0]? = some (.int (hd0 p)) := by
      cases e : p with
      | nil => exact absurd e (part_ne hp)
      | cons x l => rfl
    refine ⟨.int (k : Int), rfl, c, _, _, .ref kk.1, rfl, rfl, tupNew hc, atI_nat (by rw [List.getElem?_map, g]; rfl), kk.1, _, 0, .int (hd0 p), rfl, rfl, hT1, atI_nat (j := 0) hx0, ?_⟩
    refine ⟨a, _, _, _, rfl, rfl, lstNew (s1 _ _ ha), at_ bx, ?_⟩
    have bn := nm_in RN.N bx
    refine ⟨o, nm fs (hd0 p), ns2, ps2, rfl, R2.same s1, M2, S2, by rw [hn]; exact bn, fun H2 v s2 hv => ?_⟩
    have hxl : hd0 p ∈ lotOf ps ns.length (hd0 p) := by rw [hlx]; exact hx
    have rx2 := (RN.rch hP bx bx).mpr (lot_some hxl)
    rcases hv with ⟨no, _⟩ | ⟨k2, gk2, _, rfl⟩
    · exact absurd rx2 no
    have s02 := s1.trans s2
    -- own, its, wheel
    refine ⟨.ref r, rfl, .int (k : Int), rfl, r, k, ns, ps, p, rfl, R.same s02, M, S, gk, fun H3 d1 s3 nd1 kn1 per1 => ?_⟩
    have s03 := s02.trans s3
    refine ⟨.ref o, rfl, .int (k2 : Int), rfl, o, k2, ns2, ps2, _, rfl, R2.same s03, M2, S2, gk2, fun H4 d2 s4 nd2 kn2 per2 => ?_⟩
    rw [hn] at kn2 per2
    have s04 := s03.trans s4
    refine ⟨.ref r, rfl, .int (k : Int), rfl, r, k, ns, ps, p, rfl, R.same s04, M, S, gk, fun H5 s5 _ => ⟨three, fun T0 nT => ?_⟩⟩
    have eg := RN.per_of hP hp per1 per2
    have pos : 0 < perN ps (hd0 p) := per1.pos (lot_some hxl)
    have per2' : Per ps2 (hd0 (pf ps2 ns.length fs p)) (perN ps (hd0 p)) := by rw [eg]; exact per2
    generalize hg : perN ps (hd0 p) = wh at pos per1 per2' ⊢
    have sT := same_upd (o := .tup [.ref d1, .ref d2, .int ((wh : Nat) : Int)]) nT
    refine ⟨T0, _, rfl, tupNew upd_same, rfl, _, _, rfl, _, _, rfl, _, _, rfl, rfl, ?_⟩
    have s06 := (s04.trans s5).trans sT
    have kn1' := (kn1.same s4).same (s5.trans sT)
    have kn2' := kn2.same (s5.trans sT)
    have nd1' : H d1 = none := s02.free nd1
    generalize upd H5 T0 (.tup [.ref d1, .ref d2, .int ((wh : Nat) : Int)]) = H6 at s06 kn1' kn2' ⊢
    refine ⟨d1, .dK (p.map fun m => (Sum.inl m, V.int ((clsM ps ns.length m : Nat) : Int))), kn1', trivial, fun od => ?_⟩
    have efz : (upd H6 d1 (.frz od (.dK (p.map fun m => (Sum.inl m, V.int ((clsM ps ns.length m : Nat) : Int)))))) d1 = some (.frz od (.dK (p.map fun m => (Sum.inl m, V.int ((clsM ps ns.length m : Nat) : Int))))) := upd_same
    have bfz : But d1 H6 (upd H6 d1 (.frz od (.dK (p.map fun m => (Sum.inl m, V.int ((clsM ps ns.length m : Nat) : Int)))))) := fun b' o' e' z => by rw [upd_ne z]; exact e'
    generalize upd H6 d1 (.frz od (.dK (p.map fun m => (Sum.inl m, V.int ((clsM ps ns.length m : Nat) : Int))))) = H7 at efz bfz ⊢
    have n21 : d2 ≠ d1 := fun z => by
      have e1 := s03 _ _ ha
      have e2 : H3 d1 = some _ := kn1
      rw [← z, nd2] at e2
      cases e2
    have na1 : a ≠ d1 := ne_of_none ha nd1'
    have kn27 : Knw H7 d2 ps2 ns.length (pf ps2 ns.length fs p) := bfz _ _ kn2' n21
    have ha7 := bfz _ _ (s06 _ _ ha) na1
    refine ⟨.ref d1, rfl, d1, od, rfl, .inl ⟨_, efz, fun D nD => ?_⟩⟩
    have hDd : D ≠ d1 := fun z => by rw [z, efz] at nD; cases nD
    refine it_keys (fun i' H' => Same H7 H' ∧ H' D = some (.lst (List.replicate i' (V.int ((shf ps2 ns.length fs p : Nat) : Int))))) ⟨same_upd nD, upd_same⟩ (fun i' H' h => h.1 _ _ efz) (fun i' kk v H8 hk h => ?_) fun H8 h => ?_
    · obtain ⟨s8, l8⟩ := h
      obtain ⟨m, gm, ekv⟩ := map_at hk
      cases ekv
      have hm := List.mem_of_getElem? gm
      have hi : i' < p.length := (List.getElem?_eq_some_iff.mp gm).1
      have bm := part_bd hp hm
      have im2 : nm fs m ∈ pf ps2 ns.length fs p := (RN.pf_mem hP hp).mpr (List.mem_map_of_mem hm)
      have c := RN.cls hP hp per1 per2' hm
      have e : (((clsM ps2 ns.length (nm fs m) : Nat) : Int) - ((clsM ps ns.length m : Nat) : Int)) % ((wh : Nat) : Int) = ((shf ps2 ns.length fs p : Nat) : Int) := shift_is pos (cls_lt (RN.pf_part hP hp) ((RN.pf_mem hP hp).mpr (List.mem_map_of_mem hx)) per2' pos RN.inn) c
      refine ⟨by simp [wipe, List.set_set], tt_yes ⟨.ref d2, rfl, .ref a, rfl, .int m, rfl, a, _, _, _, rfl, rfl, lstNew (s8 _ _ ha7), at_ bm, d2, .int ((clsM ps2 ns.length (nm fs m) : Nat) : Int), rfl, ?_, ?_⟩⟩
      · rw [← knw_val (f := fun m => V.int ((clsM ps2 ns.length m : Nat) : Int)) im2]
        exact DGet.k (k := Sum.inl (nm fs m)) (s8 _ _ kn27)
      · refine ⟨.ref d1, rfl, .int m, rfl, d1, .int ((clsM ps ns.length m : Nat) : Int), rfl, ?_, _, _, rfl, rfl, .int ((wh : Nat) : Int), rfl, _, _, rfl, rfl, (by show (0 : Int) < ((wh : Nat) : Int); omega), ?_⟩
        · rw [← knw_val (f := fun m => V.int ((clsM ps ns.length m : Nat) : Int)) hm]
          exact .inl ⟨_, Sum.inl m, .inr ⟨od, s8 _ _ efz⟩, rfl, rfl⟩
        · refine ⟨_, l8, by rw [List.length_replicate]; exact few1 (by omega), fun b' o' e' => by rw [upd_ne (ne_of_none e' nD)]; exact s8 b' o' e', ?_⟩
          rw [upd_same]
          dsimp only
          rw [e, rep_next]
    obtain ⟨s8, l8⟩ := h
    rw [List.length_map] at l8
    refine ⟨s8 _ _ efz, ?_⟩
    have e9 : (upd H8 d1 (.dK (p.map fun m => (Sum.inl m, V.int ((clsM ps ns.length m : Nat) : Int))))) D = some (.lst ((List.replicate p.length ((shf ps2 ns.length fs p : Nat) : Int)).map V.int)) := by
      rw [upd_ne hDd, l8, List.map_replicate]
    have s9 : Same H6 (upd H8 d1 (.dK (p.map fun m => (Sum.inl m, V.int ((clsM ps ns.length m : Nat) : Int))))) := fun b' o' e' => by
      by_cases z : b' = d1
      · subst z
        rw [upd_same, ← e']
        exact kn1'.symm
      · rw [upd_ne z]; exact s8 _ _ (bfz _ _ e' z)
    generalize upd H8 d1 (.dK (p.map fun m => (Sum.inl m, V.int ((clsM ps ns.length m : Nat) : Int)))) = H9 at e9 s9 ⊢
    have s09 := s06.trans s9
    refine ⟨.ref D, rfl, D, _, rfl, lstNew e9, by rw [List.length_replicate]; omega, fun S n nS hls => ?_⟩
    obtain ⟨ls, l1, l2, l3⟩ := hls
    have en := one_name lp1 l1 l2 l3
    subst en
    have sS := same_upd (o := SetO w S (fun j => decide (j ∈ List.replicate p.length ((shf ps2 ns.length fs p : Nat) : Int))) 1) nS
    refine ⟨S, _, 1, rfl, upd_same, rfl, _, rfl, ?_⟩
    refine iteT ?_
    have z0 : ((List.replicate p.length ((shf ps2 ns.length fs p : Nat) : Int)).map V.int)[0]? = some (.int ((shf ps2 ns.length fs p : Nat) : Int)) := by
      rw [List.getElem?_map, List.getElem?_replicate, if_pos (by omega)]; rfl
    refine ⟨.ref D, rfl, D, _, 0, .int ((shf ps2 ns.length fs p : Nat) : Int), rfl, rfl, lstNew (sS _ _ e9), atI_nat (j := 0) z0, ?_⟩
    exact q _ (s09.trans sS) ⟨by rw [hg]; exact per1, by rw [hg]; exact per2'⟩
end
end K9
set_option maxHeartbeats 4000000
namespace K9
open PySem PySem.Spec PyProof.Rows L2 RV
/-- a plain tuple of plain tuples of ints -/
def TupsF (H : Hp) (a : Addr) (ps : List (List Int)) : Prop := ∃ ks : List (Addr × List Int), ks.map (·.2) = ps ∧ TupD H a (ks.map fun p => V.ref p.1) ∧ ∀ p ∈ ks, TupD H p.1 (p.2.map V.int)
theorem TupsF.tups {K : PySem.W.Frag} {H : Hp} {a : Addr} {ps : List (List Int)} (h : TupsF H a ps) : Tups K H a ps :=
  let ⟨ks, h1, h2, h3⟩ := h; ⟨ks, h1, h2.sq, fun p hp => (h3 p hp).sq⟩
section
variable {P : Program} {w : World} {K : PySem.W.Frag} {mg : Str → Option Value} {base : Heap}
def spPartsF (K : PySem.W.Frag) (C : Addr) : Sp := fun vs H Q _ => ∃ (r : Addr) (ns : List Int) (ps : List (List Int)), vs = [.ref r] ∧ RuleAt K C H r ns ps ∧ Mir ns ∧ Stp ns ps ∧
  ∀ (H' : Hp) (c : Addr), Same H H' → H c = none → TupsF H' c (partsOf ps ns.length) → Q (.ref c) H'
theorem ok_partsF {f C fL fM : Addr} {fd dL dM : FuncData} (F : Fun K "parts" "parts" sParts f fd) (T : Txt K mg C) (B : Bare mg) (DL : DefAt K mg "led_to" sLed ["rule", "mark"] fL dL) (GL : FnOk P w K mg base CX0 2 fL dL ["rule", "mark"] (spLed K C))
    (FM : Fun K "marks" "Rule.marks" sMarksM fM dM) (bM : Binds K dM ["self"] []) (mM : Meth K C "marks" fM) : FnOk P w K mg base CX0 3 f fd ["rule"] (spPartsF K C) := by
  have GM : FnOk P w K mg base CX0 1 fM dM ["self"] (spMarksM K C) := ok_marksM FM T B
  refine F.ok scParts (fun vs H Q E h => ?_) (fun cdv A outer s H vs Q E hr h => ?_)
  · obtain ⟨r, ns, ps, rfl, _⟩ := h
    rfl
  · obtain ⟨r, ns, ps, rfl, R, M, S, q⟩ := h
    have hu5 := un65 hr
    have hr1 := hr.mono (show 1 ≤ 2 by decide)
    refine ⟨_, pss_cons (ps_set (i := 1) scParts.nd rfl (Or.inl rfl) (pe_listRg rfl (by rfl) B.list (prg_1 (by rfl) B.range (pe_meth0 (pv 0) T.cl mM GM hr1 bM .nil pass0))))
      (pss_cons (ps_set (i := 3) scParts.nd rfl (Or.inr rfl) (pe_lc (own := [("mark", 2)]) (g := gName 2) (tt := tYes) rfl scParts.nd (pi_list (pv 1)) (blkOk_by (N := ["rule", "every", "mark", "ways", "found", "part", "other"]) (sc := defScope sParts) (by decide +kernel))
          (fun _ _ _ _ _ => pg_name (i := 2) scParts.nd rfl (Or.inl rfl)) (fun _ _ _ _ _ => pts_nil) (fun _ _ _ _ _ => pe_call GL hr (by rfl) DL.mg DL.fn.kp DL.bi .nil pass0 (pa_cons (pv 0) (pa_cons (pv 2) pa_nil)))))
      (pss_cons (ps_set (i := 4) scParts.nd rfl (Or.inl rfl) (pe_lst pa_nil))
      (pss_cons (ps_for PassesOwn.never rfl (pi_list (pv 1)) (pg_name (i := 2) scParts.nd rfl (Or.inr rfl))
        (pss_cons (ps_set (i := 5) scParts.nd rfl (Or.inl rfl) (pe_tupleF (by rfl) B.tuple
          (pe_lc (own := [("other", 6)]) (g := gName 6) rfl scParts.nd (pi_list (pv 1)) (blkOk_by (N := ["rule", "every", "mark", "ways", "found", "part", "other"]) (sc := defScope sParts) (by decide +kernel))
            (fun _ _ _ _ _ => pg_name (i := 6) scParts.nd rfl (Or.inl rfl))
            (fun _ _ _ _ _ => pts_one (PW.pt (pw_and (pt_cmpR (op_inDK (K := K) rfl hu5) (pv 6) (pe_ix (ix_listK (K := K) rfl) (pv 3) (pv 2) (fun _ _ => rfl)) (by rfl)) (pw_and1 (pt_cmpR (op_inDK (K := K) rfl hu5) (pv 2) (pe_ix (ix_listK (K := K) rfl) (pv 3) (pv 6) (fun _ _ => rfl)) (by rfl))))))
            (fun _ _ _ _ _ => pv 6))))
        (pss_one (ps_if (PW.pt (pw_and (pt_cmpR op_gt (pe_callB call_len_seq (by rfl) B.len PySem.boot_len (pa_cons (pv 5) pa_nil)) pe_int (nomark _)) (pw_and1 (pt_cmpR op_eq (pe_ix ix_tup (pv 5) pe_int (fun _ _ => rfl)) (pv 2) (nomark _)))))
          (pss_one (ps_expr (pe_bm PySem.F.plainAttrs_list PySem.F.slot_list_append PySem.F.type_list_append mt_append (pv 4) (pa_cons (pv 5) pa_nil)))) pss_nil))))
      (pss_one (ps_ret (pe_tupleF (by rfl) B.tuple (pv 4))))))), ?_⟩
    obtain ⟨dx, a0, b0, t0, g1, g2, g3, g4⟩ := R.ex
    have fno := flds_no a0 b0 t0 (m := "marks") (by decide +kernel) (by decide +kernel) (by decide +kernel)
    have h8 := M.few
    have hP : ∀ p ∈ ps, Pr (ns.length : Int) p := fun p hp => S.pair p hp
    -- every
    refine ⟨.ref r, rfl, r, dx, _, rfl, g1, fno, r, ns, ps, rfl, R, _, rfl, RgOk.of_le (by omega) (by omega) (by omega) (by omega), fun E0 nE => ?_⟩
    rw [rgV_upN]
    have s1 := same_upd (o := .lst ((upN ns.length).map V.int)) nE
    have eE : (upd H E0 (.lst ((upN ns.length).map V.int))) E0 = some (.lst ((upN ns.length).map V.int)) := upd_same
    generalize upd H E0 (.lst ((upN ns.length).map V.int)) = H1 at s1 eE ⊢
    -- ways
    refine ⟨.ref E0, rfl, E0, rfl, ⟨_, lstNew eE⟩, fun D nD => ?_⟩
    refine lc_list (K := K) (a := E0) (xs := (upN ns.length).map V.int) (fun i H' => Same H1 H' ∧ ∃ ws, ws.length = i ∧ Ways H' D ps ws) ⟨same_upd nD, [], rfl, upd_same, fun k x g => nomatch g⟩ (fun i H' _ p => lstNew (p.1 _ _ eE)) (fun i x H' hx p => ?_) fun H2 p => ?_
    · obtain ⟨k, g, rfl⟩ := map_at hx
      have hil : i < ns.length := by
        have := (List.getElem?_eq_some_iff.mp g).1
        rwa [upN_len] at this
      rw [upN_get hil] at g
      have ek : (i : Int) = k := Option.some.inj g
      subst ek
      obtain ⟨p1, ws, hws, W⟩ := p
      refine ⟨rfl, tt_yes ⟨.ref r, rfl, .int (i : Int), rfl, r, (i : Int), ns, ps, rfl, R.same (s1.trans p1), M, S, ⟨by omega, by omega⟩, fun H3 c fs s3 nc e3 l3 m3 => ?_⟩⟩
      have W3 := W.same s3
      have cD : c ≠ D := (ne_of_none W.1 nc).symm
      refine ⟨_, W3.1, by rw [List.length_map]; exact few1 (by omega), fun b o z => ?_, ws ++ [(c, fs)], by rw [List.length_append, hws]; rfl, ?_, fun k x gx => ?_⟩
      · rw [upd_ne (ne_of_none z nD)]; exact s3 _ _ (p1 b o z)
      · rw [upd_same, List.map_append]; rfl
      · by_cases hk : k < ws.length
        · rw [List.getElem?_append_left hk] at gx
          obtain ⟨w1, w2, w3, w4⟩ := W3.2 k x gx
          exact ⟨by rw [upd_ne w2]; exact w1, w2, w3, w4⟩
        · have hk2 := (List.getElem?_eq_some_iff.mp gx).1
          rw [List.length_append] at hk2
          have hk3 : k = ws.length := by
            have : ([(c, fs)] : List (Addr × List Int)).length = 1 := rfl
            omega
          subst hk3
          rw [List.getElem?_append_right (Nat.le_refl _), Nat.sub_self] at gx
          have ex : (c, fs) = x := Option.some.inj gx
          subst ex
          exact ⟨by rw [upd_ne cD]; exact e3, cD, l3, by rw [hws]; exact m3⟩
    · obtain ⟨p1, ws, hws, W⟩ := p
      rw [List.length_map, upN_len] at hws
      refine nx_step ?_
      dsimp only
      -- found
      refine ⟨Nat.zero_le _, fun F0 nF => ?_⟩
      have sF := same_upd (o := .lst []) nF
      refine ⟨.ref E0, rfl, E0, rfl, ⟨_, lstNew (sF _ _ (p1 _ _ eE))⟩, ?_⟩
      have nFH : H F0 = none := s1.free (p1.free nF)
      refine for_list (K := K) (a := E0) (xs := (upN ns.length).map V.int) (fun i σ H' => ∃ (ks : List (Addr × List Int)) (y2 y5 y6 : Option V), σ = [some (.ref r), some (.ref E0), y2, some (.ref D), some (.ref F0), y5, y6] ∧ Same H2 H' ∧ H' F0 = some (.lst (ks.map fun p => V.ref p.1)) ∧ ks.map (·.2) = partsTo ps ns.length i ∧ ∀ k ∈ ks, TupD H' k.1 (k.2.map V.int))
        ⟨[], none, none, none, rfl, sF, upd_same, rfl, fun _ z => nomatch z⟩ (fun i σ H' _ h => ?_) (fun i x σ H' hx h => ?_) (fun σ H' h => ?_)
      · obtain ⟨_, _, _, _, _, s', _⟩ := h
        exact lstNew (s' _ _ (p1 _ _ eE))
      · obtain ⟨ks, y2, y5, y6, rfl, s', eF, eks, hks⟩ := h
        obtain ⟨m, g, rfl⟩ := map_at hx
        have hil : i < ns.length := by
          have := (List.getElem?_eq_some_iff.mp g).1
          rwa [upN_len] at this
        have g' := g
        rw [upN_get hil] at g'
        have ek : (i : Int) = m := Option.some.inj g'
        subst ek
        have W' := W.same s'
        have lks : ks.length ≤ ns.length := by
          have z := congrArg List.length eks
          rw [List.length_map] at z
          have := partsTo_len ps ns.length i
          omega
        -- part
        refine ⟨.ref E0, rfl, E0, rfl, ⟨_, lstNew (s' _ _ (p1 _ _ eE))⟩, fun D2 nD2 => ?_⟩
        refine lc_filtL (f := fun y => rB ps (i : Int) y && rB ps y (i : Int)) (lstNew (s' _ _ (p1 _ _ eE))) (by rw [upN_len]; omega) nD2 (fun y hy H4 s4 A B h => ?_) (fun y H' Q h => ⟨.int y, rfl, h⟩) fun H4 s4 eD2 => ?_
        · have W4 := W'.same s4
          have hy' := mem_upN.mp hy
          obtain ⟨wi, gwi⟩ : ∃ x, ws[i]? = some x := ⟨_, List.getElem?_eq_getElem (by omega)⟩
          obtain ⟨wy, gwy⟩ : ∃ x, ws[y.toNat]? = some x := ⟨_, List.getElem?_eq_getElem (by omega)⟩
          obtain ⟨u1, _, _, u4⟩ := W4.2 _ _ gwi
          obtain ⟨v1, _, _, v4⟩ := W4.2 _ _ gwy
          have hh := h H4 (Same.refl H4)
          refine ⟨.int y, rfl, .ref D, rfl, .int (i : Int), rfl, D, _, _, .ref wi.1, rfl, rfl, lstNew W4.1, atI_nat (by rw [List.getElem?_map, gwi]; rfl), .int y, wi.2.map PyData.int, .int y, dpL (lstNew u1), shapedN y, shapedLI _, _, rfl, ?_⟩
          rw [any_int, in_way u4]
          cases e1 : rB ps (i : Int) y with
          | false =>
            rw [e1] at hh
            exact iteF hh
          | true =>
            rw [e1] at hh
            refine iteT ?_
            have ey : atI (ws.map fun p => V.ref p.1) y = some (.ref wy.1) := by
              have z : atI (ws.map fun p => V.ref p.1) ((y.toNat : Nat) : Int) = some (.ref wy.1) := atI_nat (by rw [List.getElem?_map, gwy]; rfl)
              rwa [Int.toNat_of_nonneg hy'.1] at z
            refine ⟨.int (i : Int), rfl, .ref D, rfl, .int y, rfl, D, _, _, .ref wy.1, rfl, rfl, lstNew W4.1, ey, .int (i : Int), wy.2.map PyData.int, .int (i : Int), dpL (lstNew v1), shapedN _, shapedLI _, _, rfl, ?_⟩
            rw [any_int, in_way v4, Int.toNat_of_nonneg hy'.1]
            rw [Bool.true_and] at hh
            exact hh
        · change H4 D2 = some (.lst ((lotOf ps ns.length (i : Int)).map V.int)) at eD2
          refine ⟨D2, _, rfl, lstNew eD2, fun T0 ob nT od oc => ?_⟩
          have sT := same_upd (o := .frz ob (.tup ((lotOf ps ns.length (i : Int)).map V.int))) nT
          have eT : TupD (upd H4 T0 (.frz ob (.tup ((lotOf ps ns.length (i : Int)).map V.int)))) T0 ((lotOf ps ns.length (i : Int)).map V.int) := ⟨ob, od, oc, upd_same⟩
          have s5 := s4.trans sT
          generalize upd H4 T0 (.frz ob (.tup ((lotOf ps ns.length (i : Int)).map V.int))) = H5 at eT s5 ⊢
          have eF5 := s5 _ _ eF
          have s25 := s'.trans s5
          refine ⟨.ref T0, rfl, T0, _, rfl, .inr eT.sq, _, _, rfl, rfl, _, rfl, ?_⟩
          have nxt := partsTo_next (ps := ps) g
          have no : isHead ps ns.length (i : Int) = false → partsTo ps ns.length (i + 1) = partsTo ps ns.length i := fun e => by
            rw [nxt, e, if_neg (by simp), List.append_nil]
          cases el : lotOf ps ns.length (i : Int) with
          | nil =>
            have e0 : isHead ps ns.length (i : Int) = false := by unfold isHead; rw [el]; rfl
            refine iteF (iteF ?_)
            exact ⟨ks, _, _, _, rfl, s25, eF5, by rw [no e0]; exact eks, fun k hk => (hks k hk).same s5⟩
          | cons x l =>
            rw [el] at eT
            have e0 : decide ((List.map V.int (x :: l)).length > (0 : Int)) = true := decide_eq_true (by rw [List.map_cons, List.length_cons]; omega)
            rw [e0]
            refine iteT ⟨.ref T0, rfl, T0, _, 0, .int x, rfl, rfl, eT.sq, atI_nat (j := 0) rfl, .int (i : Int), rfl, rfl, _, rfl, ?_⟩
            by_cases ex : x = (i : Int)
            · have e1 : isHead ps ns.length (i : Int) = true := by unfold isHead; rw [el, ex]; exact decide_eq_true rfl
              rw [decide_eq_true (by rw [ex])]
              refine iteT ⟨.ref F0, rfl, .inl ⟨rfl, _, lstNew eF5⟩, .ref T0, rfl, F0, _, _, rfl, rfl, eF5, by rw [List.length_map]; exact few1 (by omega), ?_⟩
              have tF : ∀ (c : Addr) (xs : List V), TupD H5 c xs → TupD (upd H5 F0 (.lst (ks.map (fun p => V.ref p.1) ++ [.ref T0]))) c xs := fun c xs ⟨o, z1, z2, e⟩ => ⟨o, z1, z2, by
                rw [upd_ne (fun z => by rw [z, eF5] at e; cases e)]; exact e⟩
              refine ⟨ks ++ [(T0, lotOf ps ns.length (i : Int))], _, _, _, rfl, fun b o z => ?_, ?_, ?_, fun k hk => ?_⟩
              · rw [upd_ne (ne_of_none z nF)]; exact s25 b o z
              · rw [upd_same, List.map_append]; rfl
              · rw [nxt, if_pos e1, List.map_append, eks]; rfl
              · rcases List.mem_append.mp hk with z | z
                · exact tF _ _ ((hks k z).same s5)
                · rw [List.mem_singleton.mp z]
                  refine tF _ _ ?_
                  rw [el]; exact eT
            · have e1 : isHead ps ns.length (i : Int) = false := by
                unfold isHead
                rw [el]
                exact decide_eq_false fun z => ex (Option.some.inj z)
              rw [decide_eq_false (fun z => ex (V.int.inj z))]
              refine iteF ?_
              exact ⟨ks, _, _, _, rfl, s25, eF5, by rw [no e1]; exact eks, fun k hk => (hks k hk).same s5⟩
      · obtain ⟨ks, y2, y5, y6, rfl, s', eF, eks, hks⟩ := h
        rw [List.length_map, upN_len, partsTo_all] at eks
        refine ⟨.ref F0, rfl, F0, _, rfl, lstNew eF, fun c o nc od oc => ?_⟩
        have sc := same_upd (o := .frz o (.tup (ks.map fun p => V.ref p.1))) nc
        have s02 := s1.trans (p1.trans s')
        exact q _ c (s02.trans sc) (s02.free nc) ⟨ks, eks, ⟨o, od, oc, upd_same⟩, fun k hk => (hks k hk).same sc⟩
end
end K9
set_option maxHeartbeats 4000000
namespace K9
open PySem PySem.Spec PyProof.Rows L2 RV
theorem cr_sortedIK {X : Cx} {K : PySem.W.Frag} (h : X.K = K) : CallR X (.builtin "sorted") (rSortedI K) := h ▸ cr_sortedI
theorem eqvLs (ls ms : List (List Int)) : PyData.eqv (.list (ls.map RV.dI)) (.list (ms.map RV.dI)) = decide (ls = ms) := by simp only [PyData.eqv, eqv_dIs]
section
variable {P : Program} {w : World} {K : PySem.W.Frag} {mg : Str → Option Value} {base : Heap}
/-! ### _law_names_right -/
abbrev nNR : List Str := ["_law_rule", "_law_other", "_law_names_here", "_law_lots", "_law_number", "_law_there", "_law_beyond", "_law_shifts", "_law_marks", "_law_mark"]
theorem scNR : FnScope nNR ["_law_rule", "_law_other", "_law_names_here"] (defScope sNamesR) := ⟨rfl, rfl, rfl, by decide +kernel, rfl, by decide +kernel, by decide +kernel⟩
def spNR (K : PySem.W.Frag) (C : Addr) : Sp := fun vs H Q _ => ∃ (r o f : Addr) (ns ns2 fs : List Int) (ps ps2 : List (List Int)), vs = [.ref r, .ref o, .ref f] ∧ RuleAt K C H r ns ps ∧ Mir ns ∧ Stp ns ps ∧ RuleAt K C H o ns2 ps2 ∧ Mir ns2 ∧ Stp ns2 ps2 ∧ Ren fs ns ps ns2 ps2 ∧ H f = some (.lst (fs.map V.int)) ∧
  ∀ H', Same H H' → Q (.bl true) H'
theorem ok_nr {f C fP fM fE fT fS : Addr} {fd dP dM dE dT dS : FuncData} (F : Fun K "_law_names_right" "_law_names_right" sNamesR f fd) (B : Bare mg) (DP : DefAt K mg "parts" sParts ["rule"] fP dP) (GP : FnOk P w K mg base CX0 3 fP dP ["rule"] (spParts K C)) (GF : FnOk P w K mg base CX0 3 fP dP ["rule"] (spPartsF K C))
    (DM : DefAt K mg "mirror_part" sMirrorPart ["rule", "part"] fM dM) (GM : FnOk P w K mg base CX0 5 fM dM ["rule", "part"] (spMirrorPart K C)) (DE : DefAt K mg "period" sPeriod ["rule", "part"] fE dE) (GE : FnOk P w K mg base CX0 4 fE dE ["rule", "part"] (spPeriod K C))
    (DT : DefAt K mg "turning" sTurning ["rule", "part"] fT dT) (GT : FnOk P w K mg base CX0 7 fT dT ["rule", "part"] (spTurning K C)) (DS : DefAt K mg "_law_shift" sShift ["_law_rule", "_law_other", "_law_names_here", "_law_number"] fS dS) (GS : FnOk P w K mg base CX0 7 fS dS ["_law_rule", "_law_other", "_law_names_here", "_law_number"] (spShift K C)) :
    FnOk P w K mg base CX0 8 f fd ["_law_rule", "_law_other", "_law_names_here"] (spNR K C) := by
  refine F.ok scNR (fun vs H Q E h => ?_) (fun cdv A outer s H vs Q E hr h => ?_)
  · obtain ⟨r, o, a, ns, ns2, fs, ps, ps2, rfl, _⟩ := h
    rfl
  · obtain ⟨r, o, a, ns, ns2, fs, ps, ps2, rfl, R, M, S, R2, M2, S2, RN, ha, q⟩ := h
    have hu := hu_of hr
    have hu5 := un65 hr
    have r3 := hr.mono (show 3 ≤ 7 by decide)
    have r4 := hr.mono (show 4 ≤ 7 by decide)
    have r5 := hr.mono (show 5 ≤ 7 by decide)
    have two : (2 : Nat) ≤ sizeLine := by decide
    refine ⟨_, pss_cons (ps_setLc (i := 3) (own := [("_law_marks", 8)]) (g := gName 8) (tt := tYes) rfl scNR.nd rfl rfl (by rfl) (pi_tup (pe_call GP r3 (by rfl) DP.mg DP.fn.kp DP.bi .nil pass0 (pa_cons (pv 0) pa_nil))) (blkOk_by (N := nNR) (sc := defScope sNamesR) (by decide +kernel))
          (fun _ _ _ _ _ => pg_name (i := 8) scNR.nd rfl (Or.inl rfl)) (fun _ _ _ _ _ => pts_nil)
          (fun _ _ _ _ _ => pe_tupleOfK (K := K) rfl (by rfl) B.tuple (pe_callB (cr_sortedIK (K := K) rfl) (by rfl) B.sorted (by decide +kernel) (pa_cons
            (pe_lc (own := [("_law_mark", 9)]) (g := gName 9) (tt := tYes) rfl scNR.nd (pi_tupK (K := K) rfl (pv 8)) (blkOk_by (N := nNR) (by rfl))
              (fun _ _ _ _ _ => pg_name (i := 9) scNR.nd rfl (Or.inl rfl)) (fun _ _ _ _ _ => pts_nil) (fun _ _ _ _ _ => pe_ix (ix_listK (K := K) rfl) (pv 2) (pv 9) (fun _ _ => rfl))) pa_nil))))
      (pss_cons (ps_if (pt_cmpR (op_neD hr.units) (pe_callTy call_list_of (by rfl) B.list (by decide +kernel) (pa_cons (pe_call GP r3 (by rfl) DP.mg DP.fn.kp DP.bi .nil pass0 (pa_cons (pv 1) pa_nil)) pa_nil)) (pe_callB cr_sortedL (by rfl) B.sorted (by decide +kernel) (pa_cons (pv 3) pa_nil)) (nomark _)) (pss_one (ps_ret pe_bl)) pss_nil)
      (pss_cons (ps_for PassesOwn.never rfl (pi_range1 (by rfl) B.range (pa_cons (pe_callB call_len_seq (by rfl) B.len PySem.boot_len (pa_cons (pv 3) pa_nil)) pa_nil)) (pg_name (i := 4) scNR.nd rfl (Or.inl rfl))
        (pss_cons (ps_par (i := 5) (j := 6) (by rfl) scNR.nd rfl rfl (by decide) rfl rfl (pa_cons (pe_bmT PySem.F.slot_tuple_index PySem.F.type_tuple_index (mt_indexTs hu5) (pe_call GF r3 (by rfl) DP.mg DP.fn.kp DP.bi .nil pass0 (pa_cons (pv 1) pa_nil)) (pa_cons (pe_ix ix_list (pv 3) (pv 4) (fun _ _ => rfl)) pa_nil))
            (pa_cons (pe_call GM r5 (by rfl) DM.mg DM.fn.kp DM.bi .nil pass0 (pa_cons (pv 0) (pa_cons (pv 4) pa_nil))) pa_nil)) (by rfl))
        (pss_cons (ps_if (PW.pt (pw_or (pt_cmpR (op_neD hr.units) (pe_ix ix_tup (pe_call GP r3 (by rfl) DP.mg DP.fn.kp DP.bi .nil pass0 (pa_cons (pv 1) pa_nil)) (pe_call GM r5 (by rfl) DM.mg DM.fn.kp DM.bi .nil pass0 (pa_cons (pv 1) (pa_cons (pv 5) pa_nil))) (fun _ _ => rfl)) (pe_ix ix_list (pv 3) (pv 6) (fun _ _ => rfl)) (nomark _))
            (pw_or1 (pt_cmpR op_ne (pe_call GE r4 (by rfl) DE.mg DE.fn.kp DE.bi .nil pass0 (pa_cons (pv 1) (pa_cons (pv 5) pa_nil))) (pe_call GE r4 (by rfl) DE.mg DE.fn.kp DE.bi .nil pass0 (pa_cons (pv 0) (pa_cons (pv 4) pa_nil))) (nomark _))))) (pss_one (ps_ret pe_bl)) pss_nil)
        (pss_cons (ps_set (i := 7) scNR.nd rfl (Or.inl rfl) (pe_lst (pa_cons (pe_call GS hr (by rfl) DS.mg DS.fn.kp DS.bi .nil pass0 (pa_cons (pv 0) (pa_cons (pv 1) (pa_cons (pv 2) (pa_cons (pv 4) pa_nil))))) (pa_cons (pe_call GS hr (by rfl) DS.mg DS.fn.kp DS.bi .nil pass0 (pa_cons (pv 0) (pa_cons (pv 1) (pa_cons (pv 2) (pa_cons (pv 6) pa_nil))))) pa_nil))))
        (pss_cons (ps_if (pt_cmpR (op_inD hu5) (pe_un un_neg pe_int) (pv 7) (by rfl)) (pss_one (ps_ret pe_bl)) pss_nil)
        (pss_one (ps_if (pt_cmpR op_ne (pe_call GT hr (by rfl) DT.mg DT.fn.kp DT.bi .nil pass0 (pa_cons (pv 1) (pa_cons (pv 5) pa_nil)))
            (pe_op op_mod (pe_op op_add (pe_call GT hr (by rfl) DT.mg DT.fn.kp DT.bi .nil pass0 (pa_cons (pv 0) (pa_cons (pv 4) pa_nil))) (pe_callB (cr_sum rfl) (by rfl) B.sum (by decide +kernel) (pa_cons (pv 7) pa_nil))) (pe_call GE r4 (by rfl) DE.mg DE.fn.kp DE.bi .nil pass0 (pa_cons (pv 0) (pa_cons (pv 4) pa_nil)))) (nomark _)) (pss_one (ps_ret pe_bl)) pss_nil)))))))
      (pss_one (ps_ret pe_bl)))), ?_⟩
    have hP : ∀ q ∈ ps, Pr (ns.length : Int) q := fun q hq => S.pair q hq
    have hn := RN.len
    have h8 := M.few
    have at_ : ∀ {m : Int}, (0 ≤ m ∧ m < (ns.length : Int)) → atI (fs.map V.int) m = some (.int (nm fs m)) := fun {m} hm => by
      have e : m = ((m.toNat : Nat) : Int) := by omega
      have z := nm_at RN.N hm
      have z2 : atI (fs.map V.int) ((m.toNat : Nat) : Int) = some (.int (nm fs m)) := atI_nat (by rw [List.getElem?_map, z]; rfl)
      rw [← e] at z2
      exact z2
    have pl8 := parts_len ps ns.length
    -- lots
    refine ⟨.ref r, rfl, r, ns, ps, rfl, R, M, S, fun H1 c s1 nc hC => ?_⟩
    obtain ⟨ks, ek, hc, hks⟩ := hC
    refine ⟨c, rfl, ⟨_, tupNew hc⟩, fun D nD => ?_⟩
    refine lc_tup (K := K) (a := c) (xs := ks.map fun p => V.ref p.1) (fun i H' => Same H1 H' ∧ LotsH H' D (((partsOf ps ns.length).take i).map (pf ps2 ns.length fs)))
      ⟨same_upd nD, [], rfl, upd_same, fun _ z => nomatch z⟩ (fun i H' _ h => sqT_same h.1 (tupNew hc)) (fun i x H' hx h => ?_) fun H2 h => ?_
    · obtain ⟨kk, gk, rfl⟩ := map_at hx
      obtain ⟨s2, hL⟩ := h
      have gp : (partsOf ps ns.length)[i]? = some kk.2 := by rw [← ek, List.getElem?_map, gk]; rfl
      have hp := List.mem_of_getElem? gp
      have hi := (List.getElem?_eq_some_iff.mp gp).1
      have hT : SqT K H' kk.1 (kk.2.map V.int) := ((hks kk (List.mem_of_getElem? gk)).same s2).sq
      have l8 := part_len8 h8 hp
      have ea := s2 _ _ (s1 _ _ ha)
      refine ⟨rfl, tt_yes ⟨.ref kk.1, rfl, kk.1, rfl, ⟨_, hT⟩, fun D2 nD2 => ?_⟩⟩
      refine lc_tup (K := K) (a := kk.1) (xs := kk.2.map V.int) (fun j H'' => Same H' H'' ∧ H'' D2 = some (.lst (((kk.2.take j).map (nm fs)).map V.int)))
        ⟨same_upd nD2, upd_same⟩ (fun j H'' _ h => sqT_same h.1 hT) (fun j x H'' hx h => ?_) fun H3 h => ?_
      · obtain ⟨m, gm, rfl⟩ := map_at hx
        obtain ⟨s3, e3⟩ := h
        have bm := part_bd hp (List.mem_of_getElem? gm)
        have hj := (List.getElem?_eq_some_iff.mp gm).1
        refine ⟨by simp [wipe, List.set_set], tt_yes ⟨.ref a, rfl, .int m, rfl, a, _, _, _, rfl, rfl, lstNew (s3 _ _ ea), at_ bm, _, e3, ?_, fun b o' z => ?_, ?_⟩⟩
        · rw [List.length_map, List.length_map, List.length_take]; exact few1 (by omega)
        · rw [upd_ne (ne_of_none z nD2)]; exact s3 b o' z
        · rw [upd_same, List.take_add_one, gm, List.map_append, List.map_append]; rfl
      · obtain ⟨s3, e3⟩ := h
        rw [List.length_map, List.take_of_length_le (Nat.le_refl _)] at e3
        refine ⟨D2, _, rfl, lstNew e3, fun zs z pm up nz => ?_⟩
        have ez := RN.pf_sort hP hp pm up
        subst ez
        have sz := same_upd (o := .lst ((pf ps2 ns.length fs kk.2).map V.int)) nz
        refine .inl ⟨z, _, rfl, lstNew upd_same, fun u nu => ?_⟩
        have hL4 := (hL.same s3).same sz
        have hL' := hL4
        obtain ⟨lks, l1, l2, l3⟩ := hL'
        have ll : lks.length = i := by
          have z := congrArg List.length l1
          rw [List.length_map, List.length_map, List.length_take] at z; omega
        have su := same_upd (o := .tup ((pf ps2 ns.length fs kk.2).map V.int)) nu
        refine ⟨_, su _ _ l2, by rw [List.length_map]; exact few1 (by omega), fun b o' z' => ?_, ?_⟩
        · rw [upd_ne (ne_of_none z' nD)]; exact su _ _ (sz _ _ (s3 _ _ (s2 b o' z')))
        · rw [List.take_add_one, gp, List.map_append]
          exact LotsH.add (q := pf ps2 ns.length fs kk.2) hL4 l2 nu
    obtain ⟨s2, hL⟩ := h
    rw [List.take_of_length_le (by rw [List.length_map, ← ek, List.length_map]; exact Nat.le_refl _)] at hL
    have s02 := s1.trans s2
    -- list(parts(other)), sorted(lots)
    refine ⟨.ref o, rfl, o, ns2, ps2, rfl, R2.same s02, M2, S2, fun H3 c3 s3 nc3 hC3 => ?_⟩
    rw [hn] at hC3
    obtain ⟨ks3, ek3, hc3, hks3⟩ := hC3
    refine ⟨c3, _, rfl, .inr (tupNew hc3), fun l nl => ?_⟩
    have sl := same_upd (o := .lst (ks3.map fun p => V.ref p.1)) nl
    have el : (upd H3 l (.lst (ks3.map fun p => V.ref p.1))) l = some (.lst (ks3.map fun p => V.ref p.1)) := upd_same
    have s04 := (s02.trans s3).trans sl
    have hk4 : ∀ p ∈ ks3, SqT K (upd H3 l (.lst (ks3.map fun p => V.ref p.1))) p.1 (p.2.map V.int) := fun p hp => ((hks3 p hp).same sl).sq
    have hL4 := (hL.same s3).same sl
    generalize upd H3 l (.lst (ks3.map fun p => V.ref p.1)) = H4 at el s04 hk4 hL4 ⊢
    obtain ⟨lks, l1, l2, l3⟩ := hL4
    have ll : lks.length = (partsOf ps ns.length).length := by
      have z := congrArg List.length l1
      rw [List.length_map, List.length_map] at z; omega
    have inp2 : ∀ p ∈ lks, p.2 ∈ partsOf ps2 ns.length := fun p hp => by
      have z : p.2 ∈ lks.map (·.2) := List.mem_map_of_mem hp
      rw [l1] at z
      obtain ⟨q, hq, e⟩ := List.mem_map.mp z
      rw [← e]; exact RN.pf_part hP hq
    have ndl : (lks.map (·.2)).Nodup := by
      rw [l1, List.nodup_iff_pairwise_ne, List.pairwise_map]
      exact List.Pairwise.imp_of_mem (fun {a b} ha hb h e => h (RN.pf_inj hP ha hb e)) (List.nodup_iff_pairwise_ne.mp (parts_nodup ps ns.length))
    refine ⟨.ref D, rfl, D, lks, hd0, rfl, lstNew l2, fun p hp => tupNew (l3 p hp), ndl, by omega, fun p hp => part_ne (inp2 p hp), fun p hp q hq => lex_hd (inp2 p hp) (inp2 q hq), fun L' t pm pw nt => ?_⟩
    have st := same_upd (o := .lst (L'.map fun q => V.ref q.1)) nt
    have eL' : L'.map (·.2) = partsOf ps2 ns.length := RN.all_sort hP (by rw [← l1]; exact pm.map (fun q : Addr × List Int => q.2)) (by rw [List.pairwise_map]; exact pw)
    refine ⟨.list ((partsOf ps2 ns.length).map RV.dI), .list ((partsOf ps2 ns.length).map RV.dI), ?_, ?_, shapedLs _, shapedLs _, _, rfl, ?_⟩
    · have z := Dp.lst (lstNew (K := K) (st _ _ el)) (dpTs ks3 fun p hp => sqT_same st (hk4 p hp))
      rw [ek3] at z; exact z
    · have z := Dp.lst (lstNew (K := K) (upd_same (H := H4) (a := t) (o := .lst (L'.map fun q => V.ref q.1)))) (dpTs L' fun p hp => sqT_same st (tupNew (l3 p (pm.mem_iff.mp hp))))
      rw [eL'] at z; exact z
    rw [eqvLs, decide_eq_true rfl]
    refine iteF ?_
    have s05 := s04.trans st
    have l2' := st _ _ l2
    have l3' : ∀ p ∈ lks, (upd H4 t (.lst (L'.map fun q => V.ref q.1))) p.1 = some (.tup (p.2.map V.int)) := fun p hp => st _ _ (l3 p hp)
    generalize upd H4 t (.lst (L'.map fun q => V.ref q.1)) = H5 at s05 l2' l3' ⊢
    -- part by part
    refine ⟨.ref D, rfl, D, _, rfl, .inl (lstNew l2'), _, rfl, by rw [List.length_map]; omega, by rw [List.length_map]; omega, ?_⟩
    rw [List.length_map]
    refine for_range (lo := 0) (n := _) (fun i σ H' => ∃ (y4 y5 y6 y7 y8 y9 : Option V), σ = [some (.ref r), some (.ref o), some (.ref a), some (.ref D), y4, y5, y6, y7, y8, y9] ∧ Same H5 H')
      ⟨_, _, _, _, _, _, rfl, Same.refl _⟩ ?_ ?_
    · rintro i σ H6 hi ⟨y4, y5, y6, y7, y8, y9, rfl, s6⟩
      have hi' : i < (partsOf ps ns.length).length := by omega
      obtain ⟨p, gp⟩ : ∃ p, (partsOf ps ns.length)[i]? = some p := ⟨_, List.getElem?_eq_getElem hi'⟩
      have hp := List.mem_of_getElem? gp
      rw [show (0 : Int) + ((i : Nat) : Int) = (i : Int) by omega]
      have lots_at : ∀ (k : Nat) (q : List Int), (partsOf ps ns.length)[k]? = some q → ∃ lk, lks[k]? = some lk ∧ lk.2 = pf ps2 ns.length fs q := fun k q gq => by
        have z : (lks.map (·.2))[k]? = some (pf ps2 ns.length fs q) := by rw [l1, List.getElem?_map, gq]; rfl
        obtain ⟨lk, g, e⟩ := map_at z
        exact ⟨lk, g, e.symm⟩
      obtain ⟨lk, glk, elk⟩ := lots_at i p gp
      have hp2 := RN.pf_part hP hp
      obtain ⟨j, hj, ej⟩ := List.getElem_of_mem hp2
      have gj : (partsOf ps2 ns.length)[j]? = some (pf ps2 ns.length fs p) := by rw [List.getElem?_eq_getElem hj, ej]
      have fst : ∀ m, m < j → (partsOf ps2 ns.length)[m]? ≠ some (pf ps2 ns.length fs p) := fun m hm e => by
        have hm2 := (List.getElem?_eq_some_iff.mp e).1
        have := (List.getElem?_inj hm2 (parts_nodup ps2 ns.length)).mp (e.trans gj.symm)
        omega
      have s06 := s05.trans s6
      -- there
      refine ⟨.ref o, rfl, o, ns2, ps2, rfl, R2.same s06, M2, S2, fun H7 c7 s7 nc7 hC7 => ?_⟩
      rw [hn] at hC7
      have s07 := s06.trans s7
      have s57 := s6.trans s7
      have hlk7 : SqT K H7 lk.1 ((pf ps2 ns.length fs p).map V.int) := by
        have z := s57 _ _ (l3' lk (List.mem_of_getElem? glk))
        rw [elk] at z
        exact tupNew z
      have tC := hC7.tups (K := K)
      obtain ⟨ks7, _, td7, _⟩ := hC7
      refine ⟨⟨c7, _, rfl, td7⟩, .ref D, rfl, .int (i : Int), rfl, D, _, _, .ref lk.1, rfl, rfl, lstNew (s57 _ _ l2'), atI_nat (by rw [List.getElem?_map, glk]; rfl), c7, lk.1, _, _, j, rfl, rfl, tC, hlk7, gj, fst, ?_⟩
      -- beyond
      refine ⟨.ref r, rfl, .int (i : Int), rfl, r, i, p, ns, ps, rfl, R.same s07, M, S, gp, fun H8 x mx k' s8 hx hmx gk' => ?_⟩
      refine ⟨.int (j : Int), .int (k' : Int), rfl, ?_⟩
      dsimp only
      have s08 := s07.trans s8
      have s58 := s57.trans s8
      have hp' := List.mem_of_getElem? gk'
      have bx := part_bd hp hx
      -- the mirror part of the other
      refine ⟨.ref o, rfl, o, ns2, ps2, rfl, R2.same s08, M2, S2, fun H9 c9 s9 nc9 hC9 => ?_⟩
      rw [hn] at hC9
      obtain ⟨ks9, ek9, hc9, hks9⟩ := hC9
      have s09 := s08.trans s9
      refine ⟨.ref o, rfl, .int (j : Int), rfl, o, j, pf ps2 ns.length fs p, ns2, ps2, rfl, R2.same s09, M2, S2, by rw [hn]; exact gj, fun H10 x2 mx2 k2 s10 hx2 hmx2 gk2 => ?_⟩
      rw [hn] at gk2
      have s010 := s09.trans s10
      have s510 := (s58.trans s9).trans s10
      obtain ⟨lk', glk', elk'⟩ := lots_at k' _ gk'
      have gk2' : (ks9.map (·.2))[k2]? = some (lotOf ps2 ns.length mx2) := by rw [ek9]; exact gk2
      obtain ⟨kk9, g9, ekk9⟩ := map_at gk2'
      have mirs : ∀ y my : Int, y ∈ p → ns[y.toNat]? = some my → my ∈ lotOf ps ns.length mx := fun y my hy hmy => by
        have hl := part_lot hp hx
        rw [← hl] at hy
        exact lot_mirror M S bx.1 hmx hmy hy
      have elot : lotOf ps2 ns.length mx2 = pf ps2 ns.length fs (lotOf ps ns.length mx) := by
        obtain ⟨y, hy, ey⟩ := List.mem_map.mp ((RN.pf_mem hP hp).mp hx2)
        have by_ := part_bd hp hy
        obtain ⟨my, hmy⟩ : ∃ z, ns[y.toNat]? = some z := ⟨_, List.getElem?_eq_getElem (by omega)⟩
        have z := RN.mir y my by_ hmy
        rw [ey, hmx2] at z
        rw [Option.some.inj z]
        exact part_lot (RN.pf_part hP hp') ((RN.pf_mem hP hp').mpr (List.mem_map_of_mem (mirs y my hy hmy)))
      have hT9 : SqT K H10 kk9.1 ((pf ps2 ns.length fs (lotOf ps ns.length mx)).map V.int) := by
        rw [← elot, ekk9]
        exact ((hks9 kk9 (List.mem_of_getElem? g9)).same s10).sq
      have hTl : SqT K H10 lk'.1 ((pf ps2 ns.length fs (lotOf ps ns.length mx)).map V.int) := by
        have z := s510 _ _ (l3' lk' (List.mem_of_getElem? glk'))
        rw [elk'] at z
        exact tupNew z
      refine ⟨c9, _, _, .ref kk9.1, rfl, rfl, tupNew (s10 _ _ hc9), atI_nat (by rw [List.getElem?_map, g9]; rfl), .ref D, rfl, .int (k' : Int), rfl, D, _, _, .ref lk'.1, rfl, rfl, lstNew (s510 _ _ l2'), atI_nat (by rw [List.getElem?_map, glk']; rfl), ?_⟩
      refine ⟨RV.dI _, RV.dI _, dpT hT9, dpT hTl, shapedI _, shapedI _, _, rfl, ?_⟩
      rw [eqvI, decide_eq_true rfl]
      refine iteF ?_
      -- periods
      refine ⟨.ref o, rfl, .int (j : Int), rfl, o, j, ns2, ps2, pf ps2 ns.length fs p, rfl, R2.same s010, M2, S2, by rw [hn]; exact gj, fun H11 s11 per2 => ?_⟩
      have s011 := s010.trans s11
      refine ⟨.ref r, rfl, .int (i : Int), rfl, r, i, ns, ps, p, rfl, R.same s011, M, S, gp, fun H12 s12 per1 => ⟨rfl, _, rfl, ?_⟩⟩
      have eg := RN.per_of hP hp per1 per2
      rw [← eg, decV, decide_eq_true rfl]
      refine iteF ?_
      dsimp only
      have s012 := s011.trans s12
      have s512 := (s510.trans s11).trans s12
      -- shifts
      refine ⟨.ref r, rfl, .ref o, rfl, .ref a, rfl, .int (i : Int), rfl, r, o, a, i, ns, ns2, fs, p, ps, ps2, rfl, R.same s012, M, S, R2.same s012, M2, S2, RN, s012 _ _ ha, gp, fun H13 s13 pers => ?_⟩
      have s013 := s012.trans s13
      refine ⟨.ref r, rfl, .ref o, rfl, .ref a, rfl, .int (k' : Int), rfl, r, o, a, k', ns, ns2, fs, _, ps, ps2, rfl, R.same s013, M, S, R2.same s013, M2, S2, RN, s013 _ _ ha, gk', fun H14 s14 pers' => ⟨two, fun L0 nL0 => ?_⟩⟩
      generalize hs1 : shf ps2 ns.length fs p = s1'
      generalize hs2 : shf ps2 ns.length fs (lotOf ps ns.length mx) = s2'
      have sL := same_upd (o := .lst [.int ((s1' : Nat) : Int), .int ((s2' : Nat) : Int)]) nL0
      have s015 := (s013.trans s14).trans sL
      have s515 := ((s512.trans s13).trans s14).trans sL
      have eL0 : (upd H14 L0 (.lst [.int ((s1' : Nat) : Int), .int ((s2' : Nat) : Int)])) L0 = some (.lst ([((s1' : Nat) : Int), ((s2' : Nat) : Int)].map V.int)) := upd_same
      generalize upd H14 L0 (.lst [.int ((s1' : Nat) : Int), .int ((s2' : Nat) : Int)]) = H15 at s015 s515 eL0 ⊢
      refine ⟨1, rfl, .ref L0, rfl, .int (-1), _, .int (-1), dpL (lstNew eL0), shapedN _, shapedLI _, _, rfl, ?_⟩
      rw [any_int, decide_eq_false (show ¬ (-1 : Int) ∈ [((s1' : Nat) : Int), ((s2' : Nat) : Int)] by simp only [List.mem_cons, List.not_mem_nil, or_false]; omega)]
      refine iteF ?_
      -- turnings
      refine ⟨.ref o, rfl, .int (j : Int), rfl, o, j, ns2, ps2, pf ps2 ns.length fs p, rfl, R2.same s015, M2, S2, by rw [hn]; exact gj, fun H16 s16 => ?_⟩
      have s016 := s015.trans s16
      refine ⟨.ref r, rfl, .int (i : Int), rfl, r, i, ns, ps, p, rfl, R.same s016, M, S, gp, fun H17 s17 => ?_⟩
      have s017 := s016.trans s17
      refine ⟨.ref L0, rfl, L0, _, rfl, lstNew ((s16.trans s17) _ _ eL0), ?_⟩
      refine ⟨_, _, rfl, rfl, .ref r, rfl, .int (i : Int), rfl, r, i, ns, ps, p, rfl, R.same s017, M, S, gp, fun H18 s18 per => ?_⟩
      have hxl : hd0 p ∈ lotOf ps ns.length (hd0 p) := by rw [(part_hd_in hp).2]; exact (part_hd_in hp).1
      have pos := per.pos (lot_some hxl)
      refine ⟨_, _, rfl, rfl, (by show (0 : Int) < ((perN ps (hd0 p) : Nat) : Int); omega), rfl, _, rfl, ?_⟩
      have k1 := knot_of hP hp
      have k2' := knot_of hP hp'
      have hmxl : mx ∈ lotOf ps ns.length mx := mirs x mx hx hmx
      obtain ⟨h0, l0⟩ := part_hd_in hp
      have b0 := part_bd hp h0
      obtain ⟨m0, hm0⟩ : ∃ z, ns[(hd0 p).toNat]? = some z := ⟨_, List.getElem?_eq_getElem (by omega)⟩
      have j0 := mirs _ _ h0 hm0
      obtain ⟨h0', l0'⟩ := part_hd_in hp'
      have b0' := part_bd hp' h0'
      obtain ⟨m0', hm0'⟩ : ∃ z, ns[(hd0 (lotOf ps ns.length mx)).toNat]? = some z := ⟨_, List.getElem?_eq_getElem (by omega)⟩
      have j0' : m0' ∈ p := by
        have z := lot_mirror M S (part_bd hp' hmxl).1 (mir_back M bx.1 hmx) hm0' h0'
        rwa [part_lot hp hx] at z
      have egg := per_mirror M S k1 k2' pers.1 pers'.1 hm0 hm0' j0 j0'
      have p1' := pers'.1
      have p2' := pers'.2
      rw [← egg] at p1' p2'
      have et := RN.turn M S M2 S2 hp hp' pers.1 p1' pers.2 p2' hx hmx hmxl
      rw [hs1, hs2] at et
      have es : [((s1' : Nat) : Int), ((s2' : Nat) : Int)].sum = ((s1' : Nat) : Int) + ((s2' : Nat) : Int) := by simp
      rw [decV, es, decide_eq_true et]
      refine iteF ?_
      exact ⟨_, _, _, _, _, _, rfl, ((s515.trans s16).trans s17).trans s18⟩
    · rintro σ H6 ⟨y4, y5, y6, y7, y8, y9, rfl, s6⟩
      exact q H6 (s05.trans s6)
end
end K9
set_option maxHeartbeats 4000000
namespace RV
open PySem PySem.Spec PyProof.Rows L2
/-- [h(x) for x in l], l a list of ints -/
theorem lc_mapL {K : PySem.W.Frag} {te : TE} {h : Int → Int} {σ : L2.St} {H1 : Hp} {a D : Addr} {v : Nat} {ns : List Int} {Qd : Hp → Prop} (hT : SqL K H1 a (ns.map V.int)) (hl : ns.length ≤ 100000) (nD : H1 D = none)
    (hte : ∀ x ∈ ns, ∀ (H' : Hp) (Q : VK), Same H1 H' → (∀ H2, Same H' H2 → Q (.int (h x)) H2) → te ((wipe σ [v]).set v (some (.int x))) H' Q)
    (hd : ∀ H', Same H1 H' → H' D = some (.lst ((ns.map h).map V.int)) → Qd H') :
    ∃ W : Nat → Nat → Hp → Prop, (∃ m, W 0 m (upd H1 D (.lst []))) ∧ ∀ i m H, W i m H →
      ((Itl K a).stop i H ∧ Qd H) ∨ ((Itl K a).go i H ∧ ∃ Nx : Hp → Prop, (∀ H', Nx H' → ∃ m', m' < m ∧ W (i + 1) m' H') ∧ ∀ x H', (Itl K a).yld i H x H' → gName v x (wipe σ [v]) H' fun σ2 H2 => wipe σ2 [v] = wipe σ [v] ∧ tYes σ2 H2 fun b H3 =>
        if b = true then te σ2 H3 fun y H4 => ∃ acc, H4 D = some (.lst acc) ∧ acc.length < sizeLine ∧ Nx (upd H4 D (.lst (acc ++ [y]))) else Nx H3) := by
  refine lc_list (K := K) (a := a) (xs := ns.map V.int) (fun i H' => Same H1 H' ∧ H' D = some (.lst (((ns.take i).map h).map V.int))) ⟨same_upd nD, upd_same⟩ (fun i H' _ p => sqL_same p.1 hT) (fun i x H' hx p => ?_) fun H' p => ?_
  · obtain ⟨k, g, rfl⟩ := map_at hx
    refine ⟨by simp [wipe, List.set_set], tt_yes (hte k (List.mem_of_getElem? g) H' _ p.1 fun H2 s2 => ⟨_, s2 _ _ p.2, ?_, fun b o z => ?_, ?_⟩)⟩
    · rw [List.length_map, List.length_map, List.length_take, sizeLine_eq]; omega
    · rw [upd_ne (ne_of_none z nD)]; exact s2 _ _ (p.1 b o z)
    · rw [upd_same, List.take_add_one, g, List.map_append, List.map_append]; rfl
  · rw [List.length_map, List.take_of_length_le (Nat.le_refl _)] at p
    exact hd H' p.1 p.2
/-- [h(i) for i in range(lo, lo + n)] -/
theorem lc_mapG {te : TE} {h : Int → Int} {σ : L2.St} {H1 : Hp} {D : Addr} {v n : Nat} {lo : Int} {Qd : Hp → Prop} (hl : n ≤ 100000) (nD : H1 D = none)
    (hte : ∀ i, i < n → ∀ (H' : Hp) (Q : VK), Same H1 H' → (∀ H2, Same H' H2 → Q (.int (h (lo + (i : Int)))) H2) → te ((wipe σ [v]).set v (some (.int (lo + (i : Int))))) H' Q)
    (hd : ∀ H', Same H1 H' → H' D = some (.lst (((List.range n).map fun (i : Nat) => h (lo + (i : Int))).map V.int)) → Qd H') :
    ∃ W : Nat → Nat → Hp → Prop, (∃ m, W 0 m (upd H1 D (.lst []))) ∧ ∀ i m H, W i m H →
      ((Itr lo n).stop i H ∧ Qd H) ∨ ((Itr lo n).go i H ∧ ∃ Nx : Hp → Prop, (∀ H', Nx H' → ∃ m', m' < m ∧ W (i + 1) m' H') ∧ ∀ x H', (Itr lo n).yld i H x H' → gName v x (wipe σ [v]) H' fun σ2 H2 => wipe σ2 [v] = wipe σ [v] ∧ tYes σ2 H2 fun b H3 =>
        if b = true then te σ2 H3 fun y H4 => ∃ acc, H4 D = some (.lst acc) ∧ acc.length < sizeLine ∧ Nx (upd H4 D (.lst (acc ++ [y]))) else Nx H3) := by
  refine lc_range (lo := lo) (n := n) (fun i H' => Same H1 H' ∧ H' D = some (.lst (((List.range i).map fun (i : Nat) => h (lo + (i : Int))).map V.int))) ⟨same_upd nD, upd_same⟩ (fun i H' hi p => ?_) fun H' p => hd H' p.1 p.2
  refine ⟨by simp [wipe, List.set_set], tt_yes (hte i hi H' _ p.1 fun H2 s2 => ⟨_, s2 _ _ p.2, ?_, fun b o z => ?_, ?_⟩)⟩
  · rw [List.length_map, List.length_map, List.length_range, sizeLine_eq]; omega
  · rw [upd_ne (ne_of_none z nD)]; exact s2 _ _ (p.1 b o z)
  · rw [upd_same, List.range_succ, List.map_append, List.map_append]; rfl
end RV
set_option maxHeartbeats 4000000
namespace K9
open PySem PySem.Spec PyProof.Rows L2 RV
theorem marks_in {ns : List Int} {rs : List (Int × List Int)} (g : Rg ns rs) : ∀ x ∈ mk rs, 0 ≤ x ∧ x < (ns.length : Int) := by
  have z : ∀ rs : List (Int × List Int), (∀ r ∈ rs, ∀ x ∈ r.2, 0 ≤ x ∧ x < (ns.length : Int)) → ∀ x ∈ mk rs, 0 ≤ x ∧ x < (ns.length : Int) := fun rs => by
    induction rs with
    | nil => exact fun _ x hx => nomatch hx
    | cons r rs ih =>
      intro h x hx
      have hx : x ∈ rp r.1.toNat r.2 ++ mk rs := hx
      rcases List.mem_append.mp hx with q | q
      · unfold rp at q
        obtain ⟨l, hl, q⟩ := List.mem_flatten.mp q
        have := List.eq_of_mem_replicate hl
        subst this
        exact h r (List.mem_cons_self ..) x q
      · exact ih (fun q hq => h q (List.mem_cons_of_mem _ hq)) x q
  exact z rs g.inn
/-- a turned ring is one of the kind -/
theorem Rg.trn {ns : List Int} {rs qs : List (Int × List Int)} {b : Int} (g : Rg ns rs) (hl : rs.length ≤ 97) (t : Trn rs b qs) : Rg ns qs := by
  refine ⟨⟨by have := t.len; omega, t.ne, t.rn, fun r hr => ?_⟩, fun r hr => ?_, fun r hr x hx => ?_⟩
  · obtain ⟨r0, h0, h1, _⟩ := t.wo r hr
    exact Nat.le_trans h1 (g.sz.wo r0 h0)
  · obtain ⟨r0, h0, h1, _⟩ := t.wo r hr
    exact Nat.le_trans h1 (g.wo r0 h0)
  · obtain ⟨r0, h0, _, h1⟩ := t.wo r hr
    exact g.inn r0 h0 x (h1 x hx)
theorem mirF_at {ns : List Int} (M : Mir ns) {x : Int} (h : 0 ≤ x ∧ x < (ns.length : Int)) : (0 ≤ mirF ns x ∧ mirF ns x < (ns.length : Int)) ∧ mirF ns (mirF ns x) = x := by
  have g : ns[x.toNat]? = some (mirF ns x) := get_D (by omega)
  have i := M.inn _ (List.mem_of_getElem? g)
  refine ⟨i, ?_⟩
  have b := M.back _ _ g
  show ns.getD (mirF ns x).toNat 0 = x
  rw [getD_of b]; omega
theorem mem_mirL {f : Int → Int} {rs : List (Int × List Int)} {r : Int × List Int} (h : r ∈ mirL f rs) : ∃ r0 ∈ rs, r = (r0.1, r0.2.reverse.map f) := by
  unfold mirL at h
  obtain ⟨r0, h0, e⟩ := List.mem_map.mp h
  exact ⟨r0, List.mem_reverse.mp h0, e.symm⟩
theorem Rg.mir {ns : List Int} {rs : List (Int × List Int)} (g : Rg ns rs) (M : Mir ns) : Rg ns (mirL (mirF ns) rs) := by
  refine ⟨⟨?_, fun z => ?_, fun r hr => ?_, fun r hr => ?_⟩, fun r hr => ?_, fun r hr x hx => ?_⟩
  · unfold mirL; rw [List.length_map, List.length_reverse]; exact g.sz.few
  · unfold mirL at z
    rw [List.map_eq_nil_iff, List.reverse_eq_nil_iff] at z
    exact g.sz.ne z
  · obtain ⟨r0, h0, rfl⟩ := mem_mirL hr
    refine ⟨(g.sz.rn r0 h0).1, fun z => (g.sz.rn r0 h0).2 ?_⟩
    have z : r0.2.reverse.map (mirF ns) = [] := z
    rwa [List.map_eq_nil_iff, List.reverse_eq_nil_iff] at z
  · obtain ⟨r0, h0, rfl⟩ := mem_mirL hr
    show (r0.2.reverse.map (mirF ns)).length ≤ 3000
    rw [List.length_map, List.length_reverse]; exact g.sz.wo r0 h0
  · obtain ⟨r0, h0, rfl⟩ := mem_mirL hr
    show (r0.2.reverse.map (mirF ns)).length ≤ 1000
    rw [List.length_map, List.length_reverse]; exact g.wo r0 h0
  · obtain ⟨r0, h0, rfl⟩ := mem_mirL hr
    obtain ⟨y, hy, rfl⟩ := List.mem_map.mp hx
    exact (mirF_at M (g.inn r0 h0 y (List.mem_reverse.mp hy))).1
theorem pl_mir {ns : List Int} {rs : List (Int × List Int)} (g : Rg ns rs) (M : Mir ns) : pl (mirL (mirF ns) rs) = pl rs := by
  rw [← mk_len (g.mir M).sz.rn.nn, ← mk_len g.sz.rn.nn, mk_mir, List.length_map, List.length_reverse]
theorem mP_mir {ns : List Int} {rs : List (Int × List Int)} (g : Rg ns rs) (p : Int) : mP (mk (mirL (mirF ns) rs)) p = mirF ns (mP (mk rs) (pl rs - 1 - p)) := by
  rw [mk_mir, mP_back (mk_ne g.sz.rn g.sz.ne), mk_len g.sz.rn.nn]
theorem rg_mark {ns : List Int} {rs : List (Int × List Int)} (g : Rg ns rs) (p : Int) : 0 ≤ mP (mk rs) p ∧ mP (mk rs) p < (ns.length : Int) := marks_in g _ (mP_mem (mk_ne g.sz.rn g.sz.ne) p)
theorem cyc_mir {ns : List Int} {ps : List (List Int)} {rs : List (Int × List Int)} (g : Rg ns rs) (M : Mir ns) (S : Stp ns ps) (c : Cyc ps (mk rs)) : Cyc ps (mk (mirL (mirF ns) rs)) := by
  rw [mk_mir]
  refine c.back (mk_ne g.sz.rn g.sz.ne) (fun a b ha hb h => ?_) (mP_mem (mk_ne g.sz.rn g.sz.ne))
  have ia := marks_in g a ha
  have ib := marks_in g b hb
  exact S.mirr a b _ _ h (get_D (by omega)) (get_D (by omega))
theorem all_in {ps : List (List Int)} {rs : List (Int × List Int)} (rn : Rn rs) (c : Cyc ps (mk rs)) : ((nbs rs rs.length).all fun p => decide (p ∈ ps)) = true :=
  List.all_eq_true.mpr fun p hp => decide_eq_true (nbs_in rn c p hp)
end K9
set_option maxHeartbeats 4000000
namespace K9
open PySem PySem.Spec PyProof.Rows L2 RV
/-! ### a ring in a part -/
theorem loop_to {ps : List (List Int)} {x : Int} {ws : List Int} (h : Loop ps x ws) : ∀ (i : Nat) (y : Int), ws[i]? = some y → Wk ps i x y
  | 0, y, hy => by rw [h.1 y hy]; exact .nil x
  | i + 1, y, hy => by
    have hi := (List.getElem?_eq_some_iff.mp hy).1
    obtain ⟨z, hz⟩ : ∃ z, ws[i]? = some z := ⟨_, List.getElem?_eq_getElem (by omega)⟩
    refine .more (loop_to h i z hz) (h.2 i z y hz ?_)
    rw [List.getElem?_append_left hi]; exact hy
theorem loop_all {ps : List (List Int)} {x : Int} {ws : List Int} (h : Loop ps x ws) (ne : ws ≠ []) : Wk ps ws.length x x := by
  have pos := List.length_pos_iff.mpr ne
  obtain ⟨n, hn⟩ : ∃ n, ws.length = n + 1 := ⟨ws.length - 1, by omega⟩
  obtain ⟨z, hz⟩ : ∃ z, ws[n]? = some z := ⟨_, List.getElem?_eq_getElem (by omega)⟩
  rw [hn]
  refine .more (loop_to h n z hz) (h.2 n z x hz ?_)
  rw [List.getElem?_append_right (by omega), hn, Nat.sub_self]; rfl
theorem loop_back {ps : List (List Int)} {x : Int} {ws : List Int} (h : Loop ps x ws) : ∀ (k i : Nat) (y : Int), ws[i]? = some y → i + k = ws.length → Wk ps k y x
  | 0, i, y, hy, e => by
    have := (List.getElem?_eq_some_iff.mp hy).1
    omega
  | k + 1, i, y, hy, e => by
    by_cases hk : k = 0
    · subst hk
      refine .one (h.2 i y x hy ?_)
      rw [List.getElem?_append_right (by omega), show i + 1 - ws.length = 0 by omega]; rfl
    · obtain ⟨z, hz⟩ : ∃ z, ws[i + 1]? = some z := ⟨_, List.getElem?_eq_getElem (by omega)⟩
      have w := loop_back h k (i + 1) z hz (by omega)
      have e1 : [y, z] ∈ ps := h.2 i y z hy (by rw [List.getElem?_append_left (by omega)]; exact hz)
      have z2 := (Wk.one e1).trans w
      rwa [Nat.add_comm] at z2
section
variable {ns : List Int} {ps : List (List Int)} {p ws : List Int} {x : Int}
theorem loop_in (hP : ∀ q ∈ ps, Pr (ns.length : Int) q) (hp : p ∈ partsOf ps ns.length) (hx : x ∈ p) (h : Loop ps x ws) : ∀ y ∈ ws, y ∈ p := fun y hy => by
  obtain ⟨i, hi, e⟩ := List.getElem_of_mem hy
  have hy' : ws[i]? = some y := by rw [List.getElem?_eq_getElem hi, e]
  have k := knot_of hP hp
  obtain ⟨a, wa⟩ := k.out x hx
  obtain ⟨b, wb⟩ := k.back x hx
  exact k.mid y ⟨_, wa.trans (loop_to h i y hy')⟩ ⟨_, (loop_back h (ws.length - i) i y hy' (by omega)).trans wb⟩
/-- classes go up by one -/
theorem loop_cls (hP : ∀ q ∈ ps, Pr (ns.length : Int) q) (hp : p ∈ partsOf ps ns.length) (hx : x ∈ p) (h : Loop ps x ws) {g : Nat} (per : Per ps (hd0 p) g) (pos : 0 < g) {i : Nat} {y z : Int} (hy : ws[i]? = some y) (hz : (i = 0 ∧ ws[ws.length - 1]? = some z) ∨ (1 ≤ i ∧ ws[i - 1]? = some z)) :
    (((clsM ps ns.length y : Nat) : Int) - ((clsM ps ns.length z : Nat) : Int)) % (g : Int) = 1 % (g : Int) := by
  have k := knot_of hP hp
  have inp := loop_in hP hp hx h
  have yp := inp y (List.mem_of_getElem? hy)
  have zp : z ∈ p := by rcases hz with ⟨_, e⟩ | ⟨_, e⟩ <;> exact inp z (List.mem_of_getElem? e)
  obtain ⟨a, wa⟩ := k.out z zp
  have st : [z, y] ∈ ps := by
    have hi := (List.getElem?_eq_some_iff.mp hy).1
    rcases hz with ⟨rfl, e⟩ | ⟨h1, e⟩
    · have z0 := h.1 y hy
      subst z0
      refine h.2 _ z y e ?_
      rw [List.getElem?_append_right (by omega), show ws.length - 1 + 1 - ws.length = 0 by omega]; rfl
    · refine h.2 _ z y e ?_
      rw [show i - 1 + 1 = i by omega, List.getElem?_append_left hi]; exact hy
  rw [clsM_of hp yp, clsM_of hp zp, per.is, ← per.cls (wa.trans (.one st)) (k.back y yp), ← per.cls wa (k.back z zp)]
  have e1 : (((a + 1) % g : Nat) : Int) = ((a : Int) + 1) % (g : Int) := by rw [Int.natCast_emod]; rfl
  have e2 : ((a % g : Nat) : Int) = (a : Int) % (g : Int) := by rw [Int.natCast_emod]
  rw [e1, e2, Int.sub_emod, Int.emod_emod, Int.emod_emod, ← Int.sub_emod, show (a : Int) + 1 - a = 1 by omega]
theorem loop_len (hP : ∀ q ∈ ps, Pr (ns.length : Int) q) (hp : p ∈ partsOf ps ns.length) (hx : x ∈ p) (h : Loop ps x ws) (ne : ws ≠ []) {g : Nat} (per : Per ps (hd0 p) g) : g ∣ ws.length := by
  have k := knot_of hP hp
  obtain ⟨a, wa⟩ := k.out x hx
  obtain ⟨b, wb⟩ := k.back x hx
  exact dvd_mid (per.all _ ((wa.trans (loop_all h ne)).trans wb)) (per.all _ (wa.trans wb))
end
end K9
set_option maxHeartbeats 4000000
namespace K9
open PySem PySem.Spec PyProof.Rows L2 RV
theorem part_is {ps : List (List Int)} {n k : Nat} {p : List Int} {m : Int} {v : V} (h : PartNo ps n m v) (g : (partsOf ps n)[k]? = some p) (hm : m ∈ p) : v = .int (k : Int) := by
  have hp := List.mem_of_getElem? g
  have e := part_lot hp hm
  rcases h with ⟨no, _⟩ | ⟨j, gj, _, rfl⟩
  · exact absurd (lot_some (by rw [e]; exact hm)) no
  · rw [e, ← g] at gj
    have hj := (List.getElem?_eq_some_iff.mp (gj.trans g)).1
    rw [(List.getElem?_inj hj (parts_nodup ps n)).mp gj]
section
variable {P : Program} {w : World} {K : PySem.W.Frag} {mg : Str → Option Value} {base : Heap}
/-! ### _law_ring_right -/
abbrev nRR : List Str := ["_law_rule", "_law_number", "_law_marks", "_law_known_here", "_law_wheel", "_law_beyond", "_law_back", "_law_its", "_law_sums", "_law_mark", "_law_at", "_law_other"]
theorem scRR : FnScope nRR ["_law_rule", "_law_number", "_law_marks"] (defScope sRingRight) := ⟨rfl, rfl, rfl, by decide +kernel, rfl, by decide +kernel, by decide +kernel⟩
def spRR (K : PySem.W.Frag) (C : Addr) : Sp := fun vs H Q _ => ∃ (r a : Addr) (k : Nat) (ns p ws : List Int) (ps : List (List Int)) (x : Int), vs = [.ref r, .int (k : Int), .ref a] ∧ RuleAt K C H r ns ps ∧ Mir ns ∧ Stp ns ps ∧ (partsOf ps ns.length)[k]? = some p ∧ SqT K H a (ws.map V.int) ∧ x ∈ p ∧ Loop ps x ws ∧ ws ≠ [] ∧ ws.length ≤ 40 ∧
  ∀ H', Same H H' → Q (.bl true) H'
/-- the defs that are asked -/
structure RRDefs (K : PySem.W.Frag) (mg : Str → Option Value) (P : Program) (w : World) (base : Heap) (C fK fE fM fO fT fI fV fL : Addr) (dK dE dM dO dT dI dV dL : FuncData) : Prop where
  B : Bare mg
  K1 : DefAt K mg "_law_known" sKnown ["_law_rule", "_law_number"] fK dK
  GK : FnOk P w K mg base CX0 6 fK dK ["_law_rule", "_law_number"] (spKnown K C)
  E : DefAt K mg "period" sPeriod ["rule", "part"] fE dE
  GE : FnOk P w K mg base CX0 4 fE dE ["rule", "part"] (spPeriod K C)
  M : DefAt K mg "mirror_part" sMirrorPart ["rule", "part"] fM dM
  GM : FnOk P w K mg base CX0 5 fM dM ["rule", "part"] (spMirrorPart K C)
  O : DefAt K mg "part_of" sPartOf ["rule", "mark"] fO dO
  GO : FnOk P w K mg base CX0 4 fO dO ["rule", "mark"] (spPartOf K C)
  T : DefAt K mg "turning" sTurning ["rule", "part"] fT dT
  GT : FnOk P w K mg base CX0 7 fT dT ["rule", "part"] (spTurning K C)
  I : DefAt K mg "is_ring" sIsRing ["rule", "thing"] fI dI
  GI : FnOk P w K mg base CX0 5 fI dI ["rule", "thing"] (spIsRing K C)
  V : DefAt K mg "mirrored" sMirrored ["rule", "ring"] fV dV
  GV : FnOk P w K mg base CX0 2 fV dV ["rule", "ring"] (spMirrored K C)
  L : DefAt K mg "spelled" sSpelled ["ring"] fL dL
  GL : FnOk P w K mg base CX0 5 fL dL ["ring"] (spSpelled K)
variable {C fK fE fM fO fT fI fV fL : Addr} {dK dE dM dO dT dI dV dL : FuncData}
theorem ok_rr {f : Addr} {fd : FuncData} (F : Fun K "_law_ring_right" "_law_ring_right" sRingRight f fd) (Z : RRDefs K mg P w base C fK fE fM fO fT fI fV fL dK dE dM dO dT dI dV dL) : FnOk P w K mg base CX0 8 f fd ["_law_rule", "_law_number", "_law_marks"] (spRR K C) := by
  obtain ⟨B, DK, GK, DE, GE, DM, GM, DO, GO, DT, GT, DI, GI, DV, GV, DL, GL⟩ := Z
  refine F.ok scRR (fun vs H Q E h => ?_) (fun cdv A outer s H vs Q E hr h => ?_)
  · obtain ⟨r, a, k, ns, p, ws, ps, x, rfl, _⟩ := h
    rfl
  · obtain ⟨r, a, k, ns, p, ws, ps, x, rfl, R, M, S, gk, hA, hx, lp, ne, l40, q⟩ := h
    have hu := hu_of hr
    have hu5 := un65 hr
    have r2 := hr.mono (show 2 ≤ 7 by decide)
    have r4 := hr.mono (show 4 ≤ 7 by decide)
    have r5 := hr.mono (show 5 ≤ 7 by decide)
    have r6 := hr.mono (show 6 ≤ 7 by decide)
    have two : (2 : Nat) ≤ sizeLine := by decide
    have three : (3 : Nat) ≤ sizeLine := by decide
    refine ⟨_, pss_cons (ps_asg (pe_tup (pa_cons (pe_call GK r6 (by rfl) DK.mg DK.fn.kp DK.bi .nil pass0 (pa_cons (pv 0) (pa_cons (pv 1) pa_nil))) (pa_cons (pe_call GE r4 (by rfl) DE.mg DE.fn.kp DE.bi .nil pass0 (pa_cons (pv 0) (pa_cons (pv 1) pa_nil))) (pa_cons (pe_call GM r5 (by rfl) DM.mg DM.fn.kp DM.bi .nil pass0 (pa_cons (pv 0) (pa_cons (pv 1) pa_nil))) pa_nil))))
        (pg_tup rfl (pgs_cons (pg_name (i := 3) scRR.nd rfl (Or.inr rfl)) (pgs_cons (pg_name (i := 4) scRR.nd rfl (Or.inr rfl)) (pgs_cons (pg_name (i := 5) scRR.nd rfl (Or.inr rfl)) pgs_nil)))))
      (pss_cons (ps_asg (pe_tup (pa_cons (pe_call GL r5 (by rfl) DL.mg DL.fn.kp DL.bi .nil pass0 (pa_cons (pe_call GV r2 (by rfl) DV.mg DV.fn.kp DV.bi .nil pass0 (pa_cons (pv 0) (pa_cons (pe_tup (pa_cons (pe_tup (pa_cons pe_int (pa_cons (pv 2) pa_nil))) pa_nil)) pa_nil))) pa_nil)) (pa_cons (pe_call GK r6 (by rfl) DK.mg DK.fn.kp DK.bi .nil pass0 (pa_cons (pv 0) (pa_cons (pv 5) pa_nil))) pa_nil)))
        (pg_tup rfl (pgs_cons (pg_name (i := 6) scRR.nd rfl (Or.inl rfl)) (pgs_cons (pg_name (i := 7) scRR.nd rfl (Or.inr rfl)) pgs_nil))))
      (pss_cons (ps_if (PW.pt (pw_or (pt_not (pt_val (pe_call GI r5 (by rfl) DI.mg DI.fn.kp DI.bi .nil pass0 (pa_cons (pv 0) (pa_cons (pe_tup (pa_cons (pe_tup (pa_cons pe_int (pa_cons (pv 2) pa_nil))) pa_nil)) pa_nil)))))
          (pw_or1 (pt_not (pt_val (pe_callB (cr_all rfl) (by rfl) B.all (by decide +kernel) (pa_cons (pe_lc (own := [("_law_mark", 9)]) (g := gName 9) (tt := tYes) rfl scRR.nd (pi_tup (pv 2)) (blkOk_by (N := nRR) (sc := defScope sRingRight) (by decide +kernel)) (fun _ _ _ _ _ => pg_name (i := 9) scRR.nd rfl (Or.inl rfl)) (fun _ _ _ _ _ => pts_nil)
            (fun _ _ _ _ _ => pe_cmpR op_eq (pe_call GO r4 (by rfl) DO.mg DO.fn.kp DO.bi .nil pass0 (pa_cons (pv 0) (pa_cons (pv 9) pa_nil))) (pv 1) (nomark _))) pa_nil))))))) (pss_one (ps_ret pe_bl)) pss_nil)
      (pss_cons (ps_if (pt_cmpR (op_neD hr.units)
          (pe_lc (own := [("_law_at", 10)]) (g := gName 10) (tt := tYes) rfl scRR.nd (pi_range1 (by rfl) B.range (pa_cons (pe_callB call_len_seq (by rfl) B.len PySem.boot_len (pa_cons (pv 2) pa_nil)) pa_nil)) (blkOk_by (N := nRR) (sc := defScope sRingRight) (by decide +kernel)) (fun _ _ _ _ _ => pg_name (i := 10) scRR.nd rfl (Or.inl rfl)) (fun _ _ _ _ _ => pts_nil)
            (fun _ _ _ _ _ => pe_op op_mod (pe_op op_sub (pe_dget hu (pv 3) (pe_ix (ix_tupK (K := K) rfl) (pv 2) (pv 10) (fun _ _ => rfl)) (fun _ _ => rfl)) (pe_dget hu (pv 3) (pe_ix (ix_tupK (K := K) rfl) (pv 2) (pe_op op_sub (pv 10) pe_int) (fun _ _ => rfl)) (fun _ _ => rfl))) (pv 4)))
          (pe_op op_rep (pe_lst (pa_cons (pe_op op_mod pe_int (pv 4)) pa_nil)) (pe_callB call_len_seq (by rfl) B.len PySem.boot_len (pa_cons (pv 2) pa_nil))) (nomark _)) (pss_one (ps_ret pe_bl)) pss_nil)
      (pss_cons (ps_if (PW.pt (pw_or (pt_cmpR op_ne (pe_op op_mod (pe_callB call_len_seq (by rfl) B.len PySem.boot_len (pa_cons (pv 2) pa_nil)) (pv 4)) pe_int (nomark _))
          (pw_or1 (pt_not (pt_val (pe_callB (cr_all rfl) (by rfl) B.all (by decide +kernel) (pa_cons (pe_lc (own := [("_law_mark", 9)]) (g := gName 9) (tt := tYes) rfl scRR.nd (pi_tup (pv 6)) (blkOk_by (N := nRR) (sc := defScope sRingRight) (by decide +kernel)) (fun _ _ _ _ _ => pg_name (i := 9) scRR.nd rfl (Or.inl rfl)) (fun _ _ _ _ _ => pts_nil)
            (fun _ _ _ _ _ => pe_cmpR op_eq (pe_call GO r4 (by rfl) DO.mg DO.fn.kp DO.bi .nil pass0 (pa_cons (pv 0) (pa_cons (pv 9) pa_nil))) (pv 5) (nomark _))) pa_nil))))))) (pss_one (ps_ret pe_bl)) pss_nil)
      (pss_cons (ps_setLc (i := 8) (own := [("_law_mark", 9), ("_law_other", 11)]) (g := gTup K 2 (gCons (gName 9) (gCons (gName 11) gNil))) (tt := tYes) rfl scRR.nd rfl rfl (by rfl) (RZ.pi_zipA (by rfl) B.zip (pa_cons (pv 2) (pa_cons (pe_backT (pv 6)) pa_nil))) (blkOk_by (N := nRR) (sc := defScope sRingRight) (by decide +kernel))
          (fun _ _ _ _ _ => pg_tupK rfl rfl (pgs_cons (pg_name (i := 9) scRR.nd rfl (Or.inl rfl)) (pgs_cons (pg_name (i := 11) scRR.nd rfl (Or.inl rfl)) pgs_nil))) (fun _ _ _ _ _ => pts_nil)
          (fun _ _ _ _ _ => pe_op op_mod (pe_op op_add (pe_dget hu (pv 3) (pv 9) (fun _ _ => rfl)) (pe_dget hu (pv 7) (pv 11) (fun _ _ => rfl))) (pv 4)))
      (pss_one (ps_ret (pe_cmpR (op_eqD hr.units) (pv 8) (pe_op op_rep (pe_lst (pa_cons (pe_call GT hr (by rfl) DT.mg DT.fn.kp DT.bi .nil pass0 (pa_cons (pv 0) (pa_cons (pv 1) pa_nil))) pa_nil)) (pe_callB call_len_seq (by rfl) B.len PySem.boot_len (pa_cons (pv 2) pa_nil))) (nomark _))))))))), ?_⟩
    have hP : ∀ q ∈ ps, Pr (ns.length : Int) q := fun q hq => S.pair q hq
    have one : (1 : Nat) ≤ sizeLine := by decide
    have hp := List.mem_of_getElem? gk
    have inp := loop_in hP hp hx lp
    have inn : ∀ y ∈ ws, 0 ≤ y ∧ y < (ns.length : Int) := fun y hy => part_bd hp (inp y hy)
    have wpos := List.length_pos_iff.mpr ne
    have g1 : Rg ns [(1, ws)] := by
      refine ⟨⟨by show 1 ≤ 100; omega, List.cons_ne_nil _ _, fun r hr => ?_, fun r hr => ?_⟩, fun r hr => ?_, fun r hr y hy => ?_⟩
      · rw [List.mem_singleton.mp hr]; exact ⟨by show (1 : Int) ≤ 1; omega, ne⟩
      · rw [List.mem_singleton.mp hr]; show ws.length ≤ 3000; omega
      · rw [List.mem_singleton.mp hr]; show ws.length ≤ 1000; omega
      · rw [List.mem_singleton.mp hr] at hy; exact inn y hy
    have mk1 : mk [((1 : Int), ws)] = ws := by rw [mk_one]; exact rp_one ws
    have hxl : hd0 p ∈ lotOf ps ns.length (hd0 p) := by rw [(part_hd_in hp).2]; exact (part_hd_in hp).1
    -- known, wheel, beyond
    refine ⟨.ref r, rfl, .int (k : Int), rfl, r, k, ns, ps, p, rfl, R, M, S, gk, fun H1 d1 s1 nd1 kn1 per1 => ?_⟩
    refine ⟨.ref r, rfl, .int (k : Int), rfl, r, k, ns, ps, p, rfl, R.same s1, M, S, gk, fun H2 s2 _ => ?_⟩
    have pos : 0 < perN ps (hd0 p) := per1.pos (lot_some hxl)
    have s02 := s1.trans s2
    refine ⟨.ref r, rfl, .int (k : Int), rfl, r, k, p, ns, ps, rfl, R.same s02, M, S, gk, fun H3 y my k' s3 hy hmy gk' => ⟨three, fun T0 nT => ?_⟩⟩
    have hp' := List.mem_of_getElem? gk'
    have bydd := part_bd hp hy
    have hmyl : my ∈ lotOf ps ns.length my := by
      have hl := part_lot hp hy
      have hy' : y ∈ lotOf ps ns.length y := by rw [hl]; exact hy
      exact lot_mirror M S bydd.1 hmy hmy hy'
    have mirs : ∀ z mz : Int, z ∈ p → ns[z.toNat]? = some mz → mz ∈ lotOf ps ns.length my := fun z mz hz hmz => by
      have hl := part_lot hp hy
      rw [← hl] at hz
      exact lot_mirror M S bydd.1 hmy hmz hz
    have sT := same_upd (o := .tup [.ref d1, .int ((perN ps (hd0 p) : Nat) : Int), .int (k' : Int)]) nT
    refine ⟨T0, _, rfl, tupNew upd_same, rfl, _, _, rfl, _, _, rfl, _, _, rfl, rfl, ?_⟩
    have s04 := (s02.trans s3).trans sT
    have kn4 := kn1.same ((s2.trans s3).trans sT)
    generalize upd H3 T0 (.tup [.ref d1, .int ((perN ps (hd0 p) : Nat) : Int), .int (k' : Int)]) = H4 at s04 kn4 ⊢
    -- back, its
    refine ⟨.ref r, rfl, .ref a, rfl, two, fun U0 nU0 => ⟨one, fun U1 nU1 => ?_⟩⟩
    have sU0 := same_upd (o := .tup [.int 1, .ref a]) nU0
    have sU1 := same_upd (o := .tup [.ref U0]) nU1
    have hr5 : RingAt K (upd (upd H4 U0 (.tup [.int 1, .ref a])) U1 (.tup [.ref U0])) U1 [(1, ws)] := ⟨[(U0, a, 1, ws)], rfl, tupNew upd_same, fun kq hk => by
      rw [List.mem_singleton.mp hk]
      exact ⟨tupNew (sU1 _ _ upd_same), sqT_same ((s04.trans sU0).trans sU1) hA⟩⟩
    have s05 := (s04.trans sU0).trans sU1
    have kn5 := kn4.same (sU0.trans sU1)
    generalize upd (upd H4 U0 (.tup [.int 1, .ref a])) U1 (.tup [.ref U0]) = H5 at hr5 s05 kn5 ⊢
    refine ⟨r, U1, _, ns, ps, rfl, R.same s05, hr5, g1, fun H6 T6 s6 hT6 => ?_⟩
    have gm := g1.mir M
    refine ⟨T6, _, rfl, hT6, gm.sz, by rw [pl_mir g1 M, ← mk_len g1.sz.rn.nn, mk1]; omega, fun H7 bk s7 e7 => ?_⟩
    rw [mk_mir, mk1] at e7
    have s07 := (s05.trans s6).trans s7
    refine ⟨.ref r, rfl, .int (k' : Int), rfl, r, k', ns, ps, _, rfl, R.same s07, M, S, gk', fun H8 d2 s8 nd2 kn8 per2 => ⟨two, fun T1 nT1 => ?_⟩⟩
    have sT1 := same_upd (o := .tup [.ref bk, .ref d2]) nT1
    refine ⟨T1, _, rfl, tupNew upd_same, rfl, _, _, rfl, _, _, rfl, rfl, ?_⟩
    have s09 := (s07.trans s8).trans sT1
    have kn9 := kn5.same (((s6.trans s7).trans s8).trans sT1)
    have kq9 := kn8.same sT1
    have e9 := (s8.trans sT1) _ _ e7
    generalize upd H8 T1 (.tup [.ref bk, .ref d2]) = H9 at s09 kn9 kq9 e9 ⊢
    -- is_ring
    refine ⟨.ref r, rfl, .ref a, rfl, two, fun U2 nU2 => ⟨one, fun U3 nU3 => ?_⟩⟩
    have sU2 := same_upd (o := .tup [.int 1, .ref a]) nU2
    have sU3 := same_upd (o := .tup [.ref U2]) nU3
    have hr10 : RingAt K (upd (upd H9 U2 (.tup [.int 1, .ref a])) U3 (.tup [.ref U2])) U3 [(1, ws)] := ⟨[(U2, a, 1, ws)], rfl, tupNew upd_same, fun kq hk => by
      rw [List.mem_singleton.mp hk]
      exact ⟨tupNew (sU3 _ _ upd_same), sqT_same ((s09.trans sU2).trans sU3) hA⟩⟩
    have s010 := (s09.trans sU2).trans sU3
    have s910 := sU2.trans sU3
    generalize upd (upd H9 U2 (.tup [.int 1, .ref a])) U3 (.tup [.ref U2]) = H10 at hr10 s010 s910 ⊢
    refine ⟨r, U3, _, ns, ps, rfl, R.same s010, M, S, hr10, g1, fun H11 s11 => ?_⟩
    rw [all_in g1.sz.rn (by rw [mk1]; exact lp.cyc ne)]
    refine ⟨true, rfl, iteF ?_⟩
    have s011 := s010.trans s11
    have s911 := s910.trans s11
    -- all in the part
    refine ⟨.ref a, rfl, a, rfl, ⟨_, sqT_same s011 hA⟩, fun D nD => ?_⟩
    refine lc_tup (K := K) (a := a) (xs := ws.map V.int) (fun i H' => Same H11 H' ∧ H' D = some (.lst (List.replicate i (V.bl true)))) ⟨same_upd nD, upd_same⟩ (fun i H' _ h => sqT_same h.1 (sqT_same s011 hA)) (fun i z H' hz h => ?_) fun H12 h => ?_
    · obtain ⟨m, gm, rfl⟩ := map_at hz
      obtain ⟨s', eD⟩ := h
      have hm := List.mem_of_getElem? gm
      have hi := (List.getElem?_eq_some_iff.mp gm).1
      refine ⟨rfl, tt_yes ⟨.ref r, rfl, .int m, rfl, r, m, ns, ps, rfl, R.same (s011.trans s'), M, S, inn m hm, fun H'' v s'' hv => ?_⟩⟩
      have ev := part_is hv gk (inp m hm)
      subst ev
      refine ⟨.int (k : Int), rfl, rfl, _, s'' _ _ eD, by rw [List.length_replicate]; exact few1 (by omega), fun b o e => by rw [upd_ne (ne_of_none e nD)]; exact s'' _ _ (s' b o e), ?_⟩
      rw [upd_same, decV, decide_eq_true rfl, rep_next]
    obtain ⟨s12, eD⟩ := h
    rw [List.length_map, rep_bl] at eD
    refine ⟨D, _, rfl, lstNew eD, ?_⟩
    rw [all_true]
    refine ⟨true, rfl, iteF ?_⟩
    have s012 := s011.trans s12
    have kn12 := kn9.same (s911.trans s12)
    have kq12 := kq9.same (s911.trans s12)
    have e12 := (s911.trans s12) _ _ e9
    have hA12 := sqT_same s012 hA
    clear eD
    -- classes go up by one
    refine ⟨.ref a, rfl, a, _, rfl, .inr hA12, _, rfl, by rw [List.length_map]; omega, by rw [List.length_map]; omega, fun D2 nD2 => ?_⟩
    rw [List.length_map, Int.toNat_natCast]
    refine lc_range (lo := 0) (n := ws.length) (fun i H' => Same H12 H' ∧ H' D2 = some (.lst ((List.replicate i ((1 : Int) % ((perN ps (hd0 p) : Nat) : Int))).map V.int))) ⟨same_upd nD2, upd_same⟩ (fun i H' hi h => ?_) fun H13 h => ?_
    · obtain ⟨s', eD⟩ := h
      rw [show (0 : Int) + ((i : Nat) : Int) = (i : Int) by omega]
      obtain ⟨y1, gy⟩ : ∃ z, ws[i]? = some z := ⟨_, List.getElem?_eq_getElem hi⟩
      have hz : ∃ z, ((i = 0 ∧ ws[ws.length - 1]? = some z) ∨ (1 ≤ i ∧ ws[i - 1]? = some z)) ∧ atI (ws.map V.int) ((i : Int) - 1) = some (.int z) := by
        by_cases i0 : i = 0
        · obtain ⟨z, gz⟩ : ∃ z, ws[ws.length - 1]? = some z := ⟨_, List.getElem?_eq_getElem (by omega)⟩
          refine ⟨z, .inl ⟨i0, gz⟩, ?_⟩
          rw [i0]
          exact atI_m1 (by rw [List.length_map, List.getElem?_map, gz]; rfl)
        · obtain ⟨z, gz⟩ : ∃ z, ws[i - 1]? = some z := ⟨_, List.getElem?_eq_getElem (by omega)⟩
          refine ⟨z, .inr ⟨by omega, gz⟩, ?_⟩
          rw [show (i : Int) - 1 = ((i - 1 : Nat) : Int) by omega]
          exact atI_nat (by rw [List.getElem?_map, gz]; rfl)
      obtain ⟨z1, hz1, az⟩ := hz
      have yp := inp y1 (List.mem_of_getElem? gy)
      have zp : z1 ∈ p := by rcases hz1 with ⟨_, e⟩ | ⟨_, e⟩ <;> exact inp z1 (List.mem_of_getElem? e)
      have ec := loop_cls hP hp hx lp per1 pos gy hz1
      have hA' := sqT_same s' hA12
      have kn' := kn12.same s'
      refine ⟨by simp [wipe, List.set_set], tt_yes ⟨.ref d1, rfl, .ref a, rfl, .int (i : Int), rfl, a, _, _, .int y1, rfl, rfl, hA', atI_nat (by rw [List.getElem?_map, gy]; rfl), d1, .int ((clsM ps ns.length y1 : Nat) : Int), rfl, ?_, ?_⟩⟩
      · rw [← knw_val (f := fun m => V.int ((clsM ps ns.length m : Nat) : Int)) yp]
        exact DGet.k (k := Sum.inl y1) kn'
      refine ⟨.ref d1, rfl, .ref a, rfl, .int (i : Int), rfl, _, _, rfl, rfl, a, _, _, .int z1, rfl, rfl, hA', az, d1, .int ((clsM ps ns.length z1 : Nat) : Int), rfl, ?_, ?_⟩
      · rw [← knw_val (f := fun m => V.int ((clsM ps ns.length m : Nat) : Int)) zp]
        exact DGet.k (k := Sum.inl z1) kn'
      refine ⟨_, _, rfl, rfl, .int ((perN ps (hd0 p) : Nat) : Int), rfl, _, _, rfl, rfl, (by show (0 : Int) < ((perN ps (hd0 p) : Nat) : Int); omega), _, eD, by rw [List.length_map, List.length_replicate]; exact few1 (by omega), fun b o e => by rw [upd_ne (ne_of_none e nD2)]; exact s' b o e, ?_⟩
      rw [upd_same]
      dsimp only
      rw [ec, List.map_replicate, List.map_replicate, rep_next]
    obtain ⟨s13, eD2⟩ := h
    have hA13 := sqT_same s13 hA12
    refine ⟨.int ((perN ps (hd0 p) : Nat) : Int), rfl, _, _, rfl, rfl, (by show (0 : Int) < ((perN ps (hd0 p) : Nat) : Int); omega), one, fun N0 nN => ⟨.ref a, rfl, a, _, rfl, .inr (sqT_same (same_upd nN) hA13), N0, _, _, rfl, rfl, upd_same, by rw [List.length_map]; omega, by rw [List.length_map]; omega, ?_, fun L nL => ?_⟩⟩
    · rw [List.length_map, Int.toNat_natCast]; exact Nat.le_trans (by simp) (Nat.le_of_lt (few1 (show ws.length ≤ 1000 by omega)))
    rw [List.length_map, Int.toNat_natCast]
    dsimp only at nL ⊢
    rw [rep_int]
    have sN := same_upd (o := .lst [.int ((1 : Int) % ((perN ps (hd0 p) : Nat) : Int))]) nN
    have sL := sN.trans (same_upd (o := .lst ((List.replicate ws.length ((1 : Int) % ((perN ps (hd0 p) : Nat) : Int))).map V.int)) nL)
    have eL : (upd (upd H13 N0 (.lst [.int ((1 : Int) % ((perN ps (hd0 p) : Nat) : Int))])) L (.lst ((List.replicate ws.length ((1 : Int) % ((perN ps (hd0 p) : Nat) : Int))).map V.int))) L = some (.lst ((List.replicate ws.length ((1 : Int) % ((perN ps (hd0 p) : Nat) : Int))).map V.int)) := upd_same
    generalize upd (upd H13 N0 (.lst [.int ((1 : Int) % ((perN ps (hd0 p) : Nat) : Int))])) L (.lst ((List.replicate ws.length ((1 : Int) % ((perN ps (hd0 p) : Nat) : Int))).map V.int)) = H14 at sL eL ⊢
    refine ⟨.list _, .list _, dpL (lstNew (sL _ _ eD2)), dpL (lstNew eL), shapedL _, shapedL _, _, rfl, ?_⟩
    rw [eqvL, decide_eq_true rfl]
    refine iteF ?_
    have s014 := (s012.trans s13).trans sL
    have s1214 := s13.trans sL
    have hA14 := sqT_same s1214 hA12
    have kn14 := kn12.same s1214
    have kq14 := kq12.same s1214
    have e14 := s1214 _ _ e12
    -- so many rounds
    refine ⟨.ref a, rfl, a, _, rfl, .inr hA14, .int ((perN ps (hd0 p) : Nat) : Int), rfl, _, _, rfl, rfl, (by show (0 : Int) < ((perN ps (hd0 p) : Nat) : Int); omega), rfl, _, rfl, ?_⟩
    have dv : (((ws.map V.int).length : Nat) : Int) % ((perN ps (hd0 p) : Nat) : Int) = 0 := by
      rw [List.length_map]
      exact Int.emod_eq_zero_of_dvd (Int.ofNat_dvd.mpr (loop_len hP hp hx lp ne per1))
    dsimp only
    rw [decV, decide_eq_true dv]
    refine iteF ?_
    -- all in the mirror part
    have mF : ∀ m ∈ ws, ns[m.toNat]? = some (mirF ns m) := fun m hm => get_D (by have := inn m hm; omega)
    refine ⟨.ref bk, rfl, bk, rfl, ⟨_, tupNew e14⟩, fun D3 nD3 => ?_⟩
    refine lc_tup (K := K) (a := bk) (xs := (ws.reverse.map (mirF ns)).map V.int) (fun i H' => Same H14 H' ∧ H' D3 = some (.lst (List.replicate i (V.bl true)))) ⟨same_upd nD3, upd_same⟩ (fun i H' _ h => tupNew (h.1 _ _ e14)) (fun i z H' hz h => ?_) fun H15 h => ?_
    · obtain ⟨mm, gm, rfl⟩ := map_at hz
      obtain ⟨s', eD⟩ := h
      obtain ⟨m, hm, rfl⟩ := List.mem_map.mp (List.mem_of_getElem? gm)
      have hm := List.mem_reverse.mp hm
      have hi := (List.getElem?_eq_some_iff.mp gm).1
      rw [List.length_map, List.length_reverse] at hi
      have hmm := mirs m _ (inp m hm) (mF m hm)
      refine ⟨rfl, tt_yes ⟨.ref r, rfl, .int (mirF ns m), rfl, r, mirF ns m, ns, ps, rfl, R.same (s014.trans s'), M, S, part_bd hp' hmm, fun H'' v s'' hv => ?_⟩⟩
      have ev := part_is hv gk' hmm
      subst ev
      refine ⟨.int (k' : Int), rfl, rfl, _, s'' _ _ eD, by rw [List.length_replicate]; exact few1 (by omega), fun b o e => by rw [upd_ne (ne_of_none e nD3)]; exact s'' _ _ (s' b o e), ?_⟩
      rw [upd_same, decV, decide_eq_true rfl, rep_next]
    obtain ⟨s15, eD3⟩ := h
    rw [List.length_map, rep_bl] at eD3
    refine ⟨D3, _, rfl, lstNew eD3, ?_⟩
    rw [all_true]
    refine ⟨true, rfl, iteF ?_⟩
    have s015 := s014.trans s15
    have hA15 := sqT_same s15 hA14
    have kn15 := kn14.same s15
    have kq15 := kq14.same s15
    have e15 := s15 _ _ e14
    -- classes and the mirrors' classes
    have eg : perN ps (hd0 p) = perN ps (hd0 (lotOf ps ns.length my)) := by
      have k1 := knot_of hP hp
      have k2 := knot_of hP hp'
      obtain ⟨h0, l0⟩ := part_hd_in hp
      have b0 := part_bd hp h0
      obtain ⟨m0, hm0⟩ : ∃ z, ns[(hd0 p).toNat]? = some z := ⟨_, List.getElem?_eq_getElem (by omega)⟩
      obtain ⟨h0', l0'⟩ := part_hd_in hp'
      have b0' := part_bd hp' h0'
      obtain ⟨m0', hm0'⟩ : ∃ z, ns[(hd0 (lotOf ps ns.length my)).toNat]? = some z := ⟨_, List.getElem?_eq_getElem (by omega)⟩
      have j0' : m0' ∈ p := by
        have z := lot_mirror M S (part_bd hp' hmyl).1 (mir_back M bydd.1 hmy) hm0' h0'
        rwa [part_lot hp hy] at z
      exact per_mirror M S k1 k2 per1 per2 hm0 hm0' (mirs _ _ h0 hm0) j0'
    have per2' := per2
    rw [← eg] at per2'
    refine ⟨.ref a, rfl, .ref bk, rfl, bk, _, rfl, tupNew e15, fun c nc => ?_⟩
    have sc := same_upd (o := .tup ((ws.reverse.map (mirF ns)).map V.int).reverse) nc
    have ec : (upd H15 c (.tup ((ws.reverse.map (mirF ns)).map V.int).reverse)) c = some (.tup ((ws.map (mirF ns)).map V.int)) := by
      rw [upd_same, ← List.map_reverse, ← List.map_reverse, List.reverse_reverse]
    generalize upd H15 c (.tup ((ws.reverse.map (mirF ns)).map V.int).reverse) = H16 at sc ec ⊢
    have s016 := s015.trans sc
    have hA16 := sqT_same sc hA15
    have kn16 := kn15.same sc
    have kq16 := kq15.same sc
    have hmin : ws.length = min (ws.map V.int).length ((ws.map (mirF ns)).map V.int).length := by
      rw [List.length_map, List.length_map, List.length_map, Nat.min_self]
    refine ⟨a, c, _, _, rfl, .inr ⟨hA16, tupNew ec, fun D4 nD4 => ?_⟩⟩
    refine lc_it (walk_zipT (K := K) (a := a) (b := c) hmin) (fun i H' => Same H16 H' ∧ H' D4 = some (.lst ((List.replicate i (turnN ns ps p)).map V.int))) ⟨same_upd nD4, upd_same⟩ (fun i H' _ h => ⟨sqT_same h.1 hA16, tupNew (h.1 _ _ ec)⟩) (fun i z H17 H18 hi h y' => ?_) fun H17 h => ?_
    · obtain ⟨T2, x1, x2, rfl, nT2, rfl, f1, f2⟩ := y'
      obtain ⟨m, gm, rfl⟩ := map_at f1
      have hm := List.mem_of_getElem? gm
      have g2 : ((ws.map (mirF ns)).map V.int)[i]? = some (.int (mirF ns m)) := by rw [List.getElem?_map, List.getElem?_map, gm]; rfl
      have f3 := Option.some.inj (g2.symm.trans f2)
      subst f3
      have mp := inp m hm
      have mmp := mirs m _ mp (mF m hm)
      have sT2 := same_upd (o := .tup [.int m, .int (mirF ns m)]) nT2
      have s17 := h.1.trans sT2
      have eD4 := sT2 _ _ h.2
      have kn17 := kn16.same s17
      have kq17 := kq16.same s17
      have et := turn_any M S hp hp' per1 per2' hy hmy hmyl mp (mF m hm)
      refine ⟨T2, _, rfl, tupNew upd_same, rfl, _, _, rfl, _, _, rfl, rfl, rfl, tt_yes ⟨.ref d1, rfl, .int m, rfl, d1, .int ((clsM ps ns.length m : Nat) : Int), rfl, ?_, .ref d2, rfl, .int (mirF ns m), rfl, d2, .int ((clsM ps ns.length (mirF ns m) : Nat) : Int), rfl, ?_, _, _, rfl, rfl, .int ((perN ps (hd0 p) : Nat) : Int), rfl, _, _, rfl, rfl, (by show (0 : Int) < ((perN ps (hd0 p) : Nat) : Int); omega), _, eD4, by rw [List.length_map, List.length_replicate]; exact few1 (by omega), fun b o e => by rw [upd_ne (ne_of_none e nD4)]; exact s17 b o e, ?_⟩⟩
      · rw [← knw_val (f := fun m => V.int ((clsM ps ns.length m : Nat) : Int)) mp]
        exact DGet.k (k := Sum.inl m) kn17
      · rw [← knw_val (f := fun m => V.int ((clsM ps ns.length m : Nat) : Int)) mmp]
        exact DGet.k (k := Sum.inl (mirF ns m)) kq17
      · rw [upd_same]
        dsimp only
        rw [← et, List.map_replicate, List.map_replicate, rep_next]
    obtain ⟨s17, eD4⟩ := h
    have s017 := s016.trans s17
    -- the turning
    refine ⟨.ref D4, rfl, .ref r, rfl, .int (k : Int), rfl, r, k, ns, ps, p, rfl, R.same s017, M, S, gk, fun H18 s18 => ⟨one, fun N1 nN1 => ⟨.ref a, rfl, a, _, rfl, .inr (sqT_same (((sc.trans s17).trans s18).trans (same_upd nN1)) hA15), N1, _, _, rfl, rfl, upd_same, by rw [List.length_map]; omega, by rw [List.length_map]; omega, ?_, fun L1 nL1 => ?_⟩⟩⟩
    · rw [List.length_map, Int.toNat_natCast]; exact Nat.le_trans (by simp) (Nat.le_of_lt (few1 (show ws.length ≤ 1000 by omega)))
    rw [List.length_map, Int.toNat_natCast, rep_int]
    have sN1 := same_upd (o := .lst [.int (turnN ns ps p)]) nN1
    have sL1 := sN1.trans (same_upd (o := .lst ((List.replicate ws.length (turnN ns ps p)).map V.int)) nL1)
    refine ⟨.list _, .list _, dpL (lstNew ((s18.trans sL1) _ _ eD4)), dpL (lstNew upd_same), shapedL _, shapedL _, ?_⟩
    rw [eqvL, decide_eq_true rfl]
    exact q _ ((s017.trans s18).trans sL1)
end
end K9
set_option maxHeartbeats 4000000
namespace K9
open PySem PySem.Spec PyProof.Rows L2 RV
theorem RuleAt.pail {K : PySem.W.Frag} {C : Addr} {H H' : Hp} {p r : Addr} {t : Nat} {ns : List Int} {ps : List (List Int)} (h : RuleAt K C H r ns ps) (hp : PailAt H p t) (b : But p H H') : RuleAt K C H' r ns ps := by
  obtain ⟨dx, a, b0, t0, h1, h2, h3, h4⟩ := h.ex
  refine ⟨dx, a, b0, t0, b _ _ h1 fun z => ?_, sqT_pail hp b h2, tups_pail hp b h3, tups_pail hp b h4⟩
  obtain ⟨x, y, e, _⟩ := hp
  rw [z, e] at h1; cases h1
theorem ld_more {ps : List (List Int)} {y j k : Int} (h : Ld ps y j) (e : [j, k] ∈ ps) : Ld ps y k := by
  induction h with
  | here g => exact .step e (.here k)
  | step st _ ih => exact .step st (ih e)
theorem rch_ld {ps : List (List Int)} {a b : Int} (h : Rch ps a b) : ∃ y, [a, y] ∈ ps ∧ Ld ps y b := by
  induction h with
  | one e => exact ⟨_, e, .here _⟩
  | more _ e ih =>
    obtain ⟨y, h1, h2⟩ := ih
    exact ⟨y, h1, ld_more h2 e⟩
theorem part_beg {ps : List (List Int)} {n : Nat} {p : List Int} {x : Int} (hp : p ∈ partsOf ps n) (hx : x ∈ p) : Beg n ps x :=
  ⟨part_bd hp hx, rch_ld (lot_some (by rw [part_lot hp hx]; exact hx))⟩
section
variable {P : Program} {w : World} {K : PySem.W.Frag} {mg : Str → Option Value} {base : Heap}
/-! ### law -/
abbrev nLaw : List Str := ["_law_script", "_law_k", "_law_pail_here", "_law_mirrors_here", "_law_rule", "_law_names_here", "_law_other", "_law_one", "_law_number", "_law_lot", "_law_marks"]
theorem scLaw : FnScope nLaw ["_law_script"] (defScope sLaw) := ⟨rfl, rfl, rfl, by decide +kernel, rfl, by decide +kernel, by decide +kernel⟩
def spLaw (K : PySem.W.Frag) : Sp := fun vs H Q _ => ∃ (a : Addr) (ns : List Int), vs = [.ref a] ∧ SqL K H a (ns.map V.int) ∧ ns.length ≤ 63 ∧ ∀ H', Q (.bl true) H'
structure LDefs (K : PySem.W.Frag) (mg : Str → Option Value) (fP fD fO fM fS fF fB fC fN : Addr) (dP dD dO dM dS dF dB dC dN : FuncData) : Prop where
  pail : DefAt K mg "_law_pail" sPail ["_law_script", "_law_at"] fP dP
  draw : DefAt K mg "_law_draw" sDraw ["_law_pail_here", "_law_many"] fD dD
  of : DefAt K mg "_law_of" sOf ["_law_pail_here", "_law_some"] fO dO
  mirrors : DefAt K mg "_law_mirrors" sDMirrors ["_law_pail_here", "_law_many"] fM dM
  steps : DefAt K mg "_law_steps" sDSteps ["_law_pail_here", "_law_mirrors_here"] fS dS
  off : DefAt K mg "_law_off" sLOff ["_law_steps_here", "_law_goal"] fF dF
  behind : DefAt K mg "_law_behind" sLBehind ["_law_steps_here", "_law_mark"] fB dB
  closed : DefAt K mg "_law_closed" sClosed ["_law_pail_here", "_law_steps_here", "_law_start", "_law_most"] fC dC
  names : DefAt K mg "_law_names" sNames ["_law_pail_here", "_law_many"] fN dN
variable {C fP fD fO fM fS fF fB fC fN fI fR fG fA fX : Addr} {dP dD dO dM dS dF dB dC dN dI dR dG dA dX : FuncData}
theorem ok_law {f : Addr} {fd : FuncData} (F : Fun K "law" "law" sLaw f fd) (T : Txt K mg C) (B : Bare mg) (MK : Mk K C fI) (bI : Binds K dI ["self", "mirrors", "steps"] []) (GI : FnOk P w K mg base CX0 6 fI dI ["self", "mirrors", "steps"] (spInit K C))
    (L : LDefs K mg fP fD fO fM fS fF fB fC fN dP dD dO dM dS dF dB dC dN) (DR : DefAt K mg "_law_renamed" sRenamed ["_law_rule", "_law_names_here"] fR dR) (GR : FnOk P w K mg base CX0 8 fR dR ["_law_rule", "_law_names_here"] (spRen K C))
    (DG : DefAt K mg "_law_names_right" sNamesR ["_law_rule", "_law_other", "_law_names_here"] fG dG) (GG : FnOk P w K mg base CX0 8 fG dG ["_law_rule", "_law_other", "_law_names_here"] (spNR K C))
    (DA : DefAt K mg "parts" sParts ["rule"] fA dA) (GA : FnOk P w K mg base CX0 3 fA dA ["rule"] (spParts K C)) (DX : DefAt K mg "_law_ring_right" sRingRight ["_law_rule", "_law_number", "_law_marks"] fX dX) (GX : FnOk P w K mg base CX0 8 fX dX ["_law_rule", "_law_number", "_law_marks"] (spRR K C)) :
    FnG P w K mg base CX0 9 f fd ["_law_script"] (spLaw K) := by
  have GP : FnOk P w K mg base CX0 1 fP dP ["_law_script", "_law_at"] (spPail K) := ok_pail L.pail.fn B
  have GD : FnOk P w K mg base CX0 1 fD dD ["_law_pail_here", "_law_many"] spDraw := ok_draw L.draw.fn
  have GO : FnOk P w K mg base CX0 2 fO dO ["_law_pail_here", "_law_some"] (spOf K) := ok_of L.of.fn L.draw B
  have GM : FnOk P w K mg base CX0 2 fM dM ["_law_pail_here", "_law_many"] (spDMirrors K) := ok_dmirrors L.mirrors.fn L.draw B
  have GS : FnOk P w K mg base CX0 3 fS dS ["_law_pail_here", "_law_mirrors_here"] (spDSteps K) := ok_dsteps L.steps.fn L.draw L.of B
  have GN : FnOk P w K mg base CX0 2 fN dN ["_law_pail_here", "_law_many"] (spNames K) := ok_names L.names.fn L.draw B
  have GC : FnOk P w K mg base CX0 3 fC dC ["_law_pail_here", "_law_steps_here", "_law_start", "_law_most"] (spClosed K) := ok_closed L.closed.fn B L.off L.behind L.draw L.of
  refine okG F scLaw (fun vs H Q E h => ?_) (fun cdv A outer s H vs Q E gd hr h => ?_)
  · obtain ⟨a, ns, rfl, _⟩ := h
    rfl
  · obtain ⟨a, cs, rfl, hS, hlen, q⟩ := h
    have r1 := hr.mono (show 1 ≤ 8 by decide)
    have r2 := hr.mono (show 2 ≤ 8 by decide)
    have r3 := hr.mono (show 3 ≤ 8 by decide)
    have r7 := hr.mono (show 7 ≤ 8 by decide)
    have two : (2 : Nat) ≤ sizeLine := by decide
    refine ⟨_, pss_cons (ps_for PassesOwn.never rfl (pi_range1 (by rfl) B.range (pa_cons (pe_callB (call_max2 rfl) (by rfl) B.max (by decide +kernel) (pa_cons pe_int (pa_cons (pe_callB (call_min2 rfl) (by rfl) B.min (by decide +kernel) (pa_cons pe_int (pa_cons (pe_callB call_len_seq (by rfl) B.len PySem.boot_len (pa_cons (pv 0) pa_nil)) pa_nil))) pa_nil))) pa_nil)) (pg_name (i := 1) scLaw.nd rfl (Or.inl rfl))
        (pss_cons (ps_set (i := 2) scLaw.nd rfl (Or.inl rfl) (pe_call GP r1 (by rfl) L.pail.mg L.pail.fn.kp L.pail.bi .nil pass0 (pa_cons (pv 0) (pa_cons (pv 1) pa_nil))))
        (pss_cons (ps_set (i := 3) scLaw.nd rfl (Or.inl rfl) (pe_call GM r2 (by rfl) L.mirrors.mg L.mirrors.fn.kp L.mirrors.bi .nil pass0 (pa_cons (pv 2) (pa_cons (pe_op op_add pe_int (pe_call GD r1 (by rfl) L.draw.mg L.draw.fn.kp L.draw.bi .nil pass0 (pa_cons (pv 2) (pa_cons pe_int pa_nil)))) pa_nil))))
        (pss_cons (ps_par (i := 4) (j := 5) (by rfl) scLaw.nd rfl rfl (by decide) rfl rfl (pa_cons (pe_make MK GI r7 (by rfl) T.mgC bI .nil pass0 (pa_cons (pv 3) (pa_cons (pe_call GS r3 (by rfl) L.steps.mg L.steps.fn.kp L.steps.bi .nil pass0 (pa_cons (pv 2) (pa_cons (pv 3) pa_nil))) pa_nil)))
            (pa_cons (pe_call GN r2 (by rfl) L.names.mg L.names.fn.kp L.names.bi .nil pass0 (pa_cons (pv 2) (pa_cons (pe_callB call_len_seq (by rfl) B.len PySem.boot_len (pa_cons (pv 3) pa_nil)) pa_nil))) pa_nil)) (by rfl))
        (pss_cons (ps_set (i := 6) scLaw.nd rfl (Or.inl rfl) (pe_call GR hr (by rfl) DR.mg DR.fn.kp DR.bi .nil pass0 (pa_cons (pv 4) (pa_cons (pv 5) pa_nil))))
        (pss_cons (ps_if (pt_not (pt_val (pe_call GG hr (by rfl) DG.mg DG.fn.kp DG.bi .nil pass0 (pa_cons (pv 4) (pa_cons (pv 6) (pa_cons (pv 5) pa_nil)))))) (pss_one (ps_ret pe_bl)) pss_nil)
        (pss_one (ps_for PassesOwn.never rfl (pi_tup (pe_tup (pa_cons (pv 4) (pa_cons (pv 6) pa_nil)))) (pg_name (i := 7) scLaw.nd rfl (Or.inl rfl))
          (pss_one (ps_for PassesOwn.never rfl (pi_enT (by rfl) B.enumerate (pa_cons (pe_call GA r3 (by rfl) DA.mg DA.fn.kp DA.bi .nil pass0 (pa_cons (pv 7) pa_nil)) pa_nil)) (pg_tup rfl (pgs_cons (pg_name (i := 8) scLaw.nd rfl (Or.inl rfl)) (pgs_cons (pg_name (i := 9) scLaw.nd rfl (Or.inl rfl)) pgs_nil)))
            (pss_cons (ps_set (i := 10) scLaw.nd rfl (Or.inl rfl) (pe_call GC r3 (by rfl) L.closed.mg L.closed.fn.kp L.closed.bi .nil pass0 (pa_cons (pv 2) (pa_cons (pe_fld (pv 7) rfl) (pa_cons (pe_call GO r2 (by rfl) L.of.mg L.of.fn.kp L.of.bi .nil pass0 (pa_cons (pv 2) (pa_cons (pe_callTy call_list_of (by rfl) B.list (by decide +kernel) (pa_cons (pv 9) pa_nil)) pa_nil))) (pa_cons pe_int pa_nil))))))
            (pss_one (ps_if (pt_not (pt_val (pe_call GX hr (by rfl) DX.mg DX.fn.kp DX.bi .nil pass0 (pa_cons (pv 7) (pa_cons (pv 8) (pa_cons (pv 10) pa_nil)))))) (pss_one (ps_ret pe_bl)) pss_nil)))))))))))))
      (pss_one (ps_ret pe_bl)), ?_⟩
    refine ⟨.ref a, rfl, a, _, rfl, .inl hS, 3, _, rfl, 1, _, rfl, ?_⟩
    have vb : ∀ n : Int, 0 ≤ n → n ≤ 63 → 1 ≤ (if (if n < 3 then n else 3) > 1 then (if n < 3 then n else 3) else 1) ∧ (if (if n < 3 then n else 3) > 1 then (if n < 3 then n else 3) else 1) ≤ 3 := fun n _ _ => by
      split <;> split <;> omega
    have vb1 := vb ((cs.map V.int).length : Int) (by omega) (by rw [List.length_map]; omega)
    refine ⟨_, rfl, by omega, by omega, ?_⟩
    refine for_range (lo := 0) (n := _) (fun i σ H' => ∃ (y1 y2 y3 y4 y5 y6 y7 y8 y9 y10 : Option V), σ = [some (.ref a), y1, y2, y3, y4, y5, y6, y7, y8, y9, y10] ∧ Same H H')
      ⟨none, none, none, none, none, none, none, none, none, none, rfl, Same.refl H⟩ ?_ ?_
    · rintro i σ H1 hi ⟨y1, y2, y3, y4, y5, y6, y7, y8, y9, y10, rfl, s1⟩
      have hi3 : i < 64 := by omega
      refine ⟨.ref a, rfl, .int (0 + (i : Nat)), rfl, a, cs, i, by rw [Int.zero_add]; rfl, s1.seq hS, hi3, fun H2 p s2 np hp2 => ?_⟩
      -- mirrors
      refine ⟨.ref p, rfl, .ref p, rfl, p, 0, 8, rfl, hp2, by omega, by decide, by decide, fun m0 t3 H3 m00 m01 ht3 hp3 b3 => ⟨1, m0, rfl, rfl, ?_⟩⟩
      obtain ⟨m, em⟩ : ∃ m : Nat, 1 + m0 = (m : Int) := ⟨(1 + m0).toNat, by omega⟩
      refine ⟨p, t3, m, by rw [← em]; rfl, hp3, by omega, by omega, by omega, fun H4 u t4 ns hp4 ht4 b4 hT4 M => ?_⟩
      have b04 := same_but s2 np (b3.trans b4)
      -- Rule, names
      refine ⟨.ref u, rfl, .ref p, rfl, .ref u, rfl, p, u, t4, ns, rfl, hp4, by omega, hT4, M, fun H5 c t5 ps hp5 ht5 b5 hC5 S => ?_⟩
      have hT5 := sqT_pail hp4 b5 hT4
      have b05 := same_but b04 np b5
      refine fun r dx nr ndr ner => make_rule (ns := ns) (ps := ps) hT5 hC5.tups M S nr ndr ner fun H6 s6 R6 => ?_
      have hT6 := sqT_same s6 hT5
      have hp6 := pail_same hp5 s6
      have h8 := M.few
      have m1 := M.pos
      have s06 := b05.trans s6
      refine ⟨.ref p, rfl, .ref u, rfl, u, _, rfl, .inr hT6, p, t5, ns.length, by rw [List.length_map]; rfl, hp6, by omega, by omega, h8, fun H7 fsA t7 fs hp7 ht7 b7 nfp nf ef N => ?_⟩
      refine ⟨.ref r, .ref fsA, rfl, ?_⟩
      dsimp only
      have R7 := R6.pail hp6 b7
      have s07 := same_but s06 np b7
      -- renamed
      refine ⟨.ref r, rfl, .ref fsA, rfl, r, fsA, ns, fs, ps, rfl, R7, M, S, ef, N, fun H8 o ns2 ps2 s8 R8 M2 S2 RN => ?_⟩
      -- names right
      refine ⟨.ref r, rfl, .ref o, rfl, .ref fsA, rfl, r, o, fsA, ns, ns2, fs, ps, ps2, rfl, R7.same s8, M, S, R8, M2, S2, RN, s8 _ _ ef, fun H9 s9 => ⟨true, rfl, iteF ?_⟩⟩
      have hp9 := pail_same hp7 (s8.trans s9)
      have s09 := (s07.trans s8).trans s9
      have R9 := R7.same (s8.trans s9)
      have O9 := R8.same s9
      -- both rules
      refine ⟨.ref r, rfl, .ref o, rfl, two, fun T0 nT0 => ?_⟩
      have sT0 := same_upd (o := .tup [.ref r, .ref o]) nT0
      have eT0 : (upd H9 T0 (.tup [.ref r, .ref o])) T0 = some (.tup [.ref r, .ref o]) := upd_same
      have hp10 := pail_same hp9 sT0
      have s010 := s09.trans sT0
      have both : ∀ x ∈ [V.ref r, V.ref o], ∃ (r' : Addr) (ns' : List Int) (ps' : List (List Int)), x = .ref r' ∧ RuleAt K C (upd H9 T0 (.tup [.ref r, .ref o])) r' ns' ps' ∧ Mir ns' ∧ Stp ns' ps' := fun x hx => by
        simp only [List.mem_cons, List.not_mem_nil, or_false] at hx
        rcases hx with rfl | rfl
        · exact ⟨r, ns, ps, rfl, R9.same sT0, M, S⟩
        · exact ⟨o, ns2, ps2, rfl, O9.same sT0, M2, S2⟩
      generalize upd H9 T0 (.tup [.ref r, .ref o]) = H10 at eT0 hp10 s010 both ⊢
      refine ⟨T0, rfl, ⟨_, tupNew eT0⟩, ?_⟩
      have hT0 : SqT K H10 T0 [V.ref r, V.ref o] := tupNew eT0
      refine for_tup (K := K) (a := T0) (xs := [V.ref r, V.ref o]) (fun j σ H' => ∃ (y1 y3 y4 y5 y6 y7 y8 y9 y10 : Option V) (t' : Nat), σ = [some (.ref a), y1, some (.ref p), y3, y4, y5, y6, y7, y8, y9, y10] ∧ But p H10 H' ∧ PailAt H' p t' ∧ t' ≤ 200 + 200 * j)
        ⟨_, _, _, _, _, _, _, _, _, t7, rfl, But.of (Same.refl _), hp10, by omega⟩ (fun j σ H' _ h => ?_) (fun j x σ H' hx h => ?_) (fun σ H' h => ?_)
      · obtain ⟨_, _, _, _, _, _, _, _, _, _, _, b', hp', _⟩ := h
        exact sqT_pail hp10 b' hT0
      · obtain ⟨y1, y3, y4, y5, y6, y7, y8, y9, y10, t', rfl, b', hp', ht'⟩ := h
        have hj : j < 2 := (List.getElem?_eq_some_iff.mp hx).1
        obtain ⟨r', ns', ps', rfl, R0, M', S'⟩ := both x (List.mem_of_getElem? hx)
        have R' := R0.pail hp10 b'
        have n8 := M'.few
        have hP : ∀ q ∈ ps', Pr (ns'.length : Int) q := fun q hq => S'.pair q hq
        refine ⟨.ref r', rfl, r', ns', ps', rfl, R', M', S', fun H11 c11 s11 nc11 hC11 => ?_⟩
        obtain ⟨ks, ek, hc, hks⟩ := hC11
        have R11 := R'.same s11
        have hp11 := pail_same hp' s11
        have b11 := b'.trans (But.of (p := p) s11)
        have lks : ks.length ≤ 8 := by
          have z := congrArg List.length ek
          rw [List.length_map] at z
          have := parts_len ps' ns'.length
          omega
        have hct : SqT K H11 c11 (ks.map fun q : Addr × List Int => V.ref q.1) := tupNew hc
        refine ⟨c11, _, rfl, hct, ?_⟩
        refine for_it (walk_enT (K := K) (a := c11) (xs := ks.map fun q : Addr × List Int => V.ref q.1)) (fun k σ H' => ∃ (y1 y3 y4 y5 y6 y8 y9 y10 : Option V) (t2 : Nat), σ = [some (.ref a), y1, some (.ref p), y3, y4, y5, y6, some (.ref r'), y8, y9, y10] ∧ But p H11 H' ∧ PailAt H' p t2 ∧ t2 ≤ 200 + 200 * j + 24 * k)
          ⟨_, _, _, _, _, _, _, _, t', rfl, But.of (Same.refl _), hp11, by omega⟩ (fun k σ H' _ h => ?_) (fun k x σ H12 H13 hk h y => ?_) (fun σ H' h => ?_)
        · obtain ⟨_, _, _, _, _, _, _, _, _, _, b2, _, _⟩ := h
          exact sqT_pail hp11 b2 hct
        · obtain ⟨y1, y3, y4, y5, y6, y8, y9, y10, t2, rfl, b2, hp12, ht2⟩ := h
          obtain ⟨T1, x1, x2, rfl, nT, rfl, e1, e2⟩ := y
          have e1' : x1 = .int (k : Nat) := (Option.some.inj e1).symm
          subst e1'
          obtain ⟨kk, g, rfl⟩ := map_at e2
          have gp : (partsOf ps' ns'.length)[k]? = some kk.2 := by rw [← ek, List.getElem?_map, g]; rfl
          have hpt := List.mem_of_getElem? gp
          have hk8 : k < 8 := by have := (List.getElem?_eq_some_iff.mp g).1; omega
          have sT := same_upd (o := .tup [.int (k : Nat), .ref kk.1]) nT
          refine ⟨T1, _, rfl, tupNew upd_same, rfl, _, _, rfl, _, _, rfl, rfl, ?_⟩
          have b13 := b2.trans (But.of (p := p) sT)
          have hp13 := pail_same hp12 sT
          generalize upd H12 T1 (.tup [.int (k : Nat), .ref kk.1]) = H13 at b13 hp13 ⊢
          have hT := sqT_pail hp11 b13 ((hks kk (List.mem_of_getElem? g)).sq (K := K))
          have R13 := R11.pail hp11 b13
          obtain ⟨dx, a0, b0, t0, g1, g2, g3, g4⟩ := R13.ex
          have l8 := part_len8 n8 hpt
          have pos := List.length_pos_iff.mpr (part_ne hpt)
          -- closed(pail, one.steps, of(pail, list(lot)), 12)
          refine ⟨.ref p, rfl, .ref r', rfl, r', C, dx, _, _, rfl, g1, T.cl, T.nS, flds_s _ _ _, .ref p, rfl, .ref kk.1, rfl, kk.1, _, rfl, .inr hT, fun l nl => ?_⟩
          have sl := same_upd (o := .lst (kk.2.map V.int)) nl
          have hp14 := pail_same hp13 sl
          have nlp : l ≠ p := pail_ne hp13 nl
          refine ⟨p, l, t2, _, rfl, hp14, by omega, lstNew upd_same, nlp, by rw [List.length_map]; exact pos, by rw [List.length_map]; omega, fun jx v t3' H15 gv ht3' hp15 b15 => ?_⟩
          obtain ⟨xm, gm, rfl⟩ := map_at gv
          have hxm := List.mem_of_getElem? gm
          have b1315 := (But.of (p := p) sl).trans b15
          have g3' := tups_pail hp13 b1315 g3
          refine ⟨p, b0, t3', 12, ns'.length, xm, ps', rfl, hp15, by omega, g3', hP, n8, S'.few, part_beg hpt hxm, by omega, by omega, fun H16 Tw ws t4' ht4' hp16 b16 hTw lp nw lw inw => ?_⟩
          have b1316 := b1315.trans b16
          have R16 := R13.pail hp13 b1316
          refine ⟨.ref r', rfl, .int (k : Nat), rfl, .ref Tw, rfl, r', Tw, k, ns', kk.2, ws, ps', xm, rfl, R16, M', S', gp, hTw, hxm, lp, nw, by omega, fun H17 s17 => ⟨true, rfl, iteF ?_⟩⟩
          exact ⟨_, _, _, _, _, _, _, _, t4', rfl, (b13.trans b1316).trans (But.of s17), pail_same hp16 s17, by omega⟩
        · obtain ⟨y1, y3, y4, y5, y6, y8, y9, y10, t2, rfl, b2, hp12, ht2⟩ := h
          rw [List.length_map] at ht2
          exact ⟨_, _, _, _, _, _, _, _, _, t2, rfl, b11.trans b2, hp12, by omega⟩
      · obtain ⟨y1, y3, y4, y5, y6, y7, y8, y9, y10, t', rfl, b', hp', ht'⟩ := h
        exact ⟨_, _, _, _, _, _, _, _, _, _, rfl, s1.trans (same_but s010 np b')⟩
    · rintro σ H1 ⟨y1, y2, y3, y4, y5, y6, y7, y8, y9, y10, rfl, s1⟩
      exact q H1
end
end K9
set_option maxHeartbeats 4000000
namespace K9
open PySem PySem.Spec PyProof.Rows L2 RV
theorem def_mk {K : PySem.W.Frag} {h : Heap} {mg : Str → Option Value} {x : Str} {st : Stmt} {ps : List Str} {f : Addr} {oc : Value} {od an : Option Addr} {sl : Array (Option Value)} {kV dc pm cd ct : Value} (X : K.In h) (G : h.Ns mainGlobals mg)
    (a : PySem.W.nsIn K mainGlobals x = some (some (.ref f))) (l : K.lookup f = some ⟨oc, od, .func (PySem.W.fnOf x x (defArgs st) (defBody st) (defScope st) .none kV dc pm an cd ct), sl⟩) (c : PySem.W.codeIn K cd x = true) (k : PySem.W.keepIn K (.ref f) = true)
    (hb : ∀ (kV doc pm : Value) (an : Option Addr) (cdv ct : Value) (us : List Value), us.length = ps.length → bindArgs (PySem.W.fnOf x x (defArgs st) (defBody st) (defScope st) .none kV doc pm an cdv ct) ⟨us, []⟩ = pure (ps.zip us)) :
    DefAt K mg x st ps f (PySem.W.fnOf x x (defArgs st) (defBody st) (defScope st) .none kV dc pm an cd ct) :=
  let F := fun_mk (st := st) l c k
  ⟨F, F.binds hb, PySem.W.mg_of X G a⟩
theorem all_mk {l : PySem.W.OpenLaw} {w : World} {K : PySem.W.Frag} {h : Heap} {mg : Str → Option Value} {fa C f1 f2 f3 f4 f5 f6 f7 f8 f9 f10 f11 f12 f13 f14 f15 f16 f17 f18 f19 f20 f21 f22 f23 f24 f25 f26 f27 f28 f29 f30 f31 f32 f33 f34 f35 f36 f37 f38 f39 f40 f41 f42 f43 f44 f45 f46 : Addr} {tk tk2 : Tok} (X : K.In h) (G : h.Ns mainGlobals mg) (hfa : mg "law" = some (.ref fa))
    {od1 an1 od2 an2 od3 an3 od4 an4 od5 an5 od6 an6 od7 an7 od8 an8 od9 an9 od10 an10 od11 an11 od12 an12 od13 an13 od14 an14 od15 an15 od16 an16 od17 an17 od18 an18 od19 an19 od20 an20 od21 an21 od22 an22 od23 an23 od24 an24 od25 an25 od26 an26 od27 an27 od28 an28 od29 an29 od30 an30 od31 an31 od32 an32 od33 an33 od34 an34 od35 an35 od36 an36 od37 an37 od38 an38 od39 an39 od40 an40 od41 an41 od42 an42 od43 an43 od44 an44 od45 an45 od46 an46 : Option Addr} {sl1 sl2 sl3 sl4 sl5 sl6 sl7 sl8 sl9 sl10 sl11 sl12 sl13 sl14 sl15 sl16 sl17 sl18 sl19 sl20 sl21 sl22 sl23 sl24 sl25 sl26 sl27 sl28 sl29 sl30 sl31 sl32 sl33 sl34 sl35 sl36 sl37 sl38 sl39 sl40 sl41 sl42 sl43 sl44 sl45 sl46 : Array (Option Value)}
    {oc1 kV1 dc1 pm1 cd1 ct1 oc2 kV2 dc2 pm2 cd2 ct2 oc3 kV3 dc3 pm3 cd3 ct3 oc4 kV4 dc4 pm4 cd4 ct4 oc5 kV5 dc5 pm5 cd5 ct5 oc6 kV6 dc6 pm6 cd6 ct6 oc7 kV7 dc7 pm7 cd7 ct7 oc8 kV8 dc8 pm8 cd8 ct8 oc9 kV9 dc9 pm9 cd9 ct9 oc10 kV10 dc10 pm10 cd10 ct10 oc11 kV11 dc11 pm11 cd11 ct11 oc12 kV12 dc12 pm12 cd12 ct12 oc13 kV13 dc13 pm13 cd13 ct13 oc14 kV14 dc14 pm14 cd14 ct14 oc15 kV15 dc15 pm15 cd15 ct15 oc16 kV16 dc16 pm16 cd16 ct16 oc17 kV17 dc17 pm17 cd17 ct17 oc18 kV18 dc18 pm18 cd18 ct18 oc19 kV19 dc19 pm19 cd19 ct19 oc20 kV20 dc20 pm20 cd20 ct20 oc21 kV21 dc21 pm21 cd21 ct21 oc22 kV22 dc22 pm22 cd22 ct22 oc23 kV23 dc23 pm23 cd23 ct23 oc24 kV24 dc24 pm24 cd24 ct24 oc25 kV25 dc25 pm25 cd25 ct25 oc26 kV26 dc26 pm26 cd26 ct26 oc27 kV27 dc27 pm27 cd27 ct27 oc28 kV28 dc28 pm28 cd28 ct28 oc29 kV29 dc29 pm29 cd29 ct29 oc30 kV30 dc30 pm30 cd30 ct30 oc31 kV31 dc31 pm31 cd31 ct31 oc32 kV32 dc32 pm32 cd32 ct32 oc33 kV33 dc33 pm33 cd33 ct33 oc34 kV34 dc34 pm34 cd34 ct34 oc35 kV35 dc35 pm35 cd35 ct35 oc36 kV36 dc36 pm36 cd36 ct36 oc37 kV37 dc37 pm37 cd37 ct37 oc38 kV38 dc38 pm38 cd38 ct38 oc39 kV39 dc39 pm39 cd39 ct39 oc40 kV40 dc40 pm40 cd40 ct40 oc41 kV41 dc41 pm41 cd41 ct41 oc42 kV42 dc42 pm42 cd42 ct42 oc43 kV43 dc43 pm43 cd43 ct43 oc44 kV44 dc44 pm44 cd44 ct44 oc45 kV45 dc45 pm45 cd45 ct45 oc46 kV46 dc46 pm46 cd46 ct46 : Value}
    (a1 : PySem.W.nsIn K mainGlobals "is_whole" = some (some (.ref f1)))
    (l1 : K.lookup f1 = some ⟨oc1, od1, .func (PySem.W.fnOf "is_whole" "is_whole" (defArgs sWhole) (defBody sWhole) (defScope sWhole) .none kV1 dc1 pm1 an1 cd1 ct1), sl1⟩)
    (c1 : PySem.W.codeIn K cd1 "is_whole" = true)
    (k1 : PySem.W.keepIn K (.ref f1) = true)
    (a2 : PySem.W.nsIn K mainGlobals "is_below" = some (some (.ref f2)))
    (l2 : K.lookup f2 = some ⟨oc2, od2, .func (PySem.W.fnOf "is_below" "is_below" (defArgs sMark) (defBody sMark) (defScope sMark) .none kV2 dc2 pm2 an2 cd2 ct2), sl2⟩)
    (c2 : PySem.W.codeIn K cd2 "is_below" = true)
    (k2 : PySem.W.keepIn K (.ref f2) = true)
    (a3 : PySem.W.nsIn K mainGlobals "are_marks" = some (some (.ref f3)))
    (l3 : K.lookup f3 = some ⟨oc3, od3, .func (PySem.W.fnOf "are_marks" "are_marks" (defArgs sMarks) (defBody sMarks) (defScope sMarks) .none kV3 dc3 pm3 an3 cd3 ct3), sl3⟩)
    (c3 : PySem.W.codeIn K cd3 "are_marks" = true)
    (k3 : PySem.W.keepIn K (.ref f3) = true)
    (a4 : PySem.W.nsIn K mainGlobals "are_mirrors" = some (some (.ref f4)))
    (l4 : K.lookup f4 = some ⟨oc4, od4, .func (PySem.W.fnOf "are_mirrors" "are_mirrors" (defArgs sMirrors) (defBody sMirrors) (defScope sMirrors) .none kV4 dc4 pm4 an4 cd4 ct4), sl4⟩)
    (c4 : PySem.W.codeIn K cd4 "are_mirrors" = true)
    (k4 : PySem.W.keepIn K (.ref f4) = true)
    (a5 : PySem.W.nsIn K mainGlobals "are_steps" = some (some (.ref f5)))
    (l5 : K.lookup f5 = some ⟨oc5, od5, .func (PySem.W.fnOf "are_steps" "are_steps" (defArgs sSteps) (defBody sSteps) (defScope sSteps) .none kV5 dc5 pm5 an5 cd5 ct5), sl5⟩)
    (c5 : PySem.W.codeIn K cd5 "are_steps" = true)
    (k5 : PySem.W.keepIn K (.ref f5) = true)
    (a6 : PySem.W.nsIn K mainGlobals "is_step" = some (some (.ref f6)))
    (l6 : K.lookup f6 = some ⟨oc6, od6, .func (PySem.W.fnOf "is_step" "is_step" (defArgs sStep) (defBody sStep) (defScope sStep) .none kV6 dc6 pm6 an6 cd6 ct6), sl6⟩)
    (c6 : PySem.W.codeIn K cd6 "is_step" = true)
    (k6 : PySem.W.keepIn K (.ref f6) = true)
    (a7 : PySem.W.nsIn K mainGlobals "is_rising" = some (some (.ref f7)))
    (l7 : K.lookup f7 = some ⟨oc7, od7, .func (PySem.W.fnOf "is_rising" "is_rising" (defArgs sRising) (defBody sRising) (defScope sRising) .none kV7 dc7 pm7 an7 cd7 ct7), sl7⟩)
    (c7 : PySem.W.codeIn K cd7 "is_rising" = true)
    (k7 : PySem.W.keepIn K (.ref f7) = true)
    (a8 : PySem.W.nsIn K mainGlobals "marks_behind" = some (some (.ref f8)))
    (l8 : K.lookup f8 = some ⟨oc8, od8, .func (PySem.W.fnOf "marks_behind" "marks_behind" (defArgs sBehind) (defBody sBehind) (defScope sBehind) .none kV8 dc8 pm8 an8 cd8 ct8), sl8⟩)
    (c8 : PySem.W.codeIn K cd8 "marks_behind" = true)
    (k8 : PySem.W.keepIn K (.ref f8) = true)
    (a9 : PySem.W.nsIn K mainGlobals "led_to" = some (some (.ref f9)))
    (l9 : K.lookup f9 = some ⟨oc9, od9, .func (PySem.W.fnOf "led_to" "led_to" (defArgs sLed) (defBody sLed) (defScope sLed) .none kV9 dc9 pm9 an9 cd9 ct9), sl9⟩)
    (c9 : PySem.W.codeIn K cd9 "led_to" = true)
    (k9 : PySem.W.keepIn K (.ref f9) = true)
    (a10 : PySem.W.nsIn K mainGlobals "parts" = some (some (.ref f10)))
    (l10 : K.lookup f10 = some ⟨oc10, od10, .func (PySem.W.fnOf "parts" "parts" (defArgs sParts) (defBody sParts) (defScope sParts) .none kV10 dc10 pm10 an10 cd10 ct10), sl10⟩)
    (c10 : PySem.W.codeIn K cd10 "parts" = true)
    (k10 : PySem.W.keepIn K (.ref f10) = true)
    (a11 : PySem.W.nsIn K mainGlobals "part_of" = some (some (.ref f11)))
    (l11 : K.lookup f11 = some ⟨oc11, od11, .func (PySem.W.fnOf "part_of" "part_of" (defArgs sPartOf) (defBody sPartOf) (defScope sPartOf) .none kV11 dc11 pm11 an11 cd11 ct11), sl11⟩)
    (c11 : PySem.W.codeIn K cd11 "part_of" = true)
    (k11 : PySem.W.keepIn K (.ref f11) = true)
    (a12 : PySem.W.nsIn K mainGlobals "mirror_part" = some (some (.ref f12)))
    (l12 : K.lookup f12 = some ⟨oc12, od12, .func (PySem.W.fnOf "mirror_part" "mirror_part" (defArgs sMirrorPart) (defBody sMirrorPart) (defScope sMirrorPart) .none kV12 dc12 pm12 an12 cd12 ct12), sl12⟩)
    (c12 : PySem.W.codeIn K cd12 "mirror_part" = true)
    (k12 : PySem.W.keepIn K (.ref f12) = true)
    (a13 : PySem.W.nsIn K mainGlobals "steps_off" = some (some (.ref f13)))
    (l13 : K.lookup f13 = some ⟨oc13, od13, .func (PySem.W.fnOf "steps_off" "steps_off" (defArgs sOff) (defBody sOff) (defScope sOff) .none kV13 dc13 pm13 an13 cd13 ct13), sl13⟩)
    (c13 : PySem.W.codeIn K cd13 "steps_off" = true)
    (k13 : PySem.W.keepIn K (.ref f13) = true)
    (a14 : PySem.W.nsIn K mainGlobals "common_measure" = some (some (.ref f14)))
    (l14 : K.lookup f14 = some ⟨oc14, od14, .func (PySem.W.fnOf "common_measure" "common_measure" (defArgs sMeasure) (defBody sMeasure) (defScope sMeasure) .none kV14 dc14 pm14 an14 cd14 ct14), sl14⟩)
    (c14 : PySem.W.codeIn K cd14 "common_measure" = true)
    (k14 : PySem.W.keepIn K (.ref f14) = true)
    (a15 : PySem.W.nsIn K mainGlobals "period" = some (some (.ref f15)))
    (l15 : K.lookup f15 = some ⟨oc15, od15, .func (PySem.W.fnOf "period" "period" (defArgs sPeriod) (defBody sPeriod) (defScope sPeriod) .none kV15 dc15 pm15 an15 cd15 ct15), sl15⟩)
    (c15 : PySem.W.codeIn K cd15 "period" = true)
    (k15 : PySem.W.keepIn K (.ref f15) = true)
    (a16 : PySem.W.nsIn K mainGlobals "classes" = some (some (.ref f16)))
    (l16 : K.lookup f16 = some ⟨oc16, od16, .func (PySem.W.fnOf "classes" "classes" (defArgs sClasses) (defBody sClasses) (defScope sClasses) .none kV16 dc16 pm16 an16 cd16 ct16), sl16⟩)
    (c16 : PySem.W.codeIn K cd16 "classes" = true)
    (k16 : PySem.W.keepIn K (.ref f16) = true)
    (a17 : PySem.W.nsIn K mainGlobals "class_of" = some (some (.ref f17)))
    (l17 : K.lookup f17 = some ⟨oc17, od17, .func (PySem.W.fnOf "class_of" "class_of" (defArgs sClassOf) (defBody sClassOf) (defScope sClassOf) .none kV17 dc17 pm17 an17 cd17 ct17), sl17⟩)
    (c17 : PySem.W.codeIn K cd17 "class_of" = true)
    (k17 : PySem.W.keepIn K (.ref f17) = true)
    (a18 : PySem.W.nsIn K mainGlobals "turning" = some (some (.ref f18)))
    (l18 : K.lookup f18 = some ⟨oc18, od18, .func (PySem.W.fnOf "turning" "turning" (defArgs sTurning) (defBody sTurning) (defScope sTurning) .none kV18 dc18 pm18 an18 cd18 ct18), sl18⟩)
    (c18 : PySem.W.codeIn K cd18 "turning" = true)
    (k18 : PySem.W.keepIn K (.ref f18) = true)
    (a19 : PySem.W.nsIn K mainGlobals "is_ring" = some (some (.ref f19)))
    (l19 : K.lookup f19 = some ⟨oc19, od19, .func (PySem.W.fnOf "is_ring" "is_ring" (defArgs sIsRing) (defBody sIsRing) (defScope sIsRing) .none kV19 dc19 pm19 an19 cd19 ct19), sl19⟩)
    (c19 : PySem.W.codeIn K cd19 "is_ring" = true)
    (k19 : PySem.W.keepIn K (.ref f19) = true)
    (a20 : PySem.W.nsIn K mainGlobals "is_run" = some (some (.ref f20)))
    (l20 : K.lookup f20 = some ⟨oc20, od20, .func (PySem.W.fnOf "is_run" "is_run" (defArgs sIsRun) (defBody sIsRun) (defScope sIsRun) .none kV20 dc20 pm20 an20 cd20 ct20), sl20⟩)
    (c20 : PySem.W.codeIn K cd20 "is_run" = true)
    (k20 : PySem.W.keepIn K (.ref f20) = true)
    (a21 : PySem.W.nsIn K mainGlobals "neighbours" = some (some (.ref f21)))
    (l21 : K.lookup f21 = some ⟨oc21, od21, .func (PySem.W.fnOf "neighbours" "neighbours" (defArgs sNeighb) (defBody sNeighb) (defScope sNeighb) .none kV21 dc21 pm21 an21 cd21 ct21), sl21⟩)
    (c21 : PySem.W.codeIn K cd21 "neighbours" = true)
    (k21 : PySem.W.keepIn K (.ref f21) = true)
    (a22 : PySem.W.nsIn K mainGlobals "run_places" = some (some (.ref f22)))
    (l22 : K.lookup f22 = some ⟨oc22, od22, .func (PySem.W.fnOf "run_places" "run_places" (defArgs sRunPl) (defBody sRunPl) (defScope sRunPl) .none kV22 dc22 pm22 an22 cd22 ct22), sl22⟩)
    (c22 : PySem.W.codeIn K cd22 "run_places" = true)
    (k22 : PySem.W.keepIn K (.ref f22) = true)
    (a23 : PySem.W.nsIn K mainGlobals "places" = some (some (.ref f23)))
    (l23 : K.lookup f23 = some ⟨oc23, od23, .func (PySem.W.fnOf "places" "places" (defArgs sRPlaces) (defBody sRPlaces) (defScope sRPlaces) .none kV23 dc23 pm23 an23 cd23 ct23), sl23⟩)
    (c23 : PySem.W.codeIn K cd23 "places" = true)
    (k23 : PySem.W.keepIn K (.ref f23) = true)
    (a24 : PySem.W.nsIn K mainGlobals "spot" = some (some (.ref f24)))
    (l24 : K.lookup f24 = some ⟨oc24, od24, .func (PySem.W.fnOf "spot" "spot" (defArgs sSpot) (defBody sSpot) (defScope sSpot) .none kV24 dc24 pm24 an24 cd24 ct24), sl24⟩)
    (c24 : PySem.W.codeIn K cd24 "spot" = true)
    (k24 : PySem.W.keepIn K (.ref f24) = true)
    (a25 : PySem.W.nsIn K mainGlobals "stretch" = some (some (.ref f25)))
    (l25 : K.lookup f25 = some ⟨oc25, od25, .func (PySem.W.fnOf "stretch" "stretch" (defArgs sStretch) (defBody sStretch) (defScope sStretch) .none kV25 dc25 pm25 an25 cd25 ct25), sl25⟩)
    (c25 : PySem.W.codeIn K cd25 "stretch" = true)
    (k25 : PySem.W.keepIn K (.ref f25) = true)
    (a26 : PySem.W.nsIn K mainGlobals "mirrored" = some (some (.ref f26)))
    (l26 : K.lookup f26 = some ⟨oc26, od26, .func (PySem.W.fnOf "mirrored" "mirrored" (defArgs sMirrored) (defBody sMirrored) (defScope sMirrored) .none kV26 dc26 pm26 an26 cd26 ct26), sl26⟩)
    (c26 : PySem.W.codeIn K cd26 "mirrored" = true)
    (k26 : PySem.W.keepIn K (.ref f26) = true)
    (a27 : PySem.W.nsIn K mainGlobals "spelled" = some (some (.ref f27)))
    (l27 : K.lookup f27 = some ⟨oc27, od27, .func (PySem.W.fnOf "spelled" "spelled" (defArgs sSpelled) (defBody sSpelled) (defScope sSpelled) .none kV27 dc27 pm27 an27 cd27 ct27), sl27⟩)
    (c27 : PySem.W.codeIn K cd27 "spelled" = true)
    (k27 : PySem.W.keepIn K (.ref f27) = true)
    (a28 : PySem.W.nsIn K mainGlobals "_law_pail" = some (some (.ref f28)))
    (l28 : K.lookup f28 = some ⟨oc28, od28, .func (PySem.W.fnOf "_law_pail" "_law_pail" (defArgs sPail) (defBody sPail) (defScope sPail) .none kV28 dc28 pm28 an28 cd28 ct28), sl28⟩)
    (c28 : PySem.W.codeIn K cd28 "_law_pail" = true)
    (k28 : PySem.W.keepIn K (.ref f28) = true)
    (a29 : PySem.W.nsIn K mainGlobals "_law_draw" = some (some (.ref f29)))
    (l29 : K.lookup f29 = some ⟨oc29, od29, .func (PySem.W.fnOf "_law_draw" "_law_draw" (defArgs sDraw) (defBody sDraw) (defScope sDraw) .none kV29 dc29 pm29 an29 cd29 ct29), sl29⟩)
    (c29 : PySem.W.codeIn K cd29 "_law_draw" = true)
    (k29 : PySem.W.keepIn K (.ref f29) = true)
    (a30 : PySem.W.nsIn K mainGlobals "_law_of" = some (some (.ref f30)))
    (l30 : K.lookup f30 = some ⟨oc30, od30, .func (PySem.W.fnOf "_law_of" "_law_of" (defArgs sOf) (defBody sOf) (defScope sOf) .none kV30 dc30 pm30 an30 cd30 ct30), sl30⟩)
    (c30 : PySem.W.codeIn K cd30 "_law_of" = true)
    (k30 : PySem.W.keepIn K (.ref f30) = true)
    (a31 : PySem.W.nsIn K mainGlobals "_law_mirrors" = some (some (.ref f31)))
    (l31 : K.lookup f31 = some ⟨oc31, od31, .func (PySem.W.fnOf "_law_mirrors" "_law_mirrors" (defArgs sDMirrors) (defBody sDMirrors) (defScope sDMirrors) .none kV31 dc31 pm31 an31 cd31 ct31), sl31⟩)
    (c31 : PySem.W.codeIn K cd31 "_law_mirrors" = true)
    (k31 : PySem.W.keepIn K (.ref f31) = true)
    (a32 : PySem.W.nsIn K mainGlobals "_law_steps" = some (some (.ref f32)))
    (l32 : K.lookup f32 = some ⟨oc32, od32, .func (PySem.W.fnOf "_law_steps" "_law_steps" (defArgs sDSteps) (defBody sDSteps) (defScope sDSteps) .none kV32 dc32 pm32 an32 cd32 ct32), sl32⟩)
    (c32 : PySem.W.codeIn K cd32 "_law_steps" = true)
    (k32 : PySem.W.keepIn K (.ref f32) = true)
    (a33 : PySem.W.nsIn K mainGlobals "_law_off" = some (some (.ref f33)))
    (l33 : K.lookup f33 = some ⟨oc33, od33, .func (PySem.W.fnOf "_law_off" "_law_off" (defArgs sLOff) (defBody sLOff) (defScope sLOff) .none kV33 dc33 pm33 an33 cd33 ct33), sl33⟩)
    (c33 : PySem.W.codeIn K cd33 "_law_off" = true)
    (k33 : PySem.W.keepIn K (.ref f33) = true)
    (a34 : PySem.W.nsIn K mainGlobals "_law_behind" = some (some (.ref f34)))
    (l34 : K.lookup f34 = some ⟨oc34, od34, .func (PySem.W.fnOf "_law_behind" "_law_behind" (defArgs sLBehind) (defBody sLBehind) (defScope sLBehind) .none kV34 dc34 pm34 an34 cd34 ct34), sl34⟩)
    (c34 : PySem.W.codeIn K cd34 "_law_behind" = true)
    (k34 : PySem.W.keepIn K (.ref f34) = true)
    (a35 : PySem.W.nsIn K mainGlobals "_law_closed" = some (some (.ref f35)))
    (l35 : K.lookup f35 = some ⟨oc35, od35, .func (PySem.W.fnOf "_law_closed" "_law_closed" (defArgs sClosed) (defBody sClosed) (defScope sClosed) .none kV35 dc35 pm35 an35 cd35 ct35), sl35⟩)
    (c35 : PySem.W.codeIn K cd35 "_law_closed" = true)
    (k35 : PySem.W.keepIn K (.ref f35) = true)
    (a36 : PySem.W.nsIn K mainGlobals "_law_names" = some (some (.ref f36)))
    (l36 : K.lookup f36 = some ⟨oc36, od36, .func (PySem.W.fnOf "_law_names" "_law_names" (defArgs sNames) (defBody sNames) (defScope sNames) .none kV36 dc36 pm36 an36 cd36 ct36), sl36⟩)
    (c36 : PySem.W.codeIn K cd36 "_law_names" = true)
    (k36 : PySem.W.keepIn K (.ref f36) = true)
    (a37 : PySem.W.nsIn K mainGlobals "_law_renamed" = some (some (.ref f37)))
    (l37 : K.lookup f37 = some ⟨oc37, od37, .func (PySem.W.fnOf "_law_renamed" "_law_renamed" (defArgs sRenamed) (defBody sRenamed) (defScope sRenamed) .none kV37 dc37 pm37 an37 cd37 ct37), sl37⟩)
    (c37 : PySem.W.codeIn K cd37 "_law_renamed" = true)
    (k37 : PySem.W.keepIn K (.ref f37) = true)
    (a38 : PySem.W.nsIn K mainGlobals "_law_known" = some (some (.ref f38)))
    (l38 : K.lookup f38 = some ⟨oc38, od38, .func (PySem.W.fnOf "_law_known" "_law_known" (defArgs sKnown) (defBody sKnown) (defScope sKnown) .none kV38 dc38 pm38 an38 cd38 ct38), sl38⟩)
    (c38 : PySem.W.codeIn K cd38 "_law_known" = true)
    (k38 : PySem.W.keepIn K (.ref f38) = true)
    (a39 : PySem.W.nsIn K mainGlobals "_law_shift" = some (some (.ref f39)))
    (l39 : K.lookup f39 = some ⟨oc39, od39, .func (PySem.W.fnOf "_law_shift" "_law_shift" (defArgs sShift) (defBody sShift) (defScope sShift) .none kV39 dc39 pm39 an39 cd39 ct39), sl39⟩)
    (c39 : PySem.W.codeIn K cd39 "_law_shift" = true)
    (k39 : PySem.W.keepIn K (.ref f39) = true)
    (a40 : PySem.W.nsIn K mainGlobals "_law_names_right" = some (some (.ref f40)))
    (l40 : K.lookup f40 = some ⟨oc40, od40, .func (PySem.W.fnOf "_law_names_right" "_law_names_right" (defArgs sNamesR) (defBody sNamesR) (defScope sNamesR) .none kV40 dc40 pm40 an40 cd40 ct40), sl40⟩)
    (c40 : PySem.W.codeIn K cd40 "_law_names_right" = true)
    (k40 : PySem.W.keepIn K (.ref f40) = true)
    (a41 : PySem.W.nsIn K mainGlobals "_law_ring_right" = some (some (.ref f41)))
    (l41 : K.lookup f41 = some ⟨oc41, od41, .func (PySem.W.fnOf "_law_ring_right" "_law_ring_right" (defArgs sRingRight) (defBody sRingRight) (defScope sRingRight) .none kV41 dc41 pm41 an41 cd41 ct41), sl41⟩)
    (c41 : PySem.W.codeIn K cd41 "_law_ring_right" = true)
    (k41 : PySem.W.keepIn K (.ref f41) = true)
    (a42 : PySem.W.nsIn K mainGlobals "law" = some (some (.ref f42)))
    (l42 : K.lookup f42 = some ⟨oc42, od42, .func (PySem.W.fnOf "law" "law" (defArgs sLaw) (defBody sLaw) (defScope sLaw) .none kV42 dc42 pm42 an42 cd42 ct42), sl42⟩)
    (c42 : PySem.W.codeIn K cd42 "law" = true)
    (k42 : PySem.W.keepIn K (.ref f42) = true)
    (aC : PySem.W.nsIn K mainGlobals "Rule" = some (some (.ref C)))
    (a43 : PySem.W.findIn K (.ref C) "__init__" = some (some (.ref f43)))
    (i43 : PySem.W.isFn K (.ref f43) = true)
    (l43 : K.lookup f43 = some ⟨oc43, od43, .func (PySem.W.fnOf "__init__" "Rule.__init__" (defArgs sInit) (defBody sInit) (defScope sInit) .none kV43 dc43 pm43 an43 cd43 ct43), sl43⟩)
    (c43 : PySem.W.codeIn K cd43 "Rule.__init__" = true)
    (k43 : PySem.W.keepIn K (.ref f43) = true)
    (a44 : PySem.W.findIn K (.ref C) "marks" = some (some (.ref f44)))
    (i44 : PySem.W.isFn K (.ref f44) = true)
    (l44 : K.lookup f44 = some ⟨oc44, od44, .func (PySem.W.fnOf "marks" "Rule.marks" (defArgs sMarksM) (defBody sMarksM) (defScope sMarksM) .none kV44 dc44 pm44 an44 cd44 ct44), sl44⟩)
    (c44 : PySem.W.codeIn K cd44 "Rule.marks" = true)
    (k44 : PySem.W.keepIn K (.ref f44) = true)
    (a45 : PySem.W.findIn K (.ref C) "mirror" = some (some (.ref f45)))
    (i45 : PySem.W.isFn K (.ref f45) = true)
    (l45 : K.lookup f45 = some ⟨oc45, od45, .func (PySem.W.fnOf "mirror" "Rule.mirror" (defArgs sMirrorM) (defBody sMirrorM) (defScope sMirrorM) .none kV45 dc45 pm45 an45 cd45 ct45), sl45⟩)
    (c45 : PySem.W.codeIn K cd45 "Rule.mirror" = true)
    (k45 : PySem.W.keepIn K (.ref f45) = true)
    (a46 : PySem.W.findIn K (.ref C) "behind" = some (some (.ref f46)))
    (i46 : PySem.W.isFn K (.ref f46) = true)
    (l46 : K.lookup f46 = some ⟨oc46, od46, .func (PySem.W.fnOf "behind" "Rule.behind" (defArgs sBehindM) (defBody sBehindM) (defScope sBehindM) .none kV46 dc46 pm46 an46 cd46 ct46), sl46⟩)
    (c46 : PySem.W.codeIn K cd46 "Rule.behind" = true)
    (k46 : PySem.W.keepIn K (.ref f46) = true)
    (pg : PySem.W.plainGet K C Str.empty = true)
    (hd : PySem.W.hasDictIn K C = true)
    (po : PySem.W.plainOver K C = true)
    (sa : PySem.W.findIn K (.ref C) "__setattr__" = some (some (.builtin "object.__setattr__")))
    (mk : PySem.W.makesIn K C = true)
    (kc : PySem.W.keepIn K (.ref C) = true)
    (nM : PySem.W.findIn K (.ref C) "mirrors" = some none)
    (nS : PySem.W.findIn K (.ref C) "steps" = some none)
    (nF : PySem.W.findIn K (.ref C) "followers" = some none)
    (t1 : PySem.W.findIn K (.ref C) "__class__" = some (some (.builtin "object.__class__")))
    (t2 : PySem.W.specialIn K (.builtin "object.__class__") "__get__" = some (some (.builtin "getset_descriptor.__get__")))
    (t3 : PySem.W.takesIn K (.builtin "object.__class__") = some true)
    (t4 : PySem.W.mroIn K C (.type "object") = some true)
    (mM : PySem.W.nsIn K mainGlobals "MOST_MARKS" = some (some (.int 8 tk)))
    (mS : PySem.W.nsIn K mainGlobals "MOST_SPELLED" = some (some (.int 6000 tk2)))
    (z0 : PySem.W.nsIn K mainGlobals "len" = some none)
    (z1 : PySem.W.nsIn K mainGlobals "sum" = some none)
    (z2 : PySem.W.nsIn K mainGlobals "isinstance" = some none)
    (z3 : PySem.W.nsIn K mainGlobals "int" = some none)
    (z4 : PySem.W.nsIn K mainGlobals "bool" = some none)
    (z5 : PySem.W.nsIn K mainGlobals "tuple" = some none)
    (z6 : PySem.W.nsIn K mainGlobals "all" = some none)
    (z7 : PySem.W.nsIn K mainGlobals "enumerate" = some none)
    (z8 : PySem.W.nsIn K mainGlobals "zip" = some none)
    (z9 : PySem.W.nsIn K mainGlobals "range" = some none)
    (z10 : PySem.W.nsIn K mainGlobals "list" = some none)
    (z11 : PySem.W.nsIn K mainGlobals "set" = some none)
    (z12 : PySem.W.nsIn K mainGlobals "sorted" = some none)
    (z13 : PySem.W.nsIn K mainGlobals "abs" = some none)
    (z14 : PySem.W.nsIn K mainGlobals "max" = some none)
    (z15 : PySem.W.nsIn K mainGlobals "min" = some none)
    (z16 : PySem.W.nsIn K mainGlobals "repr" = some none)
    (z17 : PySem.W.nsIn K mainGlobals "dict" = some none) :
    ∃ fd : FuncData, (∀ (s : Shared) (v : Value), BindsTo s fd ⟨[v], []⟩ [("_law_script", v)]) ∧ ∀ base : Heap, K.In base → base.Ns mainGlobals mg → FnG l.prog w K mg base CX0 9 fa fd ["_law_script"] (spLaw K) := by
  have e := hfa.symm.trans (PySem.W.mg_of X G a42)
  cases e
  have B : Bare mg := ⟨PySem.W.mg_none_of X G z0, PySem.W.mg_none_of X G z1, PySem.W.mg_none_of X G z2, PySem.W.mg_none_of X G z3, PySem.W.mg_none_of X G z4, PySem.W.mg_none_of X G z5, PySem.W.mg_none_of X G z6, PySem.W.mg_none_of X G z7, PySem.W.mg_none_of X G z8, PySem.W.mg_none_of X G z9, PySem.W.mg_none_of X G z10, PySem.W.mg_none_of X G z11, PySem.W.mg_none_of X G z12, PySem.W.mg_none_of X G z13, PySem.W.mg_none_of X G z14, PySem.W.mg_none_of X G z15, PySem.W.mg_none_of X G z16, PySem.W.mg_none_of X G z17⟩
  have D1 := def_mk (st := sWhole) (ps := ["thing"]) X G a1 l1 c1 k1 fun _ _ _ _ _ _ us hl => match us, hl with | [_], _ => rfl
  have D2 := def_mk (st := sMark) (ps := ["thing", "many"]) X G a2 l2 c2 k2 fun _ _ _ _ _ _ us hl => match us, hl with | [_, _], _ => rfl
  have D3 := def_mk (st := sMarks) (ps := ["thing", "many"]) X G a3 l3 c3 k3 fun _ _ _ _ _ _ us hl => match us, hl with | [_, _], _ => rfl
  have D4 := def_mk (st := sMirrors) (ps := ["thing"]) X G a4 l4 c4 k4 fun _ _ _ _ _ _ us hl => match us, hl with | [_], _ => rfl
  have D5 := def_mk (st := sSteps) (ps := ["mirrors", "thing"]) X G a5 l5 c5 k5 fun _ _ _ _ _ _ us hl => match us, hl with | [_, _], _ => rfl
  have D6 := def_mk (st := sStep) (ps := ["thing", "many"]) X G a6 l6 c6 k6 fun _ _ _ _ _ _ us hl => match us, hl with | [_, _], _ => rfl
  have D7 := def_mk (st := sRising) (ps := ["pairs"]) X G a7 l7 c7 k7 fun _ _ _ _ _ _ us hl => match us, hl with | [_], _ => rfl
  have D8 := def_mk (st := sBehind) (ps := ["steps", "mark"]) X G a8 l8 c8 k8 fun _ _ _ _ _ _ us hl => match us, hl with | [_, _], _ => rfl
  have D9 := def_mk (st := sLed) (ps := ["rule", "mark"]) X G a9 l9 c9 k9 fun _ _ _ _ _ _ us hl => match us, hl with | [_, _], _ => rfl
  have D10 := def_mk (st := sParts) (ps := ["rule"]) X G a10 l10 c10 k10 fun _ _ _ _ _ _ us hl => match us, hl with | [_], _ => rfl
  have D11 := def_mk (st := sPartOf) (ps := ["rule", "mark"]) X G a11 l11 c11 k11 fun _ _ _ _ _ _ us hl => match us, hl with | [_, _], _ => rfl
  have D12 := def_mk (st := sMirrorPart) (ps := ["rule", "part"]) X G a12 l12 c12 k12 fun _ _ _ _ _ _ us hl => match us, hl with | [_, _], _ => rfl
  have D13 := def_mk (st := sOff) (ps := ["rule", "marks"]) X G a13 l13 c13 k13 fun _ _ _ _ _ _ us hl => match us, hl with | [_, _], _ => rfl
  have D14 := def_mk (st := sMeasure) (ps := ["one", "other"]) X G a14 l14 c14 k14 fun _ _ _ _ _ _ us hl => match us, hl with | [_, _], _ => rfl
  have D15 := def_mk (st := sPeriod) (ps := ["rule", "part"]) X G a15 l15 c15 k15 fun _ _ _ _ _ _ us hl => match us, hl with | [_, _], _ => rfl
  have D16 := def_mk (st := sClasses) (ps := ["rule", "part"]) X G a16 l16 c16 k16 fun _ _ _ _ _ _ us hl => match us, hl with | [_, _], _ => rfl
  have D17 := def_mk (st := sClassOf) (ps := ["rule", "mark"]) X G a17 l17 c17 k17 fun _ _ _ _ _ _ us hl => match us, hl with | [_, _], _ => rfl
  have D18 := def_mk (st := sTurning) (ps := ["rule", "part"]) X G a18 l18 c18 k18 fun _ _ _ _ _ _ us hl => match us, hl with | [_, _], _ => rfl
  have D19 := def_mk (st := sIsRing) (ps := ["rule", "thing"]) X G a19 l19 c19 k19 fun _ _ _ _ _ _ us hl => match us, hl with | [_, _], _ => rfl
  have D20 := def_mk (st := sIsRun) (ps := ["rule", "thing"]) X G a20 l20 c20 k20 fun _ _ _ _ _ _ us hl => match us, hl with | [_, _], _ => rfl
  have D21 := def_mk (st := sNeighb) (ps := ["ring"]) X G a21 l21 c21 k21 fun _ _ _ _ _ _ us hl => match us, hl with | [_], _ => rfl
  have D22 := def_mk (st := sRunPl) (ps := ["run"]) X G a22 l22 c22 k22 fun _ _ _ _ _ _ us hl => match us, hl with | [_], _ => rfl
  have D23 := def_mk (st := sRPlaces) (ps := ["ring"]) X G a23 l23 c23 k23 fun _ _ _ _ _ _ us hl => match us, hl with | [_], _ => rfl
  have D24 := def_mk (st := sSpot) (ps := ["ring", "place"]) X G a24 l24 c24 k24 fun _ _ _ _ _ _ us hl => match us, hl with | [_, _], _ => rfl
  have D25 := def_mk (st := sStretch) (ps := ["ring", "first", "many"]) X G a25 l25 c25 k25 fun _ _ _ _ _ _ us hl => match us, hl with | [_, _, _], _ => rfl
  have D26 := def_mk (st := sMirrored) (ps := ["rule", "ring"]) X G a26 l26 c26 k26 fun _ _ _ _ _ _ us hl => match us, hl with | [_, _], _ => rfl
  have D27 := def_mk (st := sSpelled) (ps := ["ring"]) X G a27 l27 c27 k27 fun _ _ _ _ _ _ us hl => match us, hl with | [_], _ => rfl
  have D28 := def_mk (st := sPail) (ps := ["_law_script", "_law_at"]) X G a28 l28 c28 k28 fun _ _ _ _ _ _ us hl => match us, hl with | [_, _], _ => rfl
  have D29 := def_mk (st := sDraw) (ps := ["_law_pail_here", "_law_many"]) X G a29 l29 c29 k29 fun _ _ _ _ _ _ us hl => match us, hl with | [_, _], _ => rfl
  have D30 := def_mk (st := sOf) (ps := ["_law_pail_here", "_law_some"]) X G a30 l30 c30 k30 fun _ _ _ _ _ _ us hl => match us, hl with | [_, _], _ => rfl
  have D31 := def_mk (st := sDMirrors) (ps := ["_law_pail_here", "_law_many"]) X G a31 l31 c31 k31 fun _ _ _ _ _ _ us hl => match us, hl with | [_, _], _ => rfl
  have D32 := def_mk (st := sDSteps) (ps := ["_law_pail_here", "_law_mirrors_here"]) X G a32 l32 c32 k32 fun _ _ _ _ _ _ us hl => match us, hl with | [_, _], _ => rfl
  have D33 := def_mk (st := sLOff) (ps := ["_law_steps_here", "_law_goal"]) X G a33 l33 c33 k33 fun _ _ _ _ _ _ us hl => match us, hl with | [_, _], _ => rfl
  have D34 := def_mk (st := sLBehind) (ps := ["_law_steps_here", "_law_mark"]) X G a34 l34 c34 k34 fun _ _ _ _ _ _ us hl => match us, hl with | [_, _], _ => rfl
  have D35 := def_mk (st := sClosed) (ps := ["_law_pail_here", "_law_steps_here", "_law_start", "_law_most"]) X G a35 l35 c35 k35 fun _ _ _ _ _ _ us hl => match us, hl with | [_, _, _, _], _ => rfl
  have D36 := def_mk (st := sNames) (ps := ["_law_pail_here", "_law_many"]) X G a36 l36 c36 k36 fun _ _ _ _ _ _ us hl => match us, hl with | [_, _], _ => rfl
  have D37 := def_mk (st := sRenamed) (ps := ["_law_rule", "_law_names_here"]) X G a37 l37 c37 k37 fun _ _ _ _ _ _ us hl => match us, hl with | [_, _], _ => rfl
  have D38 := def_mk (st := sKnown) (ps := ["_law_rule", "_law_number"]) X G a38 l38 c38 k38 fun _ _ _ _ _ _ us hl => match us, hl with | [_, _], _ => rfl
  have D39 := def_mk (st := sShift) (ps := ["_law_rule", "_law_other", "_law_names_here", "_law_number"]) X G a39 l39 c39 k39 fun _ _ _ _ _ _ us hl => match us, hl with | [_, _, _, _], _ => rfl
  have D40 := def_mk (st := sNamesR) (ps := ["_law_rule", "_law_other", "_law_names_here"]) X G a40 l40 c40 k40 fun _ _ _ _ _ _ us hl => match us, hl with | [_, _, _], _ => rfl
  have D41 := def_mk (st := sRingRight) (ps := ["_law_rule", "_law_number", "_law_marks"]) X G a41 l41 c41 k41 fun _ _ _ _ _ _ us hl => match us, hl with | [_, _, _], _ => rfl
  have F42 := fun_mk (st := sLaw) l42 c42 k42
  have F43 := fun_mk (st := sInit) l43 c43 k43
  have b43 := F43.binds (ps := ["self", "mirrors", "steps"]) fun _ _ _ _ _ _ us hl => match us, hl with | [_, _, _], _ => rfl
  have F44 := fun_mk (st := sMarksM) l44 c44 k44
  have b44 := F44.binds (ps := ["self"]) fun _ _ _ _ _ _ us hl => match us, hl with | [_], _ => rfl
  have F45 := fun_mk (st := sMirrorM) l45 c45 k45
  have b45 := F45.binds (ps := ["self", "mark"]) fun _ _ _ _ _ _ us hl => match us, hl with | [_, _], _ => rfl
  have F46 := fun_mk (st := sBehindM) l46 c46 k46
  have b46 := F46.binds (ps := ["self", "mark"]) fun _ _ _ _ _ _ us hl => match us, hl with | [_, _], _ => rfl
  have T : Txt K mg C := ⟨⟨pg, hd, po, sa⟩, nM, nS, nF, PySem.W.mg_of X G aC, t1, t2, t3, t4, kit_self⟩
  have mm := PySem.W.mg_of X G mM
  refine ⟨PySem.W.fnOf "law" "law" (defArgs sLaw) (defBody sLaw) (defScope sLaw) .none kV42 dc42 pm42 an42 cd42 ct42, fun s v => .of_eq rfl, fun base _ _ => ?_⟩
  have G3 : FnOk l.prog w K mg base CX0 3 f3 _ ["thing", "many"] (spMarks K) := ok_marks D3.fn D2 D1 B
  have G4 : FnOk l.prog w K mg base CX0 4 f4 _ ["thing"] (spMirrors K) := ok_mirrors D4.fn D3 G3 B mm
  have G6 : FnOk l.prog w K mg base CX0 4 f6 _ ["thing", "many"] (spStep K) := ok_step D6.fn D3 G3 B
  have G5 : FnOk l.prog w K mg base CX0 5 f5 _ ["mirrors", "thing"] (spSteps K) := ok_steps D5.fn D6 G6 D7 B
  have GI : FnOk l.prog w K mg base CX0 6 f43 _ ["self", "mirrors", "steps"] (spInit K C) := ok_init F43 T D4 G4 D5 G5 D8 B
  have ms := PySem.W.mg_of X G mS
  have GL : FnOk l.prog w K mg base CX0 2 f9 _ ["rule", "mark"] (spLed K C) := ok_led D9.fn T B F46 b46 ⟨a46, i46, k46⟩
  have GP : FnOk l.prog w K mg base CX0 3 f10 _ ["rule"] (spParts K C) := ok_parts D10.fn T B D9 GL F44 b44 ⟨a44, i44, k44⟩
  have GPF : FnOk l.prog w K mg base CX0 3 f10 _ ["rule"] (spPartsF K C) := ok_partsF D10.fn T B D9 GL F44 b44 ⟨a44, i44, k44⟩
  have GO : FnOk l.prog w K mg base CX0 4 f11 _ ["rule", "mark"] (spPartOf K C) := ok_partOf D11.fn B D10 GP
  have GM : FnOk l.prog w K mg base CX0 5 f12 _ ["rule", "part"] (spMirrorPart K C) := ok_mirrorPart D12.fn T D10 GP D11 GO F45 b45 ⟨a45, i45, k45⟩
  have GF : FnOk l.prog w K mg base CX0 2 f13 _ ["rule", "marks"] (spOff K C) := ok_off D13.fn T B F46 b46 ⟨a46, i46, k46⟩
  have GE : FnOk l.prog w K mg base CX0 4 f15 _ ["rule", "part"] (spPeriod K C) := ok_period D15.fn T B D10 GP D13 GF D14
  have GC : FnOk l.prog w K mg base CX0 5 f16 _ ["rule", "part"] (spClasses K C) := ok_classes D16.fn B D10 GP D13 GF D15 GE
  have GA : FnOk l.prog w K mg base CX0 6 f17 _ ["rule", "mark"] (spClassOf K C) := ok_classOf D17.fn D10 GP D11 GO D16 GC
  have GT : FnOk l.prog w K mg base CX0 7 f18 _ ["rule", "part"] (spTurning K C) := ok_turning D18.fn T D10 GP D17 GA D15 GE F45 b45 ⟨a45, i45, k45⟩
  have GK : FnOk l.prog w K mg base CX0 6 f38 _ ["_law_rule", "_law_number"] (spKnown K C) := ok_known D38.fn B D10 GP D16 GC
  have GS : FnOk l.prog w K mg base CX0 7 f39 _ ["_law_rule", "_law_other", "_law_names_here", "_law_number"] (spShift K C) := ok_shift D39.fn B D10 GP D11 GO D38 GK D15 GE
  have GNR : FnOk l.prog w K mg base CX0 8 f40 _ ["_law_rule", "_law_other", "_law_names_here"] (spNR K C) := ok_nr D40.fn B D10 GP GPF D12 GM D15 GE D18 GT D39 GS
  have GRN : FnOk l.prog w K mg base CX0 8 f37 _ ["_law_rule", "_law_names_here"] (spRen K C) := ok_ren D37.fn T B ⟨mk, a43, i43, kc⟩ b43 GI F44 b44 ⟨a44, i44, k44⟩ F45 b45 ⟨a45, i45, k45⟩
  have GIR : FnOk l.prog w K mg base CX0 5 f19 _ ["rule", "thing"] (spIsRing K C) := ok_isring D19.fn T B F44 b44 ⟨a44, i44, k44⟩ F46 b46 ⟨a46, i46, k46⟩ D20 D21 D3 D2 D1
  have GMI : FnOk l.prog w K mg base CX0 2 f26 _ ["rule", "ring"] (spMirrored K C) := ok_mirrored D26.fn T B F45 b45 ⟨a45, i45, k45⟩
  have GSP : FnOk l.prog w K mg base CX0 5 f27 _ ["ring"] (spSpelled K) := ok_spelled D27.fn B ms D22 D23 D24 D25
  have GRR : FnOk l.prog w K mg base CX0 8 f41 _ ["_law_rule", "_law_number", "_law_marks"] (spRR K C) := ok_rr D41.fn ⟨B, D38, GK, D15, GE, D12, GM, D11, GO, D18, GT, D19, GIR, D26, GMI, D27, GSP⟩
  exact ok_law F42 T B ⟨mk, a43, i43, kc⟩ b43 GI ⟨D28, D29, D30, D31, D32, D33, D34, D35, D36⟩ D37 GRN D40 GNR D10 GP D41 GRR
end K9
open PySem PySem.W PyProof.Rows
set_option maxRecDepth 100000 in
set_option maxHeartbeats 0 in
theorem PySem.Challenge.cw_ringvouch_k09_whole_parts_by_any_names_holds : PySem.Challenge.rw_ringvouch_k09_whole_parts_by_any_names.Holds := by
  w_on; o_law; k_head; (case hw => w_witness2)
  k_fill
  refine RV.walk_G (l := PySem.Challenge.rw_ringvouch_k09_whole_parts_by_any_names) (n := 63) (k := 9) (x := "_law_script") (sp := fun w => K9.spLaw _) rfl (by decide) rfl ⟨rfl, by decide, by decide⟩ (fun w h Y => PySem.W.kIn_of Y) ?F (fun _ _ a ns hl _ hS => ⟨a, ns, rfl, hS, hl, fun _ => rfl⟩)
  case F =>
    intro w mg fa h KX G hmg
    refine' K9.all_mk KX G hmg ?a1 ?l1 ?c1 ?k1 ?a2 ?l2 ?c2 ?k2 ?a3 ?l3 ?c3 ?k3 ?a4 ?l4 ?c4 ?k4 ?a5 ?l5 ?c5 ?k5 ?a6 ?l6 ?c6 ?k6 ?a7 ?l7 ?c7 ?k7 ?a8 ?l8 ?c8 ?k8 ?a9 ?l9 ?c9 ?k9 ?a10 ?l10 ?c10 ?k10 ?a11 ?l11 ?c11 ?k11 ?a12 ?l12 ?c12 ?k12 ?a13 ?l13 ?c13 ?k13 ?a14 ?l14 ?c14 ?k14 ?a15 ?l15 ?c15 ?k15 ?a16 ?l16 ?c16 ?k16 ?a17 ?l17 ?c17 ?k17 ?a18 ?l18 ?c18 ?k18 ?a19 ?l19 ?c19 ?k19 ?a20 ?l20 ?c20 ?k20 ?a21 ?l21 ?c21 ?k21 ?a22 ?l22 ?c22 ?k22 ?a23 ?l23 ?c23 ?k23 ?a24 ?l24 ?c24 ?k24 ?a25 ?l25 ?c25 ?k25 ?a26 ?l26 ?c26 ?k26 ?a27 ?l27 ?c27 ?k27 ?a28 ?l28 ?c28 ?k28 ?a29 ?l29 ?c29 ?k29 ?a30 ?l30 ?c30 ?k30 ?a31 ?l31 ?c31 ?k31 ?a32 ?l32 ?c32 ?k32 ?a33 ?l33 ?c33 ?k33 ?a34 ?l34 ?c34 ?k34 ?a35 ?l35 ?c35 ?k35 ?a36 ?l36 ?c36 ?k36 ?a37 ?l37 ?c37 ?k37 ?a38 ?l38 ?c38 ?k38 ?a39 ?l39 ?c39 ?k39 ?a40 ?l40 ?c40 ?k40 ?a41 ?l41 ?c41 ?k41 ?a42 ?l42 ?c42 ?k42 ?aC ?a43 ?i43 ?l43 ?c43 ?k43 ?a44 ?i44 ?l44 ?c44 ?k44 ?a45 ?i45 ?l45 ?c45 ?k45 ?a46 ?i46 ?l46 ?c46 ?k46 ?pg ?hd ?po ?sa ?mk ?kc ?nM ?nS ?nF ?t1 ?t2 ?t3 ?t4 ?mM ?mS ?z0 ?z1 ?z2 ?z3 ?z4 ?z5 ?z6 ?z7 ?z8 ?z9 ?z10 ?z11 ?z12 ?z13 ?z14 ?z15 ?z16 ?z17
    (case a1 => k_is)
    (case l1 => k_is)
    (case c1 => k_is)
    (case k1 => k_is)
    (case a2 => k_is)
    (case l2 => k_is)
    (case c2 => k_is)
    (case k2 => k_is)
    (case a3 => k_is)
    (case l3 => k_is)
    (case c3 => k_is)
    (case k3 => k_is)
    (case a4 => k_is)
    (case l4 => k_is)
    (case c4 => k_is)
    (case k4 => k_is)
    (case a5 => k_is)
    (case l5 => k_is)
    (case c5 => k_is)
    (case k5 => k_is)
    (case a6 => k_is)
    (case l6 => k_is)
    (case c6 => k_is)
    (case k6 => k_is)
    (case a7 => k_is)
    (case l7 => k_is)
    (case c7 => k_is)
    (case k7 => k_is)
    (case a8 => k_is)
    (case l8 => k_is)
    (case c8 => k_is)
    (case k8 => k_is)
    (case a9 => k_is)
    (case l9 => k_is)
    (case c9 => k_is)
    (case k9 => k_is)
    (case a10 => k_is)
    (case l10 => k_is)
    (case c10 => k_is)
    (case k10 => k_is)
    (case a11 => k_is)
    (case l11 => k_is)
    (case c11 => k_is)
    (case k11 => k_is)
    (case a12 => k_is)
    (case l12 => k_is)
    (case c12 => k_is)
    (case k12 => k_is)
    (case a13 => k_is)
    (case l13 => k_is)
    (case c13 => k_is)
    (case k13 => k_is)
    (case a14 => k_is)
    (case l14 => k_is)
    (case c14 => k_is)
    (case k14 => k_is)
    (case a15 => k_is)
    (case l15 => k_is)
    (case c15 => k_is)
    (case k15 => k_is)
    (case a16 => k_is)
    (case l16 => k_is)
    (case c16 => k_is)
    (case k16 => k_is)
    (case a17 => k_is)
    (case l17 => k_is)
    (case c17 => k_is)
    (case k17 => k_is)
    (case a18 => k_is)
    (case l18 => k_is)
    (case c18 => k_is)
    (case k18 => k_is)
    (case a19 => k_is)
    (case l19 => k_is)
    (case c19 => k_is)
    (case k19 => k_is)
    (case a20 => k_is)
    (case l20 => k_is)
    (case c20 => k_is)
    (case k20 => k_is)
    (case a21 => k_is)
    (case l21 => k_is)
    (case c21 => k_is)
    (case k21 => k_is)
    (case a22 => k_is)
    (case l22 => k_is)
    (case c22 => k_is)
    (case k22 => k_is)
    (case a23 => k_is)
    (case l23 => k_is)
    (case c23 => k_is)
    (case k23 => k_is)
    (case a24 => k_is)
    (case l24 => k_is)
    (case c24 => k_is)
    (case k24 => k_is)
    (case a25 => k_is)
    (case l25 => k_is)
    (case c25 => k_is)
    (case k25 => k_is)
    (case a26 => k_is)
    (case l26 => k_is)
    (case c26 => k_is)
    (case k26 => k_is)
    (case a27 => k_is)
    (case l27 => k_is)
    (case c27 => k_is)
    (case k27 => k_is)
    (case a28 => k_is)
    (case l28 => k_is)
    (case c28 => k_is)
    (case k28 => k_is)
    (case a29 => k_is)
    (case l29 => k_is)
    (case c29 => k_is)
    (case k29 => k_is)
    (case a30 => k_is)
    (case l30 => k_is)
    (case c30 => k_is)
    (case k30 => k_is)
    (case a31 => k_is)
    (case l31 => k_is)
    (case c31 => k_is)
    (case k31 => k_is)
    (case a32 => k_is)
    (case l32 => k_is)
    (case c32 => k_is)
    (case k32 => k_is)
    (case a33 => k_is)
    (case l33 => k_is)
    (case c33 => k_is)
    (case k33 => k_is)
    (case a34 => k_is)
    (case l34 => k_is)
    (case c34 => k_is)
    (case k34 => k_is)
    (case a35 => k_is)
    (case l35 => k_is)
    (case c35 => k_is)
    (case k35 => k_is)
    (case a36 => k_is)
    (case l36 => k_is)
    (case c36 => k_is)
    (case k36 => k_is)
    (case a37 => k_is)
    (case l37 => k_is)
    (case c37 => k_is)
    (case k37 => k_is)
    (case a38 => k_is)
    (case l38 => k_is)
    (case c38 => k_is)
    (case k38 => k_is)
    (case a39 => k_is)
    (case l39 => k_is)
    (case c39 => k_is)
    (case k39 => k_is)
    (case a40 => k_is)
    (case l40 => k_is)
    (case c40 => k_is)
    (case k40 => k_is)
    (case a41 => k_is)
    (case l41 => k_is)
    (case c41 => k_is)
    (case k41 => k_is)
    (case a42 => k_is)
    (case l42 => k_is)
    (case c42 => k_is)
    (case k42 => k_is)
    (case aC => k_is)
    (case a43 => k_is)
    (case i43 => k_is)
    (case l43 => k_is)
    (case c43 => k_is)
    (case k43 => k_is)
    (case a44 => k_is)
    (case i44 => k_is)
    (case l44 => k_is)
    (case c44 => k_is)
    (case k44 => k_is)
    (case a45 => k_is)
    (case i45 => k_is)
    (case l45 => k_is)
    (case c45 => k_is)
    (case k45 => k_is)
    (case a46 => k_is)
    (case i46 => k_is)
    (case l46 => k_is)
    (case c46 => k_is)
    (case k46 => k_is)
    (case pg => k_is)
    (case hd => k_is)
    (case po => k_is)
    (case sa => k_is)
    (case mk => k_is)
    (case kc => k_is)
    (case nM => k_is)
    (case nS => k_is)
    (case nF => k_is)
    (case t1 => k_is)
    (case t2 => k_is)
    (case t3 => k_is)
    (case t4 => k_is)
    (case mM => k_is)
    (case mS => k_is)
    (case z0 => k_is)
    (case z1 => k_is)
    (case z2 => k_is)
    (case z3 => k_is)
    (case z4 => k_is)
    (case z5 => k_is)
    (case z6 => k_is)
    (case z7 => k_is)
    (case z8 => k_is)
    (case z9 => k_is)
    (case z10 => k_is)
    (case z11 => k_is)
    (case z12 => k_is)
    (case z13 => k_is)
    (case z14 => k_is)
    (case z15 => k_is)
    (case z16 => k_is)
    (case z17 => k_is)
