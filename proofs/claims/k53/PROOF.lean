import PyProof.Rows.All
import Wide.All
import OpenK.AllK
import Wide.FinOn
import HandS.ForMost
import KE.GoesEnum
import HandS.Style
import KE.KRevSl
import PyProof.ReprRoads
import HandS.OwnEq
import PyProof.InstNe
import HandS.TupSets
import HandS.IsInst
import HandS.Walk
import HandS.Zip
import HandS.TupAny
import HandS.Deep
import HandS.Conv
import HandS.More
import HandS.Wide
import HandS.Text
import HandS.TupMul
import HandS.Iter
import HandS.FStr
import KE.KExcSuper
import KE.KSuper
import HandS.ClsMeth
import HandS.ExcInit
import HandS.Nested
import PyProof.ReprBulk
import HandS.ForExc
import HandS.ExcIs
import HandS.WordsExc
import HandS.ExcField
import HandS.HeadHook1
import HandS.Head2
import HandS.Strs
import HandS.RaiseMore
import HandS.TupLe
import KE.KDictList
import PyProof.NeKinds
import HandS.Call
import PyProof.StrOps2
import PySem.Challenge.RW_ringvouch_k53_texts_of_rings_and_plans_b
set_option Elab.async false
set_option linter.all false
set_option maxRecDepth 100000
namespace RV
open PySem PySem.Spec PyProof.Rows L2
set_option maxHeartbeats 4000000 in
theorem meets_en1 {val : Value} {ob : Obj} {HH : Heap → Prop} (B : Begins val ob HH) :
    Meets (Builtin.«enumerate.__new__» ⟨[.type "enumerate", val], []⟩) (fun _ R st => HH st.heap ∧
      R (.ok (.ret (.ref (st.heap.push ob).objs.size)))
        { st with heap := (st.heap.push ob).push { cls := .type "enumerate", data := .fields #[.none, .bool false, .ref st.heap.objs.size, rawInt 0, .none, .none] } }) :=
  .of_wp fun prog w A R st hyp => by
    obtain ⟨hp, gs, dr, tk, os⟩ := st
    obtain ⟨hyp1, hyp2⟩ := hyp
    have hsub := sub_enumerate
    have it1 : ∀ {A' : Around} {E : Value → Shared → Prop} {Q : Value → Shared → Prop}, Q (.ref hp.objs.size) ⟨hp.push ob, gs, dr, tk, os⟩ →
        wpAny (model prog w) A' (pyIter val) Q E ⟨hp, gs, dr, tk, os⟩ := fun q => B.iter prog w _ _ ⟨hp, gs, dr, tk, os⟩ _ hyp1 q
    wp_walk using it1
    refine wpAny_stack_any fun sk => wpAny_pure ?_
    split
    · rename_i cc _ _ _ _ _
      cases (cc == Value.type "enumerate") <;> (wp_walk using it1; exact ⟨_, rfl, hyp2⟩)
    · wp_walk using it1
      exact ⟨_, rfl, hyp2⟩
section
variable {prog : Program} {w : World} {A : Around} {E : Value → Shared → Prop} {s : Shared}
theorem call_en1 {val : Value} {ob : Obj} {HH : Heap → Prop} {Q : Value → Shared → Prop} (B : Begins val ob HH) (hh : HH s.heap)
    (k : ∀ h', IsEnum h' (s.heap.objs.size + 1) s.heap.objs.size 0 .none → h'.get? s.heap.objs.size = some ob → h'.objs.size = s.heap.objs.size + 2 →
      (∀ b o, s.heap.get? b = some o → h'.get? b = some o) → Q (.ref (s.heap.objs.size + 1)) { s with heap := h' }) :
    wpAny (model prog w) A (call (.type "enumerate") [val]) Q E s := by
  refine callType_new F.called_enumerate (by decide) (F.typeCall_enumerate_1 _) (F.newCall_enumerate_1 _) (fun oo => F.args_object_init_2 oo _) F.entry_enumerate_new (meets_en1 B) ⟨hh, ?_⟩
  have z1 : (s.heap.push ob).objs.size = s.heap.objs.size + 1 := Heap.size_push ..
  show _ ∧ _
  rw [z1]
  have z2 : IsEnum ((s.heap.push ob).push { cls := .type "enumerate", data := .fields #[.none, .bool false, .ref s.heap.objs.size, rawInt 0, .none, .none] }) (s.heap.objs.size + 1) s.heap.objs.size 0 .none := by
    have z3 := Heap.get?_push_size (s.heap.push ob) (o := { cls := .type "enumerate", data := .fields #[.none, .bool false, .ref s.heap.objs.size, rawInt 0, .none, .none] }) rfl
    rw [z1] at z3; exact z3
  refine ⟨⟨_, z2, rfl⟩, k _ z2 (Heap.get?_push_of_some _ (Heap.get?_push_size _ B.free)) (by rw [Heap.size_push, z1]) fun b o x => ?_⟩
  exact Heap.get?_push_of_some _ (Heap.get?_push_of_some _ x)
end
/-- enumerate of a tuple: the items in new pairs -/
def IteT (K : PySem.W.Frag) (a : Addr) : It where
  go i H := ∃ (xs : List V) (x : V), SqT K H a xs ∧ xs[i]? = some x
  yld i H v H' := ∃ T x, v = .ref T ∧ H T = none ∧ H' = upd H T (.tup [.int (i : Nat), x]) ∧ ∀ xs, SqT K H a xs → xs[i]? = some x
  stop i H := ∃ xs : List V, SqT K H a xs ∧ xs.length ≤ i
theorem turn_enT {P : Program} {w : World} {K : PySem.W.Frag} {elts : List Expr} {kk : Nat} {tpos : Pos} (a e it : Addr) :
    Turn P w K (.Tuple elts kk tpos) (IteT K a) [e, it] e (fun i h => (∃ old, IsEnum h e it ((i : Nat) : Int) old) ∧ h.IsTupleIter it a i ∧ e ≠ it ∧ a ≠ it ∧ a ≠ e) where
  mem := by simp
  obj := fun i h st b hb => by
    obtain ⟨⟨old, he⟩, ⟨o, ho, hc, hd⟩, _, _⟩ := st
    have eb : b = e ∨ b = it := by simpa using hb
    rcases eb with rfl | rfl
    · exact ⟨_, he, fun v q => nomatch q⟩
    · exact ⟨o, ho, fun v q => by rw [hd] at q; cases q⟩
  keep := fun i h h' st k => let ⟨⟨old, he⟩, hi, hne⟩ := st; ⟨⟨old, k e (by simp) _ he⟩, hi.at fun o q => k it (by simp) o q, hne⟩
  item := by
    intro X hP hw hK hc i pins s σ H E I hf st hg
    subst hP hw hK
    obtain ⟨⟨old, he⟩, hit, hne, hai, hae⟩ := st
    obtain ⟨xs, x, hq, hx⟩ := hg
    obtain ⟨its, rv, p, hz⟩ := I.tuple hq
    obtain ⟨u, hu, ru⟩ := rv.get hx
    have hel : e < s.heap.objs.size := Heap.lt_size he
    have hil : it < s.heap.objs.size := by obtain ⟨_, q, _⟩ := hit; exact Heap.lt_size q
    have hi : i < its.toArray.size := by
      have := (List.getElem?_eq_some_iff.mp hu).1
      simpa using this
    refine wpAny_pyNext_enum_itemD (A := X.A) (Draws.tuple (A := X.A.in1) (show X.A.in1.handled = none from I.ok.hd hc) it a hai its.toArray) he ⟨hit, p⟩ hi hne (by simp [hne, Ne.symm hae]) fun y h' tk hy ho hst hT hsz hk => ?_
    have hyu : y = u := by
      have e1 : its[i]? = some y := by simpa using hy
      rw [hu] at e1
      exact (Option.some.inj e1).symm
    subst hyu
    refine ⟨_, rfl, wpAny_letOwnedTupleGo_enum (s := { s with heap := h', toks := tk + 1 }) ho fun h'' he' sb => ?_⟩
    have hT2 : h''.get? s.heap.objs.size = some { cls := .type "tuple", data := .seq #[.int i tk, y] } := (sb.2 _ (Nat.ne_of_gt hel)).trans hT
    have new : ObjOk X.prog X.w (upd H s.heap.objs.size (.tup [.int (i : Nat), x])) h'' s.heap.objs.size (.tup [.int (i : Nat), x]) :=
      ⟨by show 2 ≤ sizeLine; decide, [.int i tk, y], .cons ⟨_, rfl⟩ (.cons ru .nil), ⟨_, hT2, rfl, _, rfl⟩⟩
    have I1 : Inv X pins σ (upd H s.heap.objs.size (.tup [.int (i : Nat), x])) { s with heap := h'', toks := tk + 1 } := by
      refine I.turnedNew (ch := [e, it]) (fun b ob hb q => ?_) hf (Nat.le_refl _) new
      exact (sb.2 b (fun z => hb (by simp [z]))).trans (hk b ob (fun z => hb (by simp [z])) (fun z => hb (by simp [z])) q)
    refine ⟨.ref s.heap.objs.size, _, I1, rfl, ⟨_, x, rfl, I.hok.fresh (Nat.le_refl _), rfl, fun ys hy => ?_⟩, ⟨⟨y, ?_⟩, hst.1.at fun o q => (sb.2 it (Ne.symm hne)).trans q, hne, hai, hae⟩, fun b hb => ?_⟩
    · rw [I.tuple_inj hy hq]; exact hx
    · rw [show ((i + 1 : Nat) : Int) = (i : Int) + 1 by omega]; exact he'
    · have eb : b = e ∨ b = it := by simpa using hb
      have hb' : b < s.heap.objs.size := by
        rcases eb with z | z <;> rw [z] <;> assumption
      rw [upd_ne (Nat.ne_of_lt hb')]
      exact (hf b hb).1
  done := by
    intro X hP hw hK hc i pins s σ H E I hf st hg
    subst hP hw hK
    obtain ⟨⟨old, he⟩, hit, hne, hai, hae⟩ := st
    obtain ⟨xs, hq, hx⟩ := hg
    obtain ⟨its, rv, p, hz⟩ := I.tuple hq
    obtain ⟨f0, f1, f2, f3, f4, f5⟩ := hf it (by simp)
    have hl := rv.length
    have hT : s.TypeIs (.ref e) "enumerate" := ⟨_, he, rfl⟩
    unfold pyNext
    refine wpAny_bind (wpAny_attempt (wpAny_callSpecial?_slot (name := Str.ofString "__next__") hT F.slot_enumerate_next (wpAny_call_entry F.slot_enumerate_next hT F.entry_enumerate_next ?_ (F.args_enumerate_next_1 _))))
    show wpAny _ _ (field (.ref e) 2 >>= _) _ _ _
    refine wpAny_bind (wpAny_field he rfl (x := .ref it) rfl ?_)
    refine wpAny_bind (wpAny_nextOf_tuple_end (I.ok.hd hc) hit p (by simp; omega) fun h' x he' hx' => ?_)
    obtain ⟨o, ho, hco⟩ := hx'
    refine wpAny_bind (wpAny_isInstance (T := "StopIteration") (b := true) ⟨o, ho, hco⟩ isSubtype_stop ?_)
    exact wpAny_pure ⟨rfl, I.turned (t' := s.toks) (fun b o hb q => he' b o hb q) f0 f1 f3 f4 f5⟩
  self := fun A i s Q E st h => let ⟨⟨_, he⟩, _⟩ := st; wpAny_pyIter_enum he h
def iEnT (K : PySem.W.Frag) (ta : TA) : TI := fun σ H R => ta σ H fun vs H1 => ∃ a xs, vs = [.ref a] ∧ SqT K H1 a xs ∧ R (IteT K a) H1
theorem pi_enT {X : Cx} {e : Expr} {ta : TA} {p pos tpos : Pos} {elts : List Expr} {kk : Nat} (hg : Gl X "enumerate") (hm : X.mg "enumerate" = none) (ha : PA X [e] ta)
    (hs : starEach [e] X.env = [(false, eval e X.env)] := by rfl) : PI X (.Tuple elts kk tpos) (.Call (.Name "enumerate" p) [e] [] pos) (iEnT X.K ta) := by
  refine ⟨fun pins s σ H R I h => Call_ (ld_blt I hg hm boot_enumerate (PyProof.Rows.callWith_type1 (thn (ha.run pos pins s σ H _ I h) fun us s1 ⟨vs, H1, I1, r1, q1⟩ => ?_) hs rfl))⟩
  obtain ⟨a, xs, ex, hq, q⟩ := q1
  subst ex
  cases r1 with
  | cons r rr =>
    cases rr
    cases r
    obtain ⟨its, rv, p', hz⟩ := I1.tuple hq
    have ha0 : a < s1.heap.objs.size := by
      obtain ⟨o, ho, _⟩ := p'
      exact Heap.lt_size ho
    refine call_en1 (begins_tuple a its.toArray) p' fun h' he hit hsz hk => wpAny_pyIter_enum he ?_
    have I2 : Inv X pins σ H1 { s1 with heap := h' } := I1.kept (t' := s1.toks) hk
    refine ⟨s1.heap.objs.size + 1, [s1.heap.objs.size + 1, s1.heap.objs.size], _, _, H1, rfl, I2, turn_enT a (s1.heap.objs.size + 1) s1.heap.objs.size,
      ⟨⟨.none, he⟩, ⟨_, hit, rfl, rfl⟩, Nat.succ_ne_self _, Nat.ne_of_lt ha0, Nat.ne_of_lt (Nat.lt_succ_of_lt ha0)⟩, fun b hb => ?_, q⟩
    have eb : b = s1.heap.objs.size + 1 ∨ b = s1.heap.objs.size := by simpa using hb
    have hle : s1.heap.objs.size ≤ b := by
      rcases eb with z | z
      · rw [z]; exact Nat.le_add_right _ _
      · rw [z]; exact Nat.le_refl _
    exact I1.fpOk hle (I1.hok.fresh hle)
end RV
set_option maxHeartbeats 4000000
namespace RV
open PySem PySem.Spec PyProof.Rows L2 HT
theorem back_places (n : Nat) : Builtin.Slice.slicePlaces ((n : Int) - 1) (-1) (-1) = n := by
  unfold Builtin.Slice.slicePlaces
  rw [if_neg (show ¬ ((-1 : Int) > 0) by decide)]
  by_cases hn : (n : Int) - 1 > -1
  · rw [if_pos hn, show (- -1 : Int) = 1 from rfl, Int.ediv_one]; omega
  · rw [if_neg hn]; omega
theorem back_pick (xs : Array Value) : ((List.range xs.size).filterMap fun (m : Nat) => xs[((xs.size : Int) - 1 + (m : Int) * (-1)).toNat]?).toArray = xs.toList.reverse.toArray := by
  have e0 : ∀ (l : List Nat), (∀ m ∈ l, m < xs.size) → l.filterMap (fun (m : Nat) => xs[((xs.size : Int) - 1 + (m : Int) * (-1)).toNat]?) = (l.map fun k => xs.size - 1 - k).filterMap (xs[·]?) := by
    intro l
    induction l with
    | nil => intro _; rfl
    | cons m r ih =>
      intro hm
      have h1 := hm m (List.mem_cons_self ..)
      have h2 := ih fun z hz => hm z (List.mem_cons_of_mem _ hz)
      rw [List.map_cons, List.filterMap_cons, List.filterMap_cons, h2, show ((xs.size : Int) - 1 + (m : Int) * (-1)).toNat = xs.size - 1 - m by omega]
  have e1 := e0 (List.range xs.size) fun m hm => List.mem_range.mp hm
  rw [e1, PySem.W.krv_range, List.filterMap_reverse, PySem.W.krv_all]
section
variable {prog : Program} {w : World} {A : Around} {E : Value → Shared → Prop} {s : Shared}
theorem applied_back {sl : Addr} {vl vu vs : Value} {n : Nat} {Q : Int × Int × Nat → Shared → Prop} (hs : s.heap.IsSliceOf sl vl vu vs) (pl : IsPart vl none) (pu : IsPart vu none) (ps : IsPart vs (some (-1)))
    (k : Q ((n : Int) - 1, -1, n) s) : wpAny (model prog w) A (Builtin.Slice.sliceApplied (.ref sl) (pure (n : Int))) Q E s := by
  obtain ⟨os, o1, o2, o3⟩ := id hs
  unfold Builtin.Slice.sliceApplied Builtin.Slice.sliceFields
  refine wpAny_bind (wpAny_bind (wpAny_field o1 o3 (x := vl) rfl (wpAny_bind (wpAny_field o1 o3 (x := vu) rfl (wpAny_bind (wpAny_field o1 o3 (x := vs) rfl (wpAny_pure ?_)))))))
  refine wpAny_bind (slicePart_ ps ?_)
  show wpAny _ _ (if ((-1 : Int) == 0) = true then _ else _) _ _ s
  rw [if_neg (by decide)]
  refine wpAny_bind (slicePart_ pl (wpAny_bind (slicePart_ pu (wpAny_bind (wpAny_pure ?_)))))
  show wpAny _ _ (pure ((n : Int) - 1, (-1 : Int), Builtin.Slice.slicePlaces ((n : Int) - 1) (-1) (-1))) _ _ s
  rw [back_places]
  exact wpAny_pure k
theorem item_back {t sl : Addr} {items : Array Value} {vl vu vs : Value} {Q : Value → Shared → Prop} (ht : IsTup s.heap t items) (hs : s.heap.IsSliceOf sl vl vu vs) (pl : IsPart vl none) (pu : IsPart vu none) (ps : IsPart vs (some (-1)))
    (k : Q (.ref s.heap.objs.size) { s with heap := s.heap.push { cls := .type "tuple", data := .seq items.toList.reverse.toArray } })
    (hsz : items.size ≤ sizeLine) : wpAny (model prog w) A (getItem (.ref t) (.ref sl)) Q E s := by
  have hok : sizeOk (.seq items.toList.reverse.toArray) := by
    show items.toList.reverse.toArray.size ≤ sizeLine
    simpa using hsz
  obtain ⟨os, o1, o2, o3⟩ := id hs
  have hTs : s.TypeIs (.ref sl) "slice" := ⟨os, o1, o2⟩
  unfold getItem
  try with_reducible refine wpAny_holding ?_
  first | refine wpAny_bind (wpAny_pure ?_) | skip
  refine wpAny_bind (wpAny_sequenceKey ht.typeIs (by decide) ?_)
  refine wpAny_bind (wpAny_callSpecial?_slot (name := Str.ofString "__getitem__") ht.typeIs PyProof.Rows.slot_tuple_getitem (wpAny_call_entry PyProof.Rows.slot_tuple_getitem ht.typeIs entry_tuple_getitem ?_ (args_tuple_getitem _ _)))
  show wpAny _ _ (Builtin.Tuple.tupleItemsOf (.ref t) >>= _) _ _ s
  refine wpAny_bind (tupleItemsOf_ ht (wpAny_bind (wpAny_typeOf hTs ?_)))
  rw [if_pos (by decide)]
  refine wpAny_bind (applied_back hs pl pu ps ?_)
  show wpAny _ _ (if (((items.size : Int) - 1) == 0 && (-1 : Int) == 1 && items.size == items.size) = true then _ else _) _ _ s
  rw [if_neg (by simp), back_pick]
  first
    | exact wpAny_bind (m := Builtin.Tuple.tupleExact _) (wpAny_newObj_type (wpAny_pure ⟨_, rfl, wpAny_pure k⟩) hok)
    | exact wpAny_bind (wpAny_bind (m := Builtin.Tuple.tupleExact _) (wpAny_newObj_type (wpAny_pure (wpAny_pure ⟨_, rfl, wpAny_pure k⟩)) hok))
    | exact wpAny_bind (wpAny_bind (m := Builtin.Tuple.tupleExact _) (wpAny_newObj_type (wpAny_pure ⟨_, rfl, wpAny_pure k⟩) hok))
    | exact wpAny_bind (m := Builtin.Tuple.tupleExact _) (wpAny_newObj_type (wpAny_bind (wpAny_pure (wpAny_pure ⟨_, rfl, wpAny_pure k⟩))) hok)
end
section
variable {X : Cx}
/-- t[::-1] of a tuple -/
def tBackT (K : PySem.W.Frag) (te : TE) : TE := fun σ H Q => te σ H fun x H1 => ∃ a xs, x = .ref a ∧ SqT K H1 a xs ∧ ∀ p, H1 p = none → Q (.ref p) (upd H1 p (.tup xs.reverse))
theorem pe_backT {e : Expr} {te : TE} {k : Nat} {p1 p2 p3 pos : Pos} (he : PE X e te) : PE X (.Subscript e (.Slice none none (some (.UnaryOp .USub (.Constant (.int 1) k p1) p2)) p3) pos) (tBackT X.K te) := by
  refine ⟨fun pins s σ H Q I h => Subscript_ (thn (he.run pins s σ H _ I h) fun v s1 ⟨x, H1, I1, r1, q1⟩ => ?_)⟩
  obtain ⟨a, xs, ex, hx, q⟩ := q1
  subst ex
  cases r1
  have hst : PO X (some (.UnaryOp .USub (.Constant (.int 1) k p1) p2)) (tPart (tUn (rU fun i => .int (-i)) (tC (.int 1)))) := po_some (pe_un un_neg pe_int)
  refine wpAny_Slice (thn (po_none.run pins s1 σ H1 (fun o H2 => o = none ∧ H2 = H1) I1 ⟨rfl, rfl⟩) fun vl s2 ⟨l, H2, I2, pl, el, e2⟩ => ?_)
  subst el e2
  refine thn (po_none.run pins s2 σ H2 (fun o H3 => o = none ∧ H3 = H2) I2 ⟨rfl, rfl⟩) fun vu s3 ⟨u, H3, I3, pu, eu, e3⟩ => ?_
  subst eu e3
  refine thn (hst.run pins s3 σ H3 (fun o H4 => o = some (-1) ∧ H4 = H3) I3 ⟨1, rfl, -1, rfl, rfl, rfl⟩) fun vs s4 ⟨o, H4, I4, ps, eo, e4⟩ => ?_
  subst eo e4
  have I5 : Inv X pins σ H4 { s4 with heap := s4.heap.push { cls := .type "slice", data := .fields #[vl, vu, vs] } } := I4.kept (t' := s4.toks) fun b ob q => Heap.get?_push_of_some _ q
  obtain ⟨its, r, ht, hz⟩ := I5.tuple hx
  have hlen := r.length
  show wpAny (model X.prog X.w) X.A (subscriptTail e _ (.ref a) (.ref s4.heap.objs.size)) (EP X pins σ Q) X.xe { s4 with heap := s4.heap.push { cls := .type "slice", data := .fields #[vl, vu, vs] } }
  refine tail_any (ops := [.ref a, .ref s4.heap.objs.size]) ht.typeIs (PyProof.Rows.slot_tuple_getitem.lookup) ?_ (by with_unfolding_all rfl)
  refine item_back ht (Heap.IsSliceOf.new _ vl vu vs) pl pu ps ?_ (by rw [List.size_toArray]; omega)
  refine ⟨.ref _, _, I5.laid (t' := s4.toks) (o := .tup xs.reverse) (fun b ob q => Heap.get?_push_of_some _ q) (Nat.le_refl _) ?_, rfl, q _ (I5.hok.fresh (Nat.le_refl _))⟩
  exact ⟨by rw [List.length_reverse]; exact hz, its.reverse, r.reverse, IsTup.new _ _⟩
end
end RV
set_option maxHeartbeats 4000000
namespace RV
open PySem PySem.Spec PyProof.Rows L2
/-- as the layer's promise of a def, where no repr runs around -/
structure FnG (P : Program) (w : World) (K : PySem.W.Frag) (mg : Str → Option Value) (base : Heap) (CX : CXT) (k : Nat) (f : Addr) (fd : FuncData) (ps : List Str) (sp : Sp) : Prop where
  many : ∀ vs H Q E, sp vs H Q E → vs.length = ps.length
  goes : ∀ (A : Around) (outer : List Env) (s : Shared) (H : Hp) (args : Args) (us : List Value) (vs : List V) (Q : VK) (E : XK), A.guards = some [] → Room k A → Env0 P w K mg base A outer s H →
    BindsTo s fd args (ps.zip us) → Vals vs us → sp vs H Q E → codeAny (model P w) A (.call (.ref f) args) (CR CX outer P w H s Q E) s
section
variable {P : Program} {w : World} {K : PySem.W.Frag} {mg : Str → Option Value} {base : Heap} {CX : CXT} {k : Nat} {f : Addr} {fd : FuncData} {N ps : List Str} {sp : Sp} {x qual : Str} {st : Stmt}
theorem okG (F : Fun K x qual st f fd) (S : FnScope N ps (defScope st)) (len : ∀ vs H Q E, sp vs H Q E → vs.length = ps.length)
    (body : ∀ (cdv : Value) (A : Around) (outer : List Env) (s : Shared) (H : Hp) (vs : List V) (Q : VK) (E : XK), A.guards = some [] → Room k (A.deeper (envOfC qual (defScope st) s.heap.objs.size f cdv)) → sp vs H Q E →
      ∃ t, PSs (cxOf CX0 P w K mg base N qual (defScope st) f cdv A outer s H E).nox (defBody st) t ∧ t { nx := fun _ H' => Q .non H', rt := Q } (start N vs) H) : FnG P w K mg base CX0 (k + 1) f fd ps sp := by
  obtain ⟨oc, od, kV, doc, pm, an, cdv, ct, osl, rfl, lk, hcd⟩ := F.ex
  refine ⟨len, fun A outer s H args us vs Q E gd hr e0 hb r hsp => ?_⟩
  have KX : K.In s.heap := e0.mod.kin.keeps fun b o z => (e0.bs b o z).1
  have lim : s.heap.NoLimit := e0.mod.nolimit.keeps fun b o z => (e0.bs b o z).1
  have kinds : ∀ y ∈ ps.zip us, (defScope st).names.lookup y.1 = some .local ∨ ((defScope st).names.lookup y.1 = some .cell ∧ ((cellsFrom (s.heap.objs.size + 1) (defScope st).names []).lookup y.1).isSome = true) := by
    rintro ⟨n, v⟩ hy
    exact (S.par n (List.of_mem_zip hy).1).imp id fun q => ⟨q, PySem.W.cellsFrom_some _ _ _ (.inl q)⟩
  refine codeAny_call_function hr.depth (KX _ _ lk) rfl S.co S.gen rfl (PySem.W.codeRec_of KX hcd) (hb _ _ _ _ (wpAny_newFunctionEnv_cells S.kind kinds fun env he s1 z => ?_))
  subst he
  refine ⟨lim.keeps z.toInCall.keep, codeAny_func ?_⟩
  obtain ⟨t, ht, hq⟩ := body cdv A outer s H vs Q E gd (hr.deeper _) hsp
  have I : Inv (cxOf CX0 P w K mg base N qual (defScope st) f cdv A outer s H E) [] (start N vs) H s1 := inv_start S hr.hd e0 (len _ _ _ _ hsp) r z
  refine wpAny_mono (ht.nox.run [] s1 (start N vs) H _ I hq) (fun fl s' hs => ?_) fun e s' hs => hs
  cases fl with
  | ret u =>
    obtain ⟨v, σ', H', J, rv, q⟩ := hs
    exact ⟨v, H', J.os, J.bare, J.base, J.hok, rv, q⟩
  | next =>
    obtain ⟨σ', H', J, q⟩ := hs
    exact ⟨V.non, H', J.os, J.bare, J.base, J.hok, rfl, q⟩
  | brk => exact hs.elim fun _ z => z.elim fun _ y => False.elim y.2
  | cont => exact hs.elim fun _ z => z.elim fun _ y => False.elim y.2
end
section
variable {X : Cx} {CX : CXT} {k : Nat} {f : Addr} {fd : FuncData} {ps : List Str} {sp : Sp} {dvs : List V} {ds : List Value} {E : XK} {x : Str} {p pos : Pos} {e : Expr} {es : List Expr} {t : TA}
/-- f(e, ..) of such a def -/
theorem pe_callG (F : FnG X.prog X.w X.K X.mg X.base CX k f fd ps sp) (gd : X.A.guards = some []) (hr : Room k X.A) (hg : Gl X x) (hm : X.mg x = some (.ref f)) (hk : PySem.W.keepIn X.K (.ref f) = true) (hb : Binds X.K fd ps ds) (hd : Vals dvs ds) (hx : Passes CX X E)
    (ha : PA X (e :: es) t) (hdb : (x == ("__debug__" : Str)) = false := by decide) (he : starEach (e :: es) X.env = (false, eval e X.env) :: starEach es X.env := by rfl) (hpl : (backTo pos (starEach es X.env)).any (·.1) = false := by rfl) :
    PE X (.Call (.Name x p) (e :: es) [] pos) (tCall sp dvs E t) := by
  refine ⟨fun pins s σ H Q I h => wpAny_Call_Name_kw (ld_glob I hg hm ?_ hdb)⟩
  refine PySem.W.callWith_K (h₀ := X.base) I.ok.mod.kin hk (thn (ha.run pos pins s σ H _ I h) fun us s1 ⟨vs, H1, I1, r, q⟩ => ⟨I1.kIn, ?_⟩) he hpl
  have r2 : Vals (vs ++ dvs) (us ++ ds) := r.append hd
  have hl : (us ++ ds).length = ps.length := r2.length ▸ F.many _ _ _ _ q
  refine wpAny_call (codeAny_mono (F.goes X.A X.stack s1 H1 ⟨us, []⟩ (us ++ ds) (vs ++ dvs) Q E gd hr I1.env0 (hb s1 us I1.kIn hl) r2 q) fun rr s' hq => ?_)
  cases rr with
  | error ee => exact hx pins σ H1 s1 ee s' I1 hq
  | ok fl => cases fl <;> first | exact I1.after hq | exact False.elim hq
/-- repr(x), x an object read as data -/
theorem call_reprD (gd : X.A.guards = some []) (hu : X.A.units + 65 < cLine) : CallR X (.builtin "repr") (fun xs H Q => ∃ (a : Addr) (d : PyData), xs = [.ref a] ∧ Dp X.K H (.ref a) d ∧ d.showable = true ∧ d.hasDict = false ∧ d.depth ≤ 64 ∧ d.shown.length ≤ sizeLine ∧ Q (.str d.shown) H) := by
  intro pins s σ H xs us Q I r h
  obtain ⟨a, d, rfl, hd, h1, h2, h3, h4, q⟩ := h
  obtain ⟨u, rfl, ru⟩ := vals1 r
  cases ru
  obtain ⟨as, rd⟩ := Dp.reads I d (.ref a) (.ref a) hd rfl
  refine repr_of_reads' rd h1 (fun z => by rw [h2] at z; cases z) gd (by omega) (fun _ _ z => z) (fun h' uu tk k => ?_) h4
  exact ⟨.str d.shown, H, I.kept k, ⟨uu, rfl⟩, q⟩
end
section
/-- the law's call, from such a promise -/
theorem law_callG {P : Program} {w : World} {K : PySem.W.Frag} {mg mb : Str → Option Value} {k : Nat} {fa a : Addr} {fd : FuncData} {x : Str} {sp : Sp} {st : Shared} {vs : List Value} {ns : List Int}
    (KX : K.In st.heap) (n1 : st.heap.Ns mainGlobals mg) (n2 : st.heap.Ns builtinsNs mb) (n3 : ∀ x : Str, x ≠ "__name__" → mb x = bootBuiltins x) (n4 : st.heap.NoLimit) (n5 : st.gens = #[])
    (ha : st.heap.get? a = some { cls := .type "list", data := .seq vs.toArray }) (hi : IntsAre vs ns) (hl : ns.length ≤ sizeLine) (hr : Room k callerA)
    (F : ∀ base : Heap, K.In base → base.Ns mainGlobals mg → FnG P w K mg base CX0 k fa fd [x] sp) (bnd : ∀ (s : Shared) (u : Value), BindsTo s fd ⟨[u], []⟩ [(x, u)])
    (hsp : ∀ H : Hp, Only H → SqL K H a (ns.map V.int) → sp [.ref a] H (fun v _ => v = .bl true) fun _ _ _ => False) :
    codeAny (model P w) callerA (.call (.ref fa) ⟨[.ref a], []⟩) (fun r s' => r = .ok (.ret (.bool true)) ∧ OldK st.heap s'.heap ∧ s'.os = st.os ∧ AllBare s'.gens) st := by
  have rv := vals_ints hi
  have lv := hi.length
  have key : ∀ H : Hp, Only H → SqL K H a (ns.map V.int) → HOk P w H st.heap → (∀ b, H b ≠ none → b = a) → (H a ≠ none → K.lookup a = none) →
      codeAny (model P w) callerA (.call (.ref fa) ⟨[.ref a], []⟩) (fun r s' => r = .ok (.ret (.bool true)) ∧ OldK st.heap s'.heap ∧ s'.os = st.os ∧ AllBare s'.gens) st := by
    intro H hO hS hok hA hK
    have noA : ∀ {b : Addr} {o : Obj} {es : Array DictEntry} {ep : Nat}, st.heap.get? b = some o → o.data = .dict es ep → H b = none := by
      intro b o es ep e d
      cases q : H b with
      | none => rfl
      | some u =>
        obtain rfl : b = a := hA b (by rw [q]; simp)
        rw [ha] at e
        cases e
        cases (show Data.seq vs.toArray _ = Data.dict es ep from d)
    have nsK : ∀ {b : Addr} {m : Str → Option Value}, st.heap.Ns b m → (hidT st.heap H).Ns b m := fun {b m} ⟨o, es, ep, e, d, r⟩ => ⟨o, es, ep, hidT_get e (noA e d), d, r⟩
    have kb : K.In (hidT st.heap H) := fun b o e => hidT_get (KX b o e) (by
      cases q : H b with
      | none => rfl
      | some u =>
        obtain rfl : b = a := hA b (by rw [q]; simp)
        rw [hK (by rw [q]; simp)] at e
        cases e)
    obtain ⟨mc, l1, l2⟩ := n4
    have e0 : Env0 P w K mg (hidT st.heap H) callerA [] st H :=
      ⟨rfl, ⟨kb, nsK n1, ⟨mb, nsK n2, n3⟩, ⟨mc, nsK l1, l2⟩⟩, fun b o e => of_hidT e, Nat.le_of_eq (hidT_size _ _), trivial, fun b hb => absurd (show b ∈ ([] : List Addr) from hb) (by simp), hok, .of_eq n5⟩
    refine codeAny_mono ((F _ kb (nsK n1)).goes callerA [] st H ⟨[.ref a], []⟩ [.ref a] [.ref a] _ _ rfl hr e0 (bnd st (.ref a)) (.cons rfl .nil) (hsp H hO hS)) fun r s' h => ?_
    cases r with
    | error e => exact False.elim h
    | ok fl =>
      cases fl with
      | next => exact False.elim h
      | brk => exact False.elim h
      | cont => exact False.elim h
      | ret u =>
        obtain ⟨v, H', os, bare, un, hok', r', q⟩ := h
        obtain rfl : v = .bl true := q
        obtain rfl : u = Value.bool true := r'
        refine ⟨rfl, OldK.of_keep fun b o e => ?_, os, bare⟩
        rcases hO b with z | ⟨ob, xs, z⟩
        · exact un.keep b o e z (fun y => absurd (show b ∈ ([] : List Addr) from y) (by simp)) (by simp)
        · have z2 := un.frzs b ob _ z
          obtain ⟨e1, _⟩ := hok b _ z
          obtain ⟨e2, _⟩ := hok' b _ z2
          rw [e] at e1
          cases e1
          exact e2
  cases hk : K.lookup a with
  | some o =>
    have e := KX a o hk
    rw [ha] at e
    cases e
    exact key (fun _ => none) (fun _ => .inl rfl) (.inr ⟨_, vs.toArray, _, hk, rfl, rfl, rfl, by rw [List.size_toArray, lv]; exact hl, by simpa using rv⟩)
      (fun b u z => by cases (show (none : Option HO) = some u from z)) (fun b z => absurd rfl z) fun z => absurd rfl z
  | none =>
    refine key (fun b => if b = a then some (.frz { cls := .type "list", data := .seq vs.toArray } (.lst (ns.map V.int))) else none) (fun b => ?_) (.inl (.inr ⟨{ cls := .type "list", data := .seq vs.toArray }, if_pos rfl⟩)) (fun b u z => ?_) (fun b z => ?_) fun _ => hk
    · by_cases hb : b = a
      · exact .inr ⟨_, _, if_pos hb⟩
      · exact .inl (if_neg hb)
    · by_cases hb : b = a
      · cases (if_pos hb).symm.trans z
        subst hb
        exact ⟨ha, by rw [List.length_map]; exact hl, vs, _, rv, ha⟩
      · cases (if_neg hb).symm.trans z
    · exact Classical.byContradiction fun hb => z (if_neg hb)
theorem walk_G {l : PySem.W.OpenLaw} {n k : Nat} {q : Program} {loose : List Str} {XP : (Str → Option Value) → Heap → Prop} {YP : World → Heap → Prop} {d : DefRec} {K : Params → PySem.W.Frag} {sp : World → Sp} {x : Str}
    (hn : l.most = some n) (hn2 : n ≤ sizeLine) (hdf : d.params.defaults = []) (hr : Room k callerA) (hY : ∀ (w : World) (h : Heap), YP w h → (K w.params).In h)
    (F : ∀ (w : World) (mg : Str → Option Value) (fa : Addr) (h : Heap), (K w.params).In h → h.Ns mainGlobals mg → mg d.name = some (.ref fa) →
      ∃ fd : FuncData, (∀ (s : Shared) (u : Value), BindsTo s fd ⟨[u], []⟩ [(x, u)]) ∧ ∀ base : Heap, (K w.params).In base → base.Ns mainGlobals mg → FnG l.prog w (K w.params) mg base CX0 k fa fd [x] (sp w))
    (hsp : ∀ (w : World) (H : Hp) (a : Addr) (ns : List Int), ns.length ≤ n → Only H → SqL (K w.params) H a (ns.map V.int) → sp w [.ref a] H (fun v _ => v = .bl true) fun _ _ _ => False) :
    PySem.W.WalkO q loose XP YP l.row.toRowW d [] (fun f vs => PySem.call f vs) := by
  refine Att.attach_call hn hdf fun w s₀ st mg mb fa o pm cd doc a vs ns G Y ho hd hcd hmg hobj hints hlen hg => ?_
  obtain ⟨fd, hb, hF⟩ := F w mg fa _ (hY w _ Y) G.T.g hmg
  exact law_callG (hY w _ Y) G.T.g G.T.b G.T.builtins G.T.nolimit hg hobj hints (Nat.le_trans hlen hn2) hr hF hb fun H hO hS => hsp w H a ns hlen hO hS
end
end RV
set_option maxHeartbeats 4000000
namespace RV
open PySem PySem.Spec PyProof.Rows L2 PySem.W
section
variable {prog : Program} {w : World} {A : Around} {E : Value → Shared → Prop} {s : Shared} {K : Frag} {x C L f : Addr} {h₀ : Heap} {m : Str → Option Value} {ox : Obj} {od : Option Obj} {b tb : Value}
theorem ne_bound {Q : Option Value → Shared → Prop} (X : K.In s.heap) (I : InstAt s.heap x ox C od) (hs : findIn K (.ref C) "__ne__" = some (some (.builtin "object.__ne__")))
    (h : wpAny (model prog w) A (call (.builtin "object.__ne__") [.ref x, b]) (fun v => Q (some v)) E s) : wpAny (model prog w) A (callSpecialIfBound? (.ref x) "__ne__" [b]) Q E s := by
  simp only [callSpecialIfBound?, bindSpecialIfBound?]
  refine wpAny_holding (wpAny_bind (wpAny_bind (wpAny_bind (I.type.here ((looks_findIn X hs).here ?_)))))
  refine wpAny_bind (wpAny_askSetting (wpAny_ite ?_))
  have fin : wpAny (model prog w) A (call (.builtin "object.__ne__") ([.ref x] ++ [b]) >>= fun v => pure (some v)) Q E s :=
    wpAny_bind (wpAny_mono h (fun v s' z => wpAny_pure z) fun _ _ z => z)
  split
  · rw [F.cmp_object.ne.bind]
    exact wpAny_bind (wpAny_pure (wpAny_pure fin))
  · rw [F.cmp_object.ne.bind]
    exact wpAny_tryCatch (wpAny_bind (wpAny_pure (wpAny_pure fin)))
theorem obj_ne {Q : Fin → Shared → Prop} (X : K.In s.heap) (hu : A.units < cLine) (I : InstAt s.heap x ox C od) (hs : findIn K (.ref C) "__eq__" = some (some (.ref f))) (hf : isFn K (.ref f) = true)
    (h : wpAny (model prog w) A (call (.ref f) [.ref x, b]) (fun v s' => ∃ c, v = .bool c ∧ Q (.done (.ret (.bool (!c)))) s') E s) :
    wpAny (model prog w) A (Builtin.«object.__ne__» ⟨[.ref x, b], []⟩) Q E s := by
  unfold Builtin.«object.__ne__»
  repeat (first
    | with_reducible refine wpAny_cRoomFor hu ?_
    | (refine wpAny_bind (m := callSpecialIfBound? (.ref x) (Str.ofString "__eq__") [b])
        (ifBound_K X I hs hf (wpAny_mono h (fun r s' hr => by
          obtain ⟨c, rfl, hq⟩ := hr
          repeat (first | exact hq | exact wpAny_pure hq | exact wpAny_truthy_bool hq | (refine wpAny_bind (m := truthy (.bool _)) (wpAny_truthy_bool ?_)) | wp_step)) fun _ _ z => z)))
    | wp_step)
theorem cmp_ne {Q : Value → Shared → Prop} (hu : A.units + 1 < cLine) (F0 : Fr h₀ L s.heap m) (X₀ : K.In h₀) (I : InstAt s.heap x ox C od) (hb : Looks (model prog w) s.heap (typeOf b) (.ref C))
    (hn : findIn K (.ref C) "__ne__" = some (some (.builtin "object.__ne__"))) (hm : mroIn K C (.type "object") = some true)
    (hs : findIn K (.ref C) "__eq__" = some (some (.ref f))) (hf : isFn K (.ref f) = true)
    (h : wpAny (model prog w) A.in1 (call (.ref f) [.ref x, b]) (fun v s' => ∃ c, v = .bool c ∧ Q (.bool (!c)) s') E s) : wpAny (model prog w) A (richCompare .NotEq (.ref x) b) Q E s := by
  have X := X₀.keeps F0.keep
  have one : wpAny (model prog w) A (tryCompare (.ref x) "__ne__" b) (fun r s' => ∃ v, r = some v ∧ Q v s') E s := by
    unfold tryCompare
    refine wpAny_bind (ne_bound X I hn (wpAny_call (codeAny_call_builtin F.cmp_object.ne.plain F.cmpEntry_ne ?_)))
    refine check_slot F.cmpKind_ne F.cmpSplit_ne ?_ (F.cmpArgs_ne _ _) ?_
    · exact I.type.andThen (looks_mroIn X hm)
    · refine obj_ne (A := A.in1) X hu I hs hf (wpAny_mono h (fun v s' hv => ?_) fun _ _ z => z)
      obtain ⟨c, rfl, hq⟩ := hv
      exact ⟨c, rfl, wpAny_pure ⟨_, rfl, hq⟩⟩
  unfold richCompare
  simp only [oneThing_ref]
  refine wpAny_holding (wpAny_bind (wpAny_cRoomFor (Nat.lt_of_succ_lt hu) ?_))
  rw [cmpInfo_NotEq]
  dsimp only
  refine wpAny_bind (I.type.here (wpAny_bind (hb.here ?_)))
  rw [show (Value.ref C != Value.ref C) = false from by simp]
  simp only [Bool.false_eq_true, if_false]
  refine wpAny_bind (wpAny_pure ?_)
  simp only [Bool.false_eq_true, if_false]
  refine wpAny_bind (wpAny_mono one (fun r s' z => ?_) fun _ _ z => z)
  obtain ⟨v, rfl, hq⟩ := z
  exact wpAny_pure hq
end
section
variable {X : Cx} {CX : CXT} {n : Nat} {C f : Addr} {fd : FuncData} {ps : List Str} {sp : Sp} {E : XK}
/-- x != y, instances of the class at C, by the text's own == -/
def rNeI (C : Addr) (sp : Sp) (E : XK) : R2 := fun x y H Q => ∃ a b dx dy fs gs, x = .ref a ∧ y = .ref b ∧ H a = some (.ins C dx fs) ∧ H b = some (.ins C dy gs) ∧ sp [.ref a, .ref b] H (fun v H' => ∃ c, v = .bl c ∧ Q (.bl (!c)) H') E
def rEqI (C : Addr) (sp : Sp) (E : XK) : R2 := fun x y H Q => ∃ a b dx dy fs gs, x = .ref a ∧ y = .ref b ∧ H a = some (.ins C dx fs) ∧ H b = some (.ins C dy gs) ∧ sp [.ref a, .ref b] H (fun v H' => ∃ c, v = .bl c ∧ Q (.bl c) H') E
theorem op_neI (G : FnOk X.prog X.w X.K X.mg X.base CX n f fd ps sp) (hr : Room (n + 1) X.A) (hn : findIn X.K (.ref C) "__ne__" = some (some (.builtin "object.__ne__"))) (hm : mroIn X.K C (.type "object") = some true)
    (hs : findIn X.K (.ref C) "__eq__" = some (some (.ref f))) (hf : isFn X.K (.ref f) = true) (hb : Binds X.K fd ps []) (hx : Passes CX X E) : OpR X (compareOp .NotEq) (rNeI C sp E) := by
  intro pins s σ H x y v u Q I rx ry hq
  obtain ⟨a, b, dx, dy, fs, gs, rfl, rfl, ha, hb', q⟩ := hq
  cases rx
  cases ry
  obtain ⟨mA, J, _⟩ := ins_get I.hok ha
  obtain ⟨mB, J', _⟩ := ins_get I.hok hb'
  obtain ⟨od, J, _⟩ := J.look
  obtain ⟨od', J', _⟩ := J'.look
  obtain ⟨m, hF⟩ := I.fr
  show wpAny (model X.prog X.w) X.A (richCompare .NotEq (.ref a) (.ref b)) (EP X pins σ Q) X.xe s
  refine cmp_ne (by have := hr.un; omega) hF I.ok.mod.kin J J'.type hn hm hs hf ?_
  have hl := G.len _ _ _ _ q
  have r2 : Vals [V.ref a, V.ref b] [Value.ref a, Value.ref b] := .cons rfl (.cons rfl .nil)
  refine wpAny_call (codeAny_mono (G.run X.A.in1 X.stack s H ⟨[.ref a, .ref b], []⟩ [.ref a, .ref b] [.ref a, .ref b] _ E hr.in1 I.env0.in1 (by simpa using hb s [.ref a, .ref b] I.kIn (by simpa using hl)) r2 q) fun r s' hq => ?_)
  cases r with
  | error e => exact hx pins σ H s e s' I hq
  | ok fl =>
    cases fl with
    | ret w =>
      obtain ⟨z, H', I', rz, c, ez, ex⟩ := I.after hq
      subst ez
      cases rz
      exact ⟨c, rfl, .bl (!c), H', I', rfl, ex⟩
    | next => exact False.elim hq
    | brk => exact False.elim hq
    | cont => exact False.elim hq
theorem op_eqI (G : FnOk X.prog X.w X.K X.mg X.base CX n f fd ps sp) (hr : Room n X.A)
    (hs : findIn X.K (.ref C) "__eq__" = some (some (.ref f))) (hf : isFn X.K (.ref f) = true) (hb : Binds X.K fd ps []) (hx : Passes CX X E) : OpR X (compareOp .Eq) (rEqI C sp E) := by
  intro pins s σ H x y v u Q I rx ry hq
  obtain ⟨a, b, dx, dy, fs, gs, rfl, rfl, ha, hb', q⟩ := hq
  cases rx
  cases ry
  obtain ⟨mA, J, _⟩ := ins_get I.hok ha
  obtain ⟨mB, J', _⟩ := ins_get I.hok hb'
  obtain ⟨od, J, _⟩ := J.look
  obtain ⟨od', J', _⟩ := J'.look
  obtain ⟨m, hF⟩ := I.fr
  show wpAny (model X.prog X.w) X.A (richCompare .Eq (.ref a) (.ref b)) (EP X pins σ Q) X.xe s
  refine PySem.W.cmp_K (op := .Eq) (tb := .ref C) hr.units0 hF I.ok.mod.kin J J'.type (by simp [PySem.W.notFirst]) hs hf ?_
  have hl := G.len _ _ _ _ q
  have r2 : Vals [V.ref a, V.ref b] [Value.ref a, Value.ref b] := .cons rfl (.cons rfl .nil)
  refine wpAny_call (codeAny_mono (G.run X.A X.stack s H ⟨[.ref a, .ref b], []⟩ [.ref a, .ref b] [.ref a, .ref b] _ E hr I.env0 (by simpa using hb s [.ref a, .ref b] I.kIn (by simpa using hl)) r2 q) fun r s' hq => ?_)
  cases r with
  | error e => exact hx pins σ H s e s' I hq
  | ok fl =>
    cases fl with
    | ret w =>
      obtain ⟨z, H', I', rz, c, ez, ex⟩ := I.after hq
      subst ez
      cases rz
      exact ⟨.bl c, H', I', rfl, ex⟩
    | next => exact False.elim hq
    | brk => exact False.elim hq
    | cont => exact False.elim hq
end
end RV
set_option maxHeartbeats 4000000
/-! set(xs) of tuples of ints, xs of any length, where few of them are unlike -/
namespace RV
open PySem PySem.Spec PyProof.Rows L2
/-- fewer than 63 unlike ones -/
def FewUnlike (ks : List (Addr × List Int)) : Prop := ∀ L : List (Addr × List Int), (L.map (·.2)).Nodup → (∀ p ∈ L, p ∈ ks) → L.length + 1 < 64
abbrev noneYet (w : World) : Obj := { cls := .type "set", dict := none, data := .set #[] 0 (.fresh 0 0 (!w.params.followText "set-order")) }
section
variable {P : Program} {w : World} {A : Around} {E : Value → Shared → Prop} {s : Shared}
theorem setN_loop {R : Result → Shared → Prop} (hh : A.in1.handled = none) (S l it : Addr) (hSl : S ≠ l) (hSi : S ≠ it) (hli : l ≠ it) (items : Array Value) (ks : List (Addr × List Int)) (few : FewUnlike ks)
    (refs : ∀ (i : Nat) (p : Addr × List Int), ks[i]? = some p → items[i]? = some (Value.ref p.1)) (size : items.size = ks.length) (old : Heap) (tups : ∀ p ∈ ks, IsT P w old p.2 p.1) (o1 : old.get? S = none) (o2 : old.get? it = none) (hu : A.in1.units < cLine) :
    ∀ (k i : Nat) (s : Shared), ks.length - i = k → i ≤ ks.length → s.heap.IsListIter it l i → s.heap.IsList l items → (∀ b o, old.get? b = some o → s.heap.get? b = some o) → (∃ L es ep t, SetTR P w s.heap S L es ep t ∧ Got ks i L) →
      (∀ h' tk L es ep t, SetTR P w h' S L es ep t → Got ks ks.length L → (∀ b o, old.get? b = some o → h'.get? b = some o) → R (.ok (.ret .none)) { s with heap := h', toks := tk }) →
      codeAny (model P w) A (.builtin "set.update.loop" ⟨[.ref S, .ref it], []⟩) R s
  | 0, i, s, hk, hi, hit, hl, keep, ⟨L, es, ep, t, hS, got⟩, fin => by
    obtain rfl : i = ks.length := by omega
    refine codeAny_builtin F.entry_set_update_loop ?_
    rw [Around.under_plainId F.plain_set_update_loop _]
    show wpAny _ A.in1 (pyNext (.ref it) >>= _) _ _ s
    refine wpAny_bind (wpAny_pyNext_list_end hh hit hl (by simp [size]) fun h' ext => ?_)
    have keep' : ∀ b o, old.get? b = some o → h'.get? b = some o := fun b o e => ext b o (fun z => by rw [z, o2] at e; cases e) (keep b o e)
    exact wpAny_pure (fin h' s.toks L es ep t (hS.keep (fun o e => ext S o hSi e) fun p hp => isT_keep (tups p (List.mem_of_mem_take (got.sub p hp))) keep') got keep')
  | k + 1, i, s, hk, hi, hit, hl, keep, ⟨L, es, ep, t, hS, got⟩, fin => by
    obtain ⟨p, hp⟩ : ∃ p, ks[i]? = some p := ⟨_, List.getElem?_eq_getElem (by omega)⟩
    refine codeAny_builtin F.entry_set_update_loop ?_
    rw [Around.under_plainId F.plain_set_update_loop _]
    show wpAny _ A.in1 (pyNext (.ref it) >>= _) _ _ s
    refine wpAny_bind (wpAny_pyNext_list_item hit hl (refs i p hp) fun h1 hit1 sb1 => ?_)
    have keep1 : ∀ b o, old.get? b = some o → h1.get? b = some o := fun b o e => (sb1.2 b fun z => by rw [z, o2] at e; cases e).trans (keep b o e)
    have inKs : ∀ q ∈ L, q ∈ ks := fun q hq => List.mem_of_mem_take (got.sub q hq)
    have hS1 : SetTR P w h1 S L es ep t := hS.keep (fun o e => (sb1.2 S hSi).trans e) fun q hq => isT_keep (tups q (inKs q hq)) keep1
    have hT : IsT P w h1 p.2 p.1 := isT_keep (tups p (List.mem_of_getElem? hp)) keep1
    show wpAny _ A.in1 (holding [Value.ref p.1] (setAdd S (.ref p.1)) >>= _) _ _ _
    refine wpAny_bind (wpAny_holding ?_)
    unfold setAdd
    refine wpAny_holding (wpAny_bind (wpAny_pyHash_tuple hu hT ?_))
    refine add_at (s := { s with heap := h1, toks := s.toks + (p.2.length + 1) }) hS1 hT hu (few L hS1.nd inKs) fun b h2 L2 es2 ep2 t2 sb2 hS2 yes no => ?_
    have got2 : Got ks (i + 1) L2 := by
      by_cases c : p.2 ∈ L.map (·.2)
      · rw [yes c]; exact got.same hp c
      · exact got.more hp (no c)
    have keep2 : ∀ b o, old.get? b = some o → h2.get? b = some o := fun b o e => (sb2.2 b fun z => by rw [z, o1] at e; cases e).trans (keep1 b o e)
    refine wpAny_pure ⟨plainId_quiet F.plain_set_update_loop _, setN_loop hh S l it hSl hSi hli items ks few refs size old tups o1 o2 hu k (i + 1) _ (by omega) (by omega)
      (hit1.at fun o e => (sb2.2 it (Ne.symm hSi)).trans e) ((hl.at fun o e => (sb1.2 l hli).trans e).at fun o e => (sb2.2 l (Ne.symm hSl)).trans e) keep2 ⟨L2, es2, ep2, t2, hS2, got2⟩ fun h' tk L' es' ep' t' z1 z2 z3 => ?_⟩
    exact fin h' tk L' es' ep' t' z1 z2 z3
set_option maxHeartbeats 8000000 in
theorem call_setN {l : Addr} {items : Array Value} (ks : List (Addr × List Int)) {Q : Value → Shared → Prop} (hh : A.handled = none) (hl : s.heap.IsList l items) (refs : items.toList = ks.map fun p => Value.ref p.1)
    (tups : ∀ p ∈ ks, IsT P w s.heap p.2 p.1) (few : FewUnlike ks) (hu : A.units + 3 < cLine)
    (k : ∀ (h' : Heap) (tk : Nat) L es ep t, SetTR P w h' s.heap.objs.size L es ep t → Got ks ks.length L → (∀ b o, s.heap.get? b = some o → h'.get? b = some o) → Q (.ref s.heap.objs.size) { s with heap := h', toks := tk }) :
    wpAny (model P w) A (call (.type "set") [.ref l]) Q E s := by
  have size : items.size = ks.length := by simpa using congrArg List.length refs
  have refs' : ∀ (i : Nat) (p : Addr × List Int), ks[i]? = some p → items[i]? = some (Value.ref p.1) := fun i p e => by
    rw [← Array.getElem?_toList, refs, List.getElem?_map, e]; rfl
  obtain ⟨c, tl, hm⟩ := F.called_set.mro
  have a1 := F.called_set.made
  have a2 := F.called_set.sub
  have a3 := F.called_set.notType
  have a4 := F.called_set.canCreate
  have a5 := F.typeCall_set_1 (.ref l)
  refine wpAny_call (codeAny_of_tree ?_)
  show wpAny _ _ (callAny (.type "set") _) _ _ _
  refine wpAny_pure ⟨Code.quiet_builtin _ (by decide +kernel), codeAny_builtin F.entry_type_call ?_⟩
  rw [Around.under_plain (weight_type_call_type "set" [.ref l] []) rfl]
  repeat (any_goals (first | assumption | wp_step))
  refine codeAny_mono (code_set_led1 (.ref l) (E := E) (Q₁ := fun obj s₁ => obj = .ref s.heap.objs.size ∧ s₁ = { s with heap := s.heap.push (noneYet w) }) ⟨rfl, rfl⟩) fun r s₁ hr => ?_
  match r, hr with
  | .error e, hr => exact hr
  | .ok .next, hr => exact hr.elim
  | .ok .brk, hr => exact hr.elim
  | .ok .cont, hr => exact hr.elim
  | .ok (.ret obj), hr =>
    obtain ⟨rfl, rfl⟩ := hr
    have hS : (s.heap.push (noneYet w)).get? s.heap.objs.size = some (noneYet w) := Heap.get?_push_size _ rfl
    have hT : Shared.TypeIs { s with heap := s.heap.push (noneYet w) } (.ref s.heap.objs.size) "set" := ⟨_, hS, rfl⟩
    have b1 := F.called_set.init.lookup
    have b2 := F.called_set.init.bind (.ref s.heap.objs.size)
    repeat (any_goals (first | assumption | wp_step))
    refine codeAny_mono (codeAny_call_builtin (R := wants (fun r s₂ => r = .none ∧ ∃ h' tk L es ep t, s₂ = { s with heap := h', toks := tk } ∧ SetTR P w h' s.heap.objs.size L es ep t ∧ Got ks ks.length L ∧
        (∀ b o, s.heap.get? b = some o → h'.get? b = some o)) E) F.called_set.init.plain F.entry_set_init (check_set_init_1 hT ?_)) fun r₂ s₂ hr₂ => ?_
    · obtain ⟨⟨oc, od, dt, os⟩, g1, g2, nl, g3⟩ := hl
      simp only at g2 g3
      subst g2 g3
      have g4 : (s.heap.push (noneYet w)).get? l = some { cls := .type "list", dict := od, data := .seq items nl, slots := os } := Heap.get?_push_of_some _ g1
      have c1 := F.sub_list_set
      have c2 := F.sub_list_frozenset
      have c3 : (Value.type "list" == Value.type "dict") = false := by decide
      have isl : (s.heap.push (noneYet w)).IsList l items := ⟨_, g4, rfl, nl, rfl⟩
      unfold Builtin.«set.__init__» noKeywords Builtin.Frozenset.updateFrom
      generalize hpi : pyIter = pI
      wp_walk
      subst hpi
      refine wpAny_pyIter_list isl (wpAny_bind (wpAny_runValue ?_))
      have lt : l < s.heap.objs.size := Heap.lt_size g1
      have z1 : (s.heap.push (noneYet w)).objs.size = s.heap.objs.size + 1 := Heap.size_push ..
      have none1 : ∀ b, s.heap.objs.size ≤ b → s.heap.get? b = none := fun b hb => by
        cases q : s.heap.get? b with
        | none => rfl
        | some o => exact absurd (Nat.lt_of_lt_of_le (Heap.lt_size q) hb) (Nat.lt_irrefl _)
      refine setN_loop (A := A.in1.in1) (by simp [hh]) s.heap.objs.size l (s.heap.push (noneYet w)).objs.size (Nat.ne_of_gt lt) (by rw [z1]; exact Nat.ne_of_lt (Nat.lt_succ_self _)) (by rw [z1]; exact Nat.ne_of_lt (Nat.lt_succ_of_lt lt)) items ks few refs' size s.heap tups (none1 _ (Nat.le_refl _)) (none1 _ (by rw [z1]; exact Nat.le_succ _)) hu (ks.length - 0) 0 _ rfl (Nat.zero_le _)
        ⟨_, Heap.get?_push_size _ rfl, rfl, rfl⟩ (isl.push _) (fun b o e => Heap.get?_push_of_some _ (Heap.get?_push_of_some _ e)) ⟨[], #[], 0, _, setTR_fresh (Heap.get?_push_of_some _ hS), Got.zero ks⟩ fun h' tk L es ep t q1 q2 q3 => ?_
      show wpAny _ _ _ _ _ _
      refine wpAny_pure ?_
      show wpAny _ _ (ret Value.none) _ _ _
      exact wpAny_pure ⟨rfl, h', tk, L, es, ep, t, rfl, q1, q2, q3⟩
    · match r₂, hr₂ with
      | .error e, hr₂ => exact hr₂
      | .ok .next, hr₂ => exact hr₂.elim
      | .ok .brk, hr₂ => exact hr₂.elim
      | .ok .cont, hr₂ => exact hr₂.elim
      | .ok (.ret r), hr₂ =>
        obtain ⟨rfl, h', tk, L, es, ep, t, rfl, q1, q2, q3⟩ := hr₂
        repeat (any_goals (first | assumption | wp_step))
        exact k _ _ _ _ _ _ q1 q2 q3
end
section
variable {X : Cx}
def rSetN (K : PySem.W.Frag) (P : Program) (w : World) : List V → Hp → VK → Prop := fun xs H Q => ∃ (l : Addr) (ks : List (Addr × List Int)), xs = [V.ref l] ∧ SqL K H l (ks.map fun p => V.ref p.1) ∧ (∀ p ∈ ks, SqT K H p.1 (p.2.map V.int)) ∧ FewUnlike ks ∧
  ∀ a L, H a = none → (∀ p ∈ L, p ∈ ks) → (∀ p ∈ ks, p.2 ∈ L.map (·.2)) → Q (.ref a) (upd H a (SetTO P w a L))
theorem cr_setN (hc : X.calm = true) (hu : X.A.units + 64 < cLine) : CallR X (.type "set") (rSetN X.K X.prog X.w) := by
  intro pins s σ H xs us Q I r h
  obtain ⟨l, ks, rfl, hl, hk, few, q⟩ := h
  rw [Vals.ref1 r]
  obtain ⟨its, rv, pl, hz⟩ := I.list hl
  refine call_setN ks (I.ok.hd hc) pl.isList (by simpa using refs_of_vals rv) (fun p hp => I.isT (hk p hp)) few (by omega) fun h' tk L es ep t R g kp => ?_
  refine ⟨.ref s.heap.objs.size, upd H s.heap.objs.size (SetTO X.prog X.w s.heap.objs.size L), I.laid (t' := tk) kp (Nat.le_refl _) (setTO_new R.t0), rfl, ?_⟩
  exact q _ L (I.hok.fresh (Nat.le_refl _)) (fun p hp => List.mem_of_mem_take (g.sub p hp)) fun p hp => g.all p (by rw [List.take_length]; exact hp)
end
end RV
set_option maxHeartbeats 4000000
namespace RV
open PySem PySem.Spec PyProof.Rows L2
/-! ### heaps -/
theorem same_upd {H : Hp} {p : Addr} {o : HO} (h : H p = none) : Same H (upd H p o) := fun b x e => by
  rw [upd_ne (ne_of_none e h)]
  exact e
theorem sqT_same {K : PySem.W.Frag} {H H' : Hp} {a : Addr} {xs : List V} (e : Same H H') (h : SqT K H a xs) : SqT K H' a xs := SqT.ext h e
theorem sqL_same {K : PySem.W.Frag} {H H' : Hp} {a : Addr} {xs : List V} (e : Same H H') (h : SqL K H a xs) : SqL K H' a xs := SqL.ext h e
theorem tyT {K : PySem.W.Frag} {H : Hp} {a : Addr} {xs : List V} (h : SqT K H a xs) : TyX K H (.ref a) (.type "tuple") := by
  rcases h with (h | ⟨o, h⟩) | ⟨o, its, n, h1, h2, _⟩
  · exact .base (.tup h)
  · exact .fTuple h
  · exact .kTuple h1 h2
theorem tupNew {K : PySem.W.Frag} {H : Hp} {a : Addr} {xs : List V} (h : H a = some (.tup xs)) : SqT K H a xs := .inl (.inl h)
theorem lstNew {K : PySem.W.Frag} {H : Hp} {a : Addr} {xs : List V} (h : H a = some (.lst xs)) : SqL K H a xs := .inl (.inl h)
theorem walk_enT {K : PySem.W.Frag} {a : Addr} {xs : List V} : Walk (IteT K a) xs.length (fun H => SqT K H a xs) (YPair (fun i => some (.int (i : Nat))) (fun i => xs[i]?)) := by
  refine ⟨fun i _ hi q => ⟨xs, xs[i], q, by simp [hi]⟩, fun _ q => ⟨xs, q, Nat.le_refl _⟩, fun i H v H' _ q y => ?_⟩
  obtain ⟨T, x, h1, h2, h3, h4⟩ := y
  exact ⟨T, .int (i : Nat), x, h1, h2, h3, rfl, h4 xs q⟩
theorem walk_zipT {K : PySem.W.Frag} {a b : Addr} {xs ys : List V} {n : Nat} (hn : n = min xs.length ys.length) : Walk (RZ.ItzT K a b) n (fun H => SqT K H a xs ∧ SqT K H b ys) (YPair (fun i => xs[i]?) (fun i => ys[i]?)) := by
  subst hn
  refine ⟨fun i _ hi q => ⟨xs, ys, xs[i]'(by omega), ys[i]'(by omega), q.1, q.2, List.getElem?_eq_getElem _, List.getElem?_eq_getElem _⟩, fun _ q => ⟨xs, ys, q.1, q.2, by omega⟩, fun i H v H' _ q y => ?_⟩
  obtain ⟨T, x, z, h1, h2, h3, h4, h5⟩ := y
  exact ⟨T, x, z, h1, h2, h3, h4 xs q.1, h5 ys q.2⟩
/-- a tuple of tuples of ints -/
def Tups (K : PySem.W.Frag) (H : Hp) (a : Addr) (ps : List (List Int)) : Prop := ∃ ks : List (Addr × List Int), ks.map (·.2) = ps ∧ SqT K H a (ks.map fun p => V.ref p.1) ∧ ∀ p ∈ ks, SqT K H p.1 (p.2.map V.int)
/-- a list of tuples of ints -/
def Lots (K : PySem.W.Frag) (H : Hp) (a : Addr) (ps : List (List Int)) : Prop := ∃ ks : List (Addr × List Int), ks.map (·.2) = ps ∧ SqL K H a (ks.map fun p => V.ref p.1) ∧ ∀ p ∈ ks, SqT K H p.1 (p.2.map V.int)
theorem Tups.same {K : PySem.W.Frag} {H H' : Hp} {a : Addr} {ps : List (List Int)} (h : Tups K H a ps) (e : Same H H') : Tups K H' a ps :=
  let ⟨ks, h1, h2, h3⟩ := h; ⟨ks, h1, sqT_same e h2, fun p hp => sqT_same e (h3 p hp)⟩
theorem Lots.same {K : PySem.W.Frag} {H H' : Hp} {a : Addr} {ps : List (List Int)} (h : Lots K H a ps) (e : Same H H') : Lots K H' a ps :=
  let ⟨ks, h1, h2, h3⟩ := h; ⟨ks, h1, sqL_same e h2, fun p hp => sqT_same e (h3 p hp)⟩
theorem dpInts {K : PySem.W.Frag} {H : Hp} : ∀ ns : List Int, DpAll K H (ns.map V.int) (ns.map PyData.int)
  | [] => .nil
  | n :: r => .cons (.int n) (dpInts r)
def dI (ns : List Int) : PyData := .tuple (ns.map PyData.int)
def dTT (ps : List (List Int)) : PyData := .tuple (ps.map dI)
theorem dpT {K : PySem.W.Frag} {H : Hp} {a : Addr} {ns : List Int} (h : SqT K H a (ns.map V.int)) : Dp K H (.ref a) (dI ns) := .tup h (dpInts ns)
theorem dpTs {K : PySem.W.Frag} {H : Hp} : ∀ ks : List (Addr × List Int), (∀ p ∈ ks, SqT K H p.1 (p.2.map V.int)) → DpAll K H (ks.map fun p => V.ref p.1) ((ks.map (·.2)).map dI)
  | [], _ => .nil
  | p :: r, h => .cons (dpT (h p (List.mem_cons_self ..))) (dpTs r fun q hq => h q (List.mem_cons_of_mem _ hq))
theorem Tups.dp {K : PySem.W.Frag} {H : Hp} {a : Addr} {ps : List (List Int)} (h : Tups K H a ps) : Dp K H (.ref a) (dTT ps) := by
  obtain ⟨ks, rfl, h2, h3⟩ := h
  exact .tup h2 (dpTs ks h3)
theorem map_at {α β : Type} {f : α → β} {l : List α} {i : Nat} {y : β} (h : (l.map f)[i]? = some y) : ∃ x, l[i]? = some x ∧ y = f x := by
  rw [List.getElem?_map] at h
  cases e : l[i]? with
  | none => rw [e] at h; cases h
  | some x => rw [e] at h; exact ⟨x, rfl, (Option.some.inj h).symm⟩
theorem all_true : ∀ n : Nat, (List.replicate n true).all id = true
  | 0 => rfl
  | n + 1 => by rw [List.replicate_succ, List.all_cons, all_true n]; rfl
theorem rep_bl (n : Nat) : List.replicate n (V.bl true) = (List.replicate n true).map V.bl := by rw [List.map_replicate]
theorem rep_next {α : Type} (n : Nat) (x : α) : List.replicate n x ++ [x] = List.replicate (n + 1) x := by rw [List.replicate_succ', ]
theorem tt_yes {σ : L2.St} {H : Hp} {A B : Hp → Prop} (h : A H) : tYes σ H (fun b H3 => if b = true then A H3 else B H3) := iteT (A := A H) (B := B H) h
theorem un65 {k : Nat} {A : Around} (r : Room k A) : A.units + 65 < cLine := by have := r.un; omega
theorem few1 {n : Nat} (h : n ≤ 1000) : n < sizeLine := small1000 h
/-! ### data of ints, tuples of these -/
theorem lay_ints : ∀ ns : List Int, PyData.canLayAll0 (ns.map PyData.int) = true
  | [] => by simp [PyData.canLayAll0]
  | n :: r => by simp [PyData.canLayAll0, PyData.canLay0, lay_ints r]
theorem dep_ints : ∀ ns : List Int, PyData.depthAll (ns.map PyData.int) = 0
  | [] => by simp [PyData.depthAll]
  | n :: r => by simp [PyData.depthAll, PyData.depth, dep_ints r]
theorem dI_lay (ns : List Int) : (dI ns).canLay0 = true := by simp only [dI, PyData.canLay0]; exact lay_ints ns
theorem dI_dep (ns : List Int) : (dI ns).depth = 1 := by simp only [dI, PyData.depth, dep_ints]
theorem lay_dI : ∀ ps : List (List Int), PyData.canLayAll0 (ps.map dI) = true
  | [] => by simp [PyData.canLayAll0]
  | n :: r => by simp [PyData.canLayAll0, dI_lay, lay_dI r]
theorem dep_dI : ∀ ps : List (List Int), PyData.depthAll (ps.map dI) ≤ 1
  | [] => by simp [PyData.depthAll]
  | n :: r => by
    have h := dep_dI r
    simp only [List.map_cons, PyData.depthAll, dI_dep]
    omega
theorem shapedI (ns : List Int) : SeqAt.shaped (dI ns) = true := by
  show ((dI ns).canLay0 && decide ((dI ns).depth ≤ 64)) = true
  rw [dI_lay, dI_dep]; rfl
theorem shapedTT (ps : List (List Int)) : SeqAt.shaped (dTT ps) = true := by
  have h := dep_dI ps
  have e : (dTT ps).depth ≤ 64 := by simp only [dTT, PyData.depth]; omega
  show ((dTT ps).canLay0 && decide ((dTT ps).depth ≤ 64)) = true
  rw [decide_eq_true e, Bool.and_true]
  simp only [dTT, PyData.canLay0]; exact lay_dI ps
theorem eqv_ints : ∀ ns ms : List Int, PyData.eqvAll (ns.map PyData.int) (ms.map PyData.int) = decide (ns = ms)
  | [], [] => by simp [PyData.eqvAll]
  | [], m :: r => by simp [PyData.eqvAll]
  | n :: r, [] => by simp [PyData.eqvAll]
  | n :: r, m :: q => by
    have h := eqv_ints r q
    simp only [List.map_cons, PyData.eqvAll, PyData.eqv, h]
    by_cases e : n = m
    · subst e; by_cases e2 : r = q <;> simp [e2]
    · simp [e]
theorem eqvI (ns ms : List Int) : PyData.eqv (dI ns) (dI ms) = decide (ns = ms) := by simp only [dI, PyData.eqv, eqv_ints]
theorem eqv_dIs : ∀ ns ms : List (List Int), PyData.eqvAll (ns.map dI) (ms.map dI) = decide (ns = ms)
  | [], [] => by simp [PyData.eqvAll]
  | [], m :: r => by simp [PyData.eqvAll]
  | n :: r, [] => by simp [PyData.eqvAll]
  | n :: r, m :: q => by
    have h := eqv_dIs r q
    simp only [List.map_cons, PyData.eqvAll, eqvI, h]
    by_cases e : n = m
    · subst e; by_cases e2 : r = q <;> simp [e2]
    · simp [e]
theorem eqvTT (ns ms : List (List Int)) : PyData.eqv (dTT ns) (dTT ms) = decide (ns = ms) := by simp only [dTT, PyData.eqv, eqv_dIs]
theorem any_dI (p : List Int) : ∀ ps : List (List Int), (ps.map dI).any (fun y => PyData.eqv y (dI p)) = decide (p ∈ ps)
  | [] => rfl
  | q :: r => by
    rw [List.map_cons, List.any_cons, any_dI p r, eqvI]
    by_cases e : q = p
    · subst e; simp
    · have e' : ¬ p = q := fun z => e z.symm
      by_cases e2 : p ∈ r <;> simp [e, e', e2]
section
variable {X : Cx}
/-- t in ts, of tuples of ints -/
def rInTs (K : PySem.W.Frag) : R2 := fun x y H Q => ∃ (a b : Addr) (p : List Int) (ps : List (List Int)), x = .ref a ∧ y = .ref b ∧ SqT K H a (p.map V.int) ∧ Tups K H b ps ∧ Q (.bl (decide (p ∈ ps))) H
theorem op_inTs (hu : X.A.units + 65 < cLine) : OpR X (compareOp .In) (rInTs X.K) := by
  intro pins s σ H x y v u Q I rx ry h
  obtain ⟨a, b, p, ps, rfl, rfl, h1, h2, q⟩ := h
  obtain ⟨as, r1⟩ := Dp.reads I (dI p) (.ref a) v (dpT h1) rx
  obtain ⟨bs, r2⟩ := Dp.reads I (dTT ps) (.ref b) u h2.dp ry
  refine SeqAt.in_tuple_reads (xs := ps.map dI) r2 r1 (lay_dI ps) (dI_lay p) ?_ ⟨.bl _, H, I, rfl, ?_⟩
  · have := Nat.min_le_right (PyData.depthAll (ps.map dI)) (dI p).depth
    have e := dI_dep p
    omega
  · rw [any_dI]; exact q
/-- two tuples of ints, two tuples of tuples of ints compared -/
def rEqI1 (K : PySem.W.Frag) : R2 := fun x y H Q => ∃ (a b : Addr) (p q : List Int), x = .ref a ∧ y = .ref b ∧ SqT K H a (p.map V.int) ∧ SqT K H b (q.map V.int) ∧ Q (.bl (decide (p = q))) H
def rEqTs (K : PySem.W.Frag) : R2 := fun x y H Q => ∃ (a b : Addr) (p q : List (List Int)), x = .ref a ∧ y = .ref b ∧ Tups K H a p ∧ Tups K H b q ∧ Q (.bl (decide (p = q))) H
theorem op_eqI1 (hu : X.A.units + 64 < cLine) : OpR X (compareOp .Eq) (rEqI1 X.K) := by
  intro pins s σ H x y v u Q I rx ry h
  obtain ⟨a, b, p, ps, rfl, rfl, h1, h2, q⟩ := h
  refine op_eqD hu pins s σ H _ _ v u Q I rx ry ⟨dI p, dI ps, dpT h1, dpT h2, shapedI p, shapedI ps, ?_⟩
  rw [eqvI]; exact q
theorem op_eqTs (hu : X.A.units + 64 < cLine) : OpR X (compareOp .Eq) (rEqTs X.K) := by
  intro pins s σ H x y v u Q I rx ry h
  obtain ⟨a, b, p, ps, rfl, rfl, h1, h2, q⟩ := h
  refine op_eqD hu pins s σ H _ _ v u Q I rx ry ⟨dTT p, dTT ps, h1.dp, h2.dp, shapedTT p, shapedTT ps, ?_⟩
  rw [eqvTT]; exact q
end
section
variable {X : Cx} {K : PySem.W.Frag}
/-! the rules whose reading names the written part, for a comprehension's block -/
theorem ix_tupK (h : X.K = K) : IxR X (rIxT K) := h ▸ ix_tup
theorem pg_tupK {es : List Expr} {k : Nat} {t : TGs} {n : Nat} {pos : Pos} (h : X.K = K) (hc : X.calm = true) (hg : PGs X es t)
    (hn : (assignEach es X.env).length = n := by rfl) (hst : (assignEach es X.env).findIdx? (·.1) = none := by rfl) : PG X (.Tuple es k pos) (gTup K n t) := h ▸ pg_tup hc hg hn hst
theorem op_inTsK (h : X.K = K) (hu : X.A.units + 65 < cLine) : OpR X (compareOp .In) (rInTs K) := h ▸ op_inTs hu
theorem op_ltTK (h : X.K = K) (hu : X.A.units < cLine) : OpR X (compareOp .Lt) (rLtT K) := h ▸ op_ltT hu
def rLenS (K : PySem.W.Frag) : List V → Hp → VK → Prop := fun xs H Q => ∃ p ys, xs = [.ref p] ∧ (SqL K H p ys ∨ SqT K H p ys) ∧ Q (.int ys.length) H
theorem call_lenK (h : X.K = K) : CallR X (.builtin "len") (rLenS K) := h ▸ call_len_seq
end
end RV
set_option maxHeartbeats 4000000
/-! numbers and words written as texts -/
namespace RV
open PySem PySem.Spec PyProof.Rows L2 TL
/-- the text of a number -/
def num (n : Nat) : Str := Str.ofString (toString ((n : Nat) : Int))
theorem tl_nm (n : Nat) : tl (num n) = numL n := tl_num n
theorem num_of {x : Int} (h : 0 ≤ x) : (V.str (toString x)) = V.str (num x.toNat) := by
  have e : x = ((x.toNat : Nat) : Int) := by omega
  rw [e]
  rfl
theorem num_one {n : Nat} (h : n < 10) : tl (num n) = [48 + n] := by rw [tl_nm, numL_lt h]
theorem num_pos (n : Nat) : 0 < (num n).length := by
  rw [len_tl, tl_nm]
  exact List.length_pos_iff.mpr (numL_ne n)
theorem num_len {n : Nat} (h : n < 10 ^ 30) : (num n).length ≤ 30 := by
  rw [len_tl, tl_nm]
  exact numL_len (by decide) h
theorem num_two {n : Nat} (h : 1 < (num n).length) : 10 ≤ n := by
  rw [len_tl, tl_nm] at h
  by_cases e : n < 10
  · rw [numL_lt e] at h; simp at h
  · omega
theorem numL_head : ∀ (n : Nat), 1 ≤ n → ∃ c r, numL n = c :: r ∧ c ≠ 48 := by
  intro n
  induction n using Nat.strongRecOn with
  | _ n ih =>
    intro h
    by_cases e : n < 10
    · rw [numL_lt e]
      exact ⟨48 + n, [], rfl, by omega⟩
    · obtain ⟨c, r, e1, e2⟩ := ih (n / 10) (by omega) (by omega)
      rw [numL_step (by omega), e1]
      exact ⟨c, r ++ [48 + n % 10], rfl, e2⟩
theorem num_log {n : Nat} (h : n < 10 ^ 30) : ((n : Nat) : Int).natAbs.log2 < 1920 := by
  show n.log2 < 1920
  by_cases e : n = 0
  · subst e; decide
  · rw [Nat.log2_lt e]
    exact Nat.lt_of_lt_of_le h (by decide)
theorem num_int {n : Nat} (h : n < 10 ^ 30) : PySem.intText? (num n) = some (n : Int) := by
  refine int_num ?_
  have := num_len h
  rw [len_tl, tl_nm] at this
  omega
theorem num_sign {n c : Nat} (h : c ∈ tl (num n)) : c ∈ tl (Str.ofString "0123456789") := by
  rw [tl_nm] at h
  have hc := numL_digits n c h
  have e : tl (Str.ofString "0123456789") = [48, 49, 50, 51, 52, 53, 54, 55, 56, 57] := by rw [tl_ofString]; decide
  rw [e]
  have h0 : 48 ≤ c := hc.1
  have h1 : c ≤ 57 := hc.2
  have : c = 48 ∨ c = 49 ∨ c = 50 ∨ c = 51 ∨ c = 52 ∨ c = 53 ∨ c = 54 ∨ c = 55 ∨ c = 56 ∨ c = 57 := by omega
  simp only [List.mem_cons, List.mem_nil_iff, or_false, List.not_mem_nil]
  exact this
theorem num_free {n s : Nat} (h : s < 48 ∨ 57 < s) : s ∉ tl (num n) := by rw [tl_nm]; exact numL_free h
theorem num_inj {m n : Nat} (h : num m = num n) : m = n := numL_inj (by rw [← tl_nm, ← tl_nm, h])
/-! ### words put together -/
theorem joinL_len (S : List Nat) : ∀ l : List (List Nat), (joinL S l).length ≤ (l.map List.length).sum + l.length * S.length
  | [] => by simp [joinL]
  | [p] => by simp [joinL]
  | p :: q :: r => by
    have h := joinL_len S (q :: r)
    have e : joinL S (p :: q :: r) = p ++ (S ++ joinL S (q :: r)) := rfl
    rw [e, List.length_append, List.length_append]
    simp only [List.map_cons, List.sum_cons, List.length_cons, Nat.add_mul, Nat.one_mul] at h ⊢
    omega
theorem join_len (y : Str) (l : List Str) : (Str.join y l).length ≤ (l.map (·.length)).sum + l.length * y.length := by
  have h := joinL_len (tl y) (l.map tl)
  rw [len_tl, tl_join]
  rw [List.map_map, List.length_map] at h
  have e : List.map (List.length ∘ tl) l = l.map (·.length) := List.map_congr_left fun x _ => (len_tl x).symm
  rw [e, ← len_tl] at h
  exact h
theorem sum_le {l : List Str} {k : Nat} (h : ∀ x ∈ l, x.length ≤ k) : (l.map (·.length)).sum ≤ l.length * k := by
  induction l with
  | nil => simp
  | cons a r ih =>
    have h1 := h a (List.mem_cons_self ..)
    have h2 := ih fun x hx => h x (List.mem_cons_of_mem _ hx)
    simp only [List.map_cons, List.sum_cons, List.length_cons, Nat.add_mul, Nat.one_mul]
    omega
theorem join_short {y : Str} {l : List Str} {k m : Nat} (h : ∀ x ∈ l, x.length ≤ k) (hm : l.length ≤ m) : (Str.join y l).length ≤ m * (k + y.length) := by
  have h1 := join_len y l
  have h2 := sum_le h
  have h3 : l.length * k + l.length * y.length = l.length * (k + y.length) := by rw [Nat.mul_add]
  have h4 : l.length * (k + y.length) ≤ m * (k + y.length) := Nat.mul_le_mul_right _ hm
  omega
theorem join_room {y : Str} {l : List Str} {k m : Nat} (h : ∀ x ∈ l, x.length ≤ k) (hm : l.length ≤ m) (hz : m * (k + y.length) ≤ 16777216) : (l.map (·.length)).sum + l.length * y.length ≤ 16777216 := by
  have h2 := sum_le h
  have h3 : l.length * k + l.length * y.length = l.length * (k + y.length) := by rw [Nat.mul_add]
  have h4 : l.length * (k + y.length) ≤ m * (k + y.length) := Nat.mul_le_mul_right _ hm
  omega
/-- a row of a word and numbers -/
def rowW (w : Str) (p : List Int) : List Str := w :: p.map fun x => num x.toNat
def sp1 : Str := Str.ofString " "
def nl1 : Str := Str.ofString "\n"
theorem tl_sp : tl sp1 = [32] := by unfold sp1; rw [tl_ofString]; decide
theorem tl_nl : tl nl1 = [10] := by unfold nl1; rw [tl_ofString]; decide
theorem row3 (w : Str) (x y : Int) : tl (Str.join sp1 (rowW w [x, y])) = tl w ++ (32 :: (numL x.toNat ++ (32 :: numL y.toNat))) := by
  rw [tl_join, tl_sp]
  show joinL [32] [tl w, tl (num x.toNat), tl (num y.toNat)] = _
  rw [tl_nm, tl_nm]
  rfl
theorem row2 (w : Str) (n : Nat) : tl (Str.join sp1 [w, num n]) = tl w ++ (32 :: numL n) := by
  rw [tl_join, tl_sp]
  show joinL [32] [tl w, tl (num n)] = _
  rw [tl_nm]
  rfl
theorem mem_joinL {s : Nat} {S : List Nat} (hS : s ∉ S) : ∀ l : List (List Nat), (∀ p ∈ l, s ∉ p) → s ∉ joinL S l
  | [], _ => by simp [joinL]
  | [p], h => h p (List.mem_cons_self ..)
  | p :: q :: r, h => by
    have h1 := mem_joinL hS (q :: r) fun x hx => h x (List.mem_cons_of_mem _ hx)
    have h2 := h p (List.mem_cons_self ..)
    have e : joinL S (p :: q :: r) = p ++ (S ++ joinL S (q :: r)) := rfl
    rw [e, List.mem_append, List.mem_append]
    rintro (z | z | z)
    · exact h2 z
    · exact hS z
    · exact h1 z
theorem mem_join {s : Nat} {y : Str} {l : List Str} (hS : s ∉ tl y) (h : ∀ x ∈ l, s ∉ tl x) : s ∉ tl (Str.join y l) := by
  rw [tl_join]
  refine mem_joinL hS _ fun p hp => ?_
  obtain ⟨x, hx, rfl⟩ := List.mem_map.mp hp
  exact h x hx
end RV
set_option maxHeartbeats 4000000
namespace RV
open PySem PySem.Spec PyProof.Rows L2
theorem nx_step {i : Nat} {v : V} {σ : L2.St} {H : Hp} {G : L2.St → Hp → Prop} (h : G (σ.set i (some v)) H) : gName i v σ H G := h
theorem seq_mid {t1 t2 : TS} {D : Ends} {σ : L2.St} {H : Hp} (J : L2.St → Hp → Prop) (h2 : ∀ σ H, J σ H → t2 D σ H) (h1 : (∀ σ H, J σ H → t2 D σ H) → tSeq t1 t2 D σ H) : tSeq t1 t2 D σ H := h1 h2
section
variable {X : Cx} {K : PySem.W.Frag}
theorem op_notInDK (h : X.K = K) (hu : X.A.units + 65 < cLine) : OpR X (compareOp .NotIn) (rNotInD K) := h ▸ op_notInD hu
theorem pe_backTK {e : Expr} {te : TE} {k : Nat} {p1 p2 p3 pos : Pos} (h : X.K = K) (he : PE X e te) : PE X (.Subscript e (.Slice none none (some (.UnaryOp .USub (.Constant (.int 1) k p1) p2)) p3) pos) (tBackT K te) := h ▸ pe_backT he
end
section
variable {X : Cx} {K : PySem.W.Frag}
theorem op_inDK (h : X.K = K) (hu : X.A.units + 65 < cLine) : OpR X (compareOp .In) (rInD K) := h ▸ op_inD hu
theorem ix_listK (h : X.K = K) : IxR X (rIxL K) := h ▸ ix_list
end
theorem take_filt {α : Type} {c : α → Bool} {ks : List α} {k : α} {i : Nat} (g : ks[i]? = some k) : (ks.take (i + 1)).filter c = (ks.take i).filter c ++ (if c k = true then [k] else []) := by
  rw [List.take_add_one, g]
  show (ks.take i ++ [k]).filter c = _
  rw [List.filter_append]
  by_cases e : c k = true
  · rw [if_pos e]; simp [e]
  · rw [if_neg e]; simp [e]
section
variable {K : PySem.W.Frag} {tt : TT} {te : TE} {f : Int → Bool} {σ : L2.St} {H1 : Hp} {a D : Addr} {v : Nat} {ns : List Int} {Qd : Hp → Prop}
/-- [x for x in t if ..], t a tuple of ints -/
theorem lc_filtT (hT : SqT K H1 a (ns.map V.int)) (hl : ns.length ≤ 1000) (nD : H1 D = none)
    (htest : ∀ x ∈ ns, ∀ H', Same H1 H' → ∀ A B : Hp → Prop, (∀ H2, Same H' H2 → if f x = true then A H2 else B H2) → tt ((wipe σ [v]).set v (some (.int x))) H' (fun b H3 => if b = true then A H3 else B H3))
    (hte : ∀ (x : Int) (H' : Hp) (Q : VK), Q (.int x) H' → te ((wipe σ [v]).set v (some (.int x))) H' Q)
    (hd : ∀ H', Same H1 H' → H' D = some (.lst ((ns.filter f).map V.int)) → Qd H') :
    ∃ W : Nat → Nat → Hp → Prop, (∃ m, W 0 m (upd H1 D (.lst []))) ∧ ∀ i m H, W i m H →
      ((Itt K a).stop i H ∧ Qd H) ∨ ((Itt K a).go i H ∧ ∃ Nx : Hp → Prop, (∀ H', Nx H' → ∃ m', m' < m ∧ W (i + 1) m' H') ∧ ∀ x H', (Itt K a).yld i H x H' → gName v x (wipe σ [v]) H' fun σ2 H2 => wipe σ2 [v] = wipe σ [v] ∧ tt σ2 H2 fun b H3 =>
        if b = true then te σ2 H3 fun y H4 => ∃ acc, H4 D = some (.lst acc) ∧ acc.length < sizeLine ∧ Nx (upd H4 D (.lst (acc ++ [y]))) else Nx H3) := by
  refine lc_tup (K := K) (a := a) (xs := ns.map V.int) (fun i H' => Same H1 H' ∧ H' D = some (.lst (((ns.take i).filter f).map V.int))) ⟨same_upd nD, upd_same⟩ (fun i H' _ p => sqT_same p.1 hT) (fun i x H' hx p => ?_) fun H' p => ?_
  · obtain ⟨k, g, rfl⟩ := map_at hx
    refine ⟨by simp [wipe, List.set_set], htest k (List.mem_of_getElem? g) H' p.1 _ _ fun H2 s2 => ?_⟩
    have s12 := p.1.trans s2
    have e2 := s2 _ _ p.2
    by_cases e : f k = true
    · rw [if_pos e]
      refine hte k H2 _ ⟨_, e2, ?_, fun b o z => ?_, ?_⟩
      · rw [List.length_map]
        exact few1 (Nat.le_trans (List.length_filter_le _ _) (by rw [List.length_take]; omega))
      · rw [upd_ne (ne_of_none z nD)]; exact s12 b o z
      · rw [upd_same, take_filt g, if_pos e, List.map_append]; rfl
    · rw [if_neg e]
      exact ⟨s12, by rw [take_filt g, if_neg e, List.append_nil]; exact e2⟩
  · rw [List.length_map, List.take_of_length_le (Nat.le_refl _)] at p
    exact hd H' p.1 p.2
/-- [x for x in l if ..], l a list of ints -/
theorem lc_filtL (hT : SqL K H1 a (ns.map V.int)) (hl : ns.length ≤ 1000) (nD : H1 D = none)
    (htest : ∀ x ∈ ns, ∀ H', Same H1 H' → ∀ A B : Hp → Prop, (∀ H2, Same H' H2 → if f x = true then A H2 else B H2) → tt ((wipe σ [v]).set v (some (.int x))) H' (fun b H3 => if b = true then A H3 else B H3))
    (hte : ∀ (x : Int) (H' : Hp) (Q : VK), Q (.int x) H' → te ((wipe σ [v]).set v (some (.int x))) H' Q)
    (hd : ∀ H', Same H1 H' → H' D = some (.lst ((ns.filter f).map V.int)) → Qd H') :
    ∃ W : Nat → Nat → Hp → Prop, (∃ m, W 0 m (upd H1 D (.lst []))) ∧ ∀ i m H, W i m H →
      ((Itl K a).stop i H ∧ Qd H) ∨ ((Itl K a).go i H ∧ ∃ Nx : Hp → Prop, (∀ H', Nx H' → ∃ m', m' < m ∧ W (i + 1) m' H') ∧ ∀ x H', (Itl K a).yld i H x H' → gName v x (wipe σ [v]) H' fun σ2 H2 => wipe σ2 [v] = wipe σ [v] ∧ tt σ2 H2 fun b H3 =>
        if b = true then te σ2 H3 fun y H4 => ∃ acc, H4 D = some (.lst acc) ∧ acc.length < sizeLine ∧ Nx (upd H4 D (.lst (acc ++ [y]))) else Nx H3) := by
  refine lc_list (K := K) (a := a) (xs := ns.map V.int) (fun i H' => Same H1 H' ∧ H' D = some (.lst (((ns.take i).filter f).map V.int))) ⟨same_upd nD, upd_same⟩ (fun i H' _ p => sqL_same p.1 hT) (fun i x H' hx p => ?_) fun H' p => ?_
  · obtain ⟨k, g, rfl⟩ := map_at hx
    refine ⟨by simp [wipe, List.set_set], htest k (List.mem_of_getElem? g) H' p.1 _ _ fun H2 s2 => ?_⟩
    have s12 := p.1.trans s2
    have e2 := s2 _ _ p.2
    by_cases e : f k = true
    · rw [if_pos e]
      refine hte k H2 _ ⟨_, e2, ?_, fun b o z => ?_, ?_⟩
      · rw [List.length_map]
        exact few1 (Nat.le_trans (List.length_filter_le _ _) (by rw [List.length_take]; omega))
      · rw [upd_ne (ne_of_none z nD)]; exact s12 b o z
      · rw [upd_same, take_filt g, if_pos e, List.map_append]; rfl
    · rw [if_neg e]
      exact ⟨s12, by rw [take_filt g, if_neg e, List.append_nil]; exact e2⟩
  · rw [List.length_map, List.take_of_length_le (Nat.le_refl _)] at p
    exact hd H' p.1 p.2
end
/-! ### x in l, of ints -/
theorem dpL {K : PySem.W.Frag} {H : Hp} {a : Addr} {ns : List Int} (h : SqL K H a (ns.map V.int)) : Dp K H (.ref a) (.list (ns.map PyData.int)) := .lst h (dpInts ns)
theorem shapedLI (ns : List Int) : SeqAt.shaped (.list (ns.map PyData.int)) = true := by
  have h1 : (PyData.list (ns.map PyData.int)).canLay0 = true := by simp only [PyData.canLay0]; exact lay_ints ns
  have h2 : (PyData.list (ns.map PyData.int)).depth ≤ 64 := by simp only [PyData.depth, dep_ints]; omega
  show ((PyData.list (ns.map PyData.int)).canLay0 && decide ((PyData.list (ns.map PyData.int)).depth ≤ 64)) = true
  rw [h1, decide_eq_true h2]; rfl
theorem shapedN (n : Int) : SeqAt.shaped (.int n) = true := by
  show ((PyData.int n).canLay0 && decide ((PyData.int n).depth ≤ 64)) = true
  simp [PyData.canLay0, PyData.depth]
theorem any_int (x : Int) : ∀ ns : List Int, (ns.map PyData.int).any (fun y => PyData.eqv y (.int x)) = decide (x ∈ ns)
  | [] => rfl
  | n :: r => by
    rw [List.map_cons, List.any_cons, any_int x r]
    by_cases e : x = n
    · subst e; simp [PyData.eqv]
    · have e' : ¬ n = x := fun z => e z.symm
      by_cases e2 : x ∈ r <;> simp [PyData.eqv, e, e', e2]
section
variable {X : Cx}
/-- n in t, t a tuple of ints -/
def rInTI (K : PySem.W.Frag) : R2 := fun x y H Q => ∃ (b : Addr) (n : Int) (ns : List Int), x = .int n ∧ y = .ref b ∧ SqT K H b (ns.map V.int) ∧ Q (.bl (decide (n ∈ ns))) H
theorem op_inTI (hu : X.A.units + 65 < cLine) : OpR X (compareOp .In) (rInTI X.K) := by
  intro pins s σ H x y v u Q I rx ry h
  obtain ⟨b, n, ns, rfl, rfl, h2, q⟩ := h
  obtain ⟨as, r1⟩ := Dp.reads I (.int n) (.int n) v (.int n) rx
  obtain ⟨bs, r2⟩ := Dp.reads I (dI ns) (.ref b) u (dpT h2) ry
  refine SeqAt.in_tuple_reads (xs := ns.map PyData.int) r2 r1 (lay_ints ns) (by simp [PyData.canLay0]) ?_ ⟨.bl _, H, I, rfl, ?_⟩
  · have := Nat.min_le_right (PyData.depthAll (ns.map PyData.int)) (PyData.int n).depth
    have e : (PyData.int n).depth = 0 := by simp [PyData.depth]
    omega
  · rw [any_int]; exact q
theorem op_inTIK {K : PySem.W.Frag} (h : X.K = K) (hu : X.A.units + 65 < cLine) : OpR X (compareOp .In) (rInTI K) := h ▸ op_inTI hu
end
end RV
namespace RV
open PySem L2
/-! ### lists that rise -/
theorem sorted_eq {α : Type} {f : α → Int} : ∀ {l l' : List α}, l.Pairwise (fun a b => f a < f b) → l'.Pairwise (fun a b => f a < f b) → (∀ x, x ∈ l ↔ x ∈ l') → l = l'
  | [], [], _, _, _ => rfl
  | [], y :: r, _, _, h => nomatch (h y).mpr (List.mem_cons_self ..)
  | x :: r, [], _, _, h => nomatch (h x).mp (List.mem_cons_self ..)
  | x :: l, y :: l', h1, h2, h => by
    rw [List.pairwise_cons] at h1 h2
    have exy : x = y := by
      rcases List.mem_cons.mp ((h x).mp (List.mem_cons_self ..)) with e | e
      · exact e
      · rcases List.mem_cons.mp ((h y).mpr (List.mem_cons_self ..)) with e' | e'
        · exact e'.symm
        · have := h2.1 x e
          have := h1.1 y e'
          omega
    subst exy
    rw [sorted_eq h1.2 h2.2 fun z => ⟨fun hz => ?_, fun hz => ?_⟩]
    · rcases List.mem_cons.mp ((h z).mp (List.mem_cons_of_mem _ hz)) with e | e
      · have := h1.1 z hz
        rw [e] at this; omega
      · exact e
    · rcases List.mem_cons.mp ((h z).mpr (List.mem_cons_of_mem _ hz)) with e | e
      · have := h2.1 z hz
        rw [e] at this; omega
      · exact e
theorem nodup_le {α : Type} [DecidableEq α] : ∀ {l us : List α}, l.Nodup → (∀ x ∈ l, x ∈ us) → l.length ≤ us.length
  | [], _, _, _ => Nat.zero_le _
  | x :: l, us, h, hs => by
    rw [List.nodup_cons] at h
    have hx := hs x (List.mem_cons_self ..)
    have ih : l.length ≤ (us.erase x).length := nodup_le h.2 fun z hz => by
      refine (List.mem_erase_of_ne fun e => ?_).mpr (hs z (List.mem_cons_of_mem _ hz))
      subst e; exact h.1 hz
    have hl := List.length_erase_of_mem hx
    have hp : 0 < us.length := List.length_pos_of_mem hx
    rw [List.length_cons]; omega
/-! ### pairs -/
/-- a pair of marks below b -/
def Pr (b : Int) (p : List Int) : Prop := ∃ x y : Int, p = [x, y] ∧ (0 ≤ x ∧ x < b) ∧ (0 ≤ y ∧ y < b)
abbrev cd (p : List Int) : Int := TS.code 64 p
theorem cd_pair (x y : Int) : cd [x, y] = x * 64 + y := code_pair x y
theorem lt_lex {p q : List Int} (hp : Pr 64 p) (hq : Pr 64 q) (h : cd p < cd q) : HT.lexLt p q = true := by
  obtain ⟨x, y, rfl, hx, hy⟩ := hp
  obtain ⟨x', y', rfl, hx', hy'⟩ := hq
  rw [cd_pair, cd_pair] at h
  rw [HT.lexLt_cons, HT.lexLt_cons, HT.lexLt_nil_nil]
  by_cases e : x = x'
  · rw [if_pos e]
    have : y < y' := by omega
    rw [if_neg (by omega)]; exact decide_eq_true this
  · rw [if_neg e]; exact decide_eq_true (by omega)
theorem lt_of {p q : List Int} (hp : Pr 64 p) (hq : Pr 64 q) (h : cd p ≤ cd q) (ne : p ≠ q) : cd p < cd q := by
  obtain ⟨x, y, rfl, hx, hy⟩ := hp
  obtain ⟨x', y', rfl, hx', hy'⟩ := hq
  have z := pair_lt h ne hx hy hx' hy'
  rw [cd_pair, cd_pair]
  omega
theorem Pr.mono {b c : Int} {p : List Int} (h : Pr b p) (hbc : b ≤ c) : Pr c p := by
  obtain ⟨x, y, e, hx, hy⟩ := h
  exact ⟨x, y, e, by omega, by omega⟩
theorem sorted_lt {l : List (List Int)} (hb : ∀ p ∈ l, Pr 64 p) (nd : l.Nodup) (h : l.Pairwise fun p q => cd p ≤ cd q) : l.Pairwise fun p q => cd p < cd q := by
  have h2 := List.Pairwise.and h nd
  exact List.Pairwise.imp_of_mem (fun {p q} hp hq z => lt_of (hb p hp) (hb q hq) z.1 z.2) h2
theorem adj_rise {l : List (List Int)} (hb : ∀ p ∈ l, Pr 64 p) (h : l.Pairwise fun p q => cd p < cd q) (i : Nat) (p q : List Int) (h1 : l[i]? = some p) (h2 : l[i + 1]? = some q) : HT.lexLt p q = true := by
  obtain ⟨l1, e1⟩ := List.getElem?_eq_some_iff.mp h1
  obtain ⟨l2, e2⟩ := List.getElem?_eq_some_iff.mp h2
  have := List.pairwise_iff_getElem.mp h i (i + 1) l1 l2 (Nat.lt_succ_self _)
  rw [e1, e2] at this
  exact lt_lex (hb p (List.mem_of_getElem? h1)) (hb q (List.mem_of_getElem? h2)) this
/-! ### all pairs, row by row -/
def rowOf (d : Int) (Pd : Int → Int → Bool) (i n : Nat) : List (List Int) := ((List.range n).filter fun (j : Nat) => Pd (i : Int) (j : Int)).map fun (j : Nat) => [d + (i : Int), d + (j : Int)]
def gridOf (d : Int) (Pd : Int → Int → Bool) (m n : Nat) : List (List Int) := (List.range n).flatMap fun (i : Nat) => rowOf d Pd i m
theorem row_next (d : Int) (Pd : Int → Int → Bool) (i n : Nat) : rowOf d Pd i (n + 1) = rowOf d Pd i n ++ (if Pd (i : Int) (n : Int) = true then [[d + (i : Int), d + (n : Int)]] else []) := by
  unfold rowOf
  rw [List.range_succ, List.filter_append, List.map_append]
  by_cases h : Pd (i : Int) (n : Int) = true <;> simp [h]
theorem grid_next (d : Int) (Pd : Int → Int → Bool) (m n : Nat) : gridOf d Pd m (n + 1) = gridOf d Pd m n ++ rowOf d Pd n m := by
  unfold gridOf
  rw [List.range_succ, List.flatMap_append]; simp
theorem row_len (d : Int) (Pd : Int → Int → Bool) (i n : Nat) : (rowOf d Pd i n).length ≤ n := by
  unfold rowOf
  rw [List.length_map]
  exact Nat.le_trans (List.length_filter_le _ _) (by rw [List.length_range]; exact Nat.le_refl _)
theorem grid_len (d : Int) (Pd : Int → Int → Bool) (m : Nat) : ∀ n, (gridOf d Pd m n).length ≤ n * m
  | 0 => by simp [gridOf]
  | n + 1 => by
    have h := grid_len d Pd m n
    have h2 := row_len d Pd n m
    rw [grid_next, List.length_append, Nat.succ_mul]; omega
theorem mem_row {d : Int} {Pd : Int → Int → Bool} {i n : Nat} {p : List Int} : p ∈ rowOf d Pd i n ↔ ∃ j : Nat, j < n ∧ Pd (i : Int) (j : Int) = true ∧ p = [d + (i : Int), d + (j : Int)] := by
  unfold rowOf
  rw [List.mem_map]
  constructor
  · rintro ⟨j, hj, e⟩
    rw [List.mem_filter, List.mem_range] at hj
    exact ⟨j, hj.1, hj.2, e.symm⟩
  · rintro ⟨j, h1, h2, e⟩
    exact ⟨j, List.mem_filter.mpr ⟨List.mem_range.mpr h1, h2⟩, e.symm⟩
theorem mem_grid {d : Int} {Pd : Int → Int → Bool} {m n : Nat} {p : List Int} : p ∈ gridOf d Pd m n ↔ ∃ i j : Nat, i < n ∧ j < m ∧ Pd (i : Int) (j : Int) = true ∧ p = [d + (i : Int), d + (j : Int)] := by
  unfold gridOf
  rw [List.mem_flatMap]
  constructor
  · rintro ⟨i, hi, hp⟩
    obtain ⟨j, h1, h2, h3⟩ := mem_row.mp hp
    exact ⟨i, j, List.mem_range.mp hi, h1, h2, h3⟩
  · rintro ⟨i, j, h1, h2, h3, h4⟩
    exact ⟨i, List.mem_range.mpr h1, mem_row.mpr ⟨j, h2, h3, h4⟩⟩
theorem grid_rise {d : Int} {Pd : Int → Int → Bool} {m n : Nat} (hd : 0 ≤ d) (hm : d + (m : Int) ≤ 64) : (gridOf d Pd m n).Pairwise fun p q => cd p < cd q := by
  unfold gridOf
  rw [List.pairwise_flatMap]
  refine ⟨fun i _ => ?_, ?_⟩
  · unfold rowOf
    rw [List.pairwise_map]
    refine List.Pairwise.imp (fun {a b} (h : a < b) => ?_) (List.Pairwise.filter _ List.pairwise_lt_range)
    rw [cd_pair, cd_pair]; omega
  · refine List.Pairwise.imp (fun {a b} (h : a < b) x hx y hy => ?_) List.pairwise_lt_range
    obtain ⟨j, h1, _, rfl⟩ := mem_row.mp hx
    obtain ⟨k, h2, _, rfl⟩ := mem_row.mp hy
    rw [cd_pair, cd_pair]; omega
theorem grid_pr {d : Int} {Pd : Int → Int → Bool} {m n : Nat} {b : Int} (hd : 0 ≤ d) (hm : d + (m : Int) ≤ b) (hn : d + (n : Int) ≤ b) : ∀ p ∈ gridOf d Pd m n, Pr b p := by
  intro p hp
  obtain ⟨i, j, h1, h2, _, rfl⟩ := mem_grid.mp hp
  exact ⟨_, _, rfl, by omega, by omega⟩
end RV
namespace RV
open PySem L2
/-! ### who comes to whom by one step or more -/
inductive Rch (ps : List (List Int)) : Int → Int → Prop where
  | one {i j : Int} : [i, j] ∈ ps → Rch ps i j
  | more {i j k : Int} : Rch ps i j → [j, k] ∈ ps → Rch ps i k
theorem Rch.trans {ps : List (List Int)} {i j k : Int} (h : Rch ps i j) (g : Rch ps j k) : Rch ps i k := by
  induction g with
  | one e => exact .more h e
  | more _ e ih => exact .more ih e
theorem Rch.bound {ps : List (List Int)} {n : Int} (hb : ∀ p ∈ ps, Pr n p) {i j : Int} (h : Rch ps i j) : (0 ≤ i ∧ i < n) ∧ (0 ≤ j ∧ j < n) := by
  induction h with
  | one e =>
    obtain ⟨x, y, e2, hx, hy⟩ := hb _ e
    injection e2 with e3 e4
    injection e4 with e4 _
    subst e3 e4
    exact ⟨hx, hy⟩
  | more _ e ih =>
    obtain ⟨x, y, e2, hx, hy⟩ := hb _ e
    injection e2 with e3 e4
    injection e4 with e4 _
    subst e3 e4
    exact ⟨ih.1, hy⟩
/-- a lot that holds all right behind m and is closed -/
theorem rch_closed {ps : List (List Int)} {m : Int} {fs : List Int} (h1 : ∀ j, [m, j] ∈ ps → j ∈ fs) (h2 : ∀ x ∈ fs, ∀ j, [x, j] ∈ ps → j ∈ fs) {j : Int} (h : Rch ps m j) : j ∈ fs := by
  induction h with
  | one e => exact h1 _ e
  | more _ e ih => exact h2 _ ih _ e
noncomputable def rB (ps : List (List Int)) (i j : Int) : Bool := @decide (Rch ps i j) (Classical.propDecidable _)
theorem rB_iff {ps : List (List Int)} {i j : Int} : rB ps i j = true ↔ Rch ps i j := by
  unfold rB
  exact @decide_eq_true_iff _ (Classical.propDecidable _)
/-! ### numbers below n -/
def upN (n : Nat) : List Int := (List.range n).map fun (i : Nat) => (i : Int)
theorem upN_get {n k : Nat} (h : k < n) : (upN n)[k]? = some (k : Int) := by
  unfold upN
  rw [List.getElem?_map, List.getElem?_range h]; rfl
theorem upN_len (n : Nat) : (upN n).length = n := by unfold upN; rw [List.length_map, List.length_range]
theorem mem_upN {n : Nat} {x : Int} : x ∈ upN n ↔ 0 ≤ x ∧ x < (n : Int) := by
  unfold upN
  rw [List.mem_map]
  constructor
  · rintro ⟨k, hk, rfl⟩
    have := List.mem_range.mp hk
    omega
  · rintro ⟨h0, h1⟩
    exact ⟨x.toNat, List.mem_range.mpr (by omega), by omega⟩
theorem upN_rise (n : Nat) : (upN n).Pairwise (· < ·) := by
  unfold upN
  rw [List.pairwise_map]
  exact List.Pairwise.imp (fun {a b} (h : a < b) => by omega) List.pairwise_lt_range
/-! ### the lot of a mark -/
noncomputable def lotOf (ps : List (List Int)) (n : Nat) (m : Int) : List Int := (upN n).filter fun j => rB ps m j && rB ps j m
theorem mem_lot {ps : List (List Int)} {n : Nat} {m j : Int} : j ∈ lotOf ps n m ↔ (0 ≤ j ∧ j < (n : Int)) ∧ Rch ps m j ∧ Rch ps j m := by
  unfold lotOf
  rw [List.mem_filter, mem_upN, Bool.and_eq_true, rB_iff, rB_iff]
theorem lot_rise (ps : List (List Int)) (n : Nat) (m : Int) : (lotOf ps n m).Pairwise (· < ·) := (upN_rise n).filter _
theorem lot_len (ps : List (List Int)) (n : Nat) (m : Int) : (lotOf ps n m).length ≤ n := by
  have := List.length_filter_le (fun j => rB ps m j && rB ps j m) (upN n)
  rw [upN_len] at this
  exact this
theorem lot_eq {ps : List (List Int)} {n : Nat} {m j : Int} (h : j ∈ lotOf ps n m) : lotOf ps n j = lotOf ps n m := by
  obtain ⟨_, h1, h2⟩ := mem_lot.mp h
  unfold lotOf
  refine List.filter_congr fun x _ => ?_
  rw [Bool.eq_iff_iff, Bool.and_eq_true, Bool.and_eq_true, rB_iff, rB_iff, rB_iff, rB_iff]
  exact ⟨fun ⟨a, b⟩ => ⟨h1.trans a, b.trans h2⟩, fun ⟨a, b⟩ => ⟨h2.trans a, b.trans h1⟩⟩
theorem lot_self {ps : List (List Int)} {n : Nat} {m : Int} (hm : 0 ≤ m ∧ m < (n : Int)) (h : Rch ps m m) : m ∈ lotOf ps n m := mem_lot.mpr ⟨hm, h, h⟩
theorem lot_none {ps : List (List Int)} {n : Nat} {m : Int} (h : ¬ Rch ps m m) : lotOf ps n m = [] := by
  refine List.eq_nil_iff_forall_not_mem.mpr fun j hj => ?_
  obtain ⟨_, h1, h2⟩ := mem_lot.mp hj
  exact h (h1.trans h2)
theorem lot_some {ps : List (List Int)} {n : Nat} {m j : Int} (h : j ∈ lotOf ps n m) : Rch ps m m := by
  obtain ⟨_, h1, h2⟩ := mem_lot.mp h
  exact h1.trans h2
/-! ### the parts -/
noncomputable def isHead (ps : List (List Int)) (n : Nat) (m : Int) : Bool := decide ((lotOf ps n m).head? = some m)
noncomputable def partsOf (ps : List (List Int)) (n : Nat) : List (List Int) := ((upN n).filter (isHead ps n)).map (lotOf ps n)
theorem mem_parts {ps : List (List Int)} {n : Nat} {p : List Int} : p ∈ partsOf ps n ↔ ∃ m : Int, (0 ≤ m ∧ m < (n : Int)) ∧ (lotOf ps n m).head? = some m ∧ p = lotOf ps n m := by
  unfold partsOf isHead
  rw [List.mem_map]
  constructor
  · rintro ⟨m, hm, rfl⟩
    obtain ⟨h1, h2⟩ := List.mem_filter.mp hm
    exact ⟨m, mem_upN.mp h1, of_decide_eq_true h2, rfl⟩
  · rintro ⟨m, h1, h2, rfl⟩
    exact ⟨m, List.mem_filter.mpr ⟨mem_upN.mpr h1, decide_eq_true h2⟩, rfl⟩
theorem lot_part {ps : List (List Int)} {n : Nat} {m j : Int} (h : j ∈ lotOf ps n m) : lotOf ps n m ∈ partsOf ps n := by
  cases e : lotOf ps n m with
  | nil => rw [e] at h; cases h
  | cons x r =>
    have hx : x ∈ lotOf ps n m := by rw [e]; exact List.mem_cons_self ..
    have ex := lot_eq hx
    refine mem_parts.mpr ⟨x, (mem_lot.mp hx).1, ?_, ?_⟩
    · rw [ex, e]; rfl
    · rw [ex, e]
theorem part_ne {ps : List (List Int)} {n : Nat} {p : List Int} (h : p ∈ partsOf ps n) : p ≠ [] := by
  obtain ⟨m, _, h2, rfl⟩ := mem_parts.mp h
  intro e
  rw [e] at h2; cases h2
theorem part_lot {ps : List (List Int)} {n : Nat} {p : List Int} {x : Int} (h : p ∈ partsOf ps n) (hx : x ∈ p) : lotOf ps n x = p := by
  obtain ⟨m, _, _, rfl⟩ := mem_parts.mp h
  exact lot_eq hx
def hd0 (l : List Int) : Int := l.headD 0
theorem parts_rise (ps : List (List Int)) (n : Nat) : (partsOf ps n).Pairwise fun p q => hd0 p < hd0 q := by
  unfold partsOf
  rw [List.pairwise_map]
  refine List.Pairwise.imp_of_mem (fun {a b} ha hb (h : a < b) => ?_) ((upN_rise n).filter _)
  have ea : (lotOf ps n a).head? = some a := of_decide_eq_true (List.mem_filter.mp ha).2
  have eb : (lotOf ps n b).head? = some b := of_decide_eq_true (List.mem_filter.mp hb).2
  unfold hd0
  rw [List.headD_eq_head?_getD, List.headD_eq_head?_getD, ea, eb]
  exact h
theorem parts_nodup (ps : List (List Int)) (n : Nat) : (partsOf ps n).Nodup := (parts_rise ps n).imp fun {a b} h e => by rw [e] at h; omega
theorem parts_len (ps : List (List Int)) (n : Nat) : (partsOf ps n).length ≤ n := by
  unfold partsOf
  rw [List.length_map]
  have := List.length_filter_le (isHead ps n) (upN n)
  rw [upN_len] at this
  exact this
/-- of two lots unlike heads tell which is ahead -/
theorem part_hd {ps : List (List Int)} {n : Nat} {p q : List Int} (hp : p ∈ partsOf ps n) (hq : q ∈ partsOf ps n) (h : hd0 p = hd0 q) : p = q := by
  obtain ⟨a, _, ea, rfl⟩ := mem_parts.mp hp
  obtain ⟨b, _, eb, rfl⟩ := mem_parts.mp hq
  unfold hd0 at h
  rw [List.headD_eq_head?_getD, List.headD_eq_head?_getD, ea, eb] at h
  have h' : a = b := h
  rw [h']
/-! ### the table that is gone on with, mark by mark -/
def Wsh (ps : List (List Int)) : Nat → Int → Int → Prop
  | 0, i, j => [i, j] ∈ ps
  | k + 1, i, j => Wsh ps k i j ∨ (Wsh ps k i (k : Int) ∧ Wsh ps k (k : Int) j)
theorem Wsh.up {ps : List (List Int)} {i j : Int} (h : [i, j] ∈ ps) : ∀ k, Wsh ps k i j
  | 0 => h
  | k + 1 => .inl (Wsh.up h k)
theorem Wsh.rch {ps : List (List Int)} : ∀ {k : Nat} {i j : Int}, Wsh ps k i j → Rch ps i j
  | 0, _, _, h => .one h
  | k + 1, _, _, .inl h => Wsh.rch h
  | k + 1, _, _, .inr h => (Wsh.rch h.1).trans (Wsh.rch h.2)
theorem Wsh.amid {ps : List (List Int)} : ∀ (k : Nat) (m : Nat) (i j : Int), m < k → Wsh ps k i (m : Int) → Wsh ps k (m : Int) j → Wsh ps k i j
  | 0, _, _, _, h, _, _ => absurd h (Nat.not_lt_zero _)
  | k + 1, m, i, j, h, h1, h2 => by
    by_cases e : m = k
    · subst e
      have a1 : Wsh ps m i (m : Int) := h1.elim id fun z => z.1
      have a2 : Wsh ps m (m : Int) j := h2.elim id fun z => z.2
      exact .inr ⟨a1, a2⟩
    · have hm : m < k := by omega
      have T := fun i j => Wsh.amid (ps := ps) k m i j hm
      rcases h1 with h1 | ⟨p1, p2⟩
      · rcases h2 with h2 | ⟨q1, q2⟩
        · exact .inl (T _ _ h1 h2)
        · exact .inr ⟨T _ _ h1 q1, q2⟩
      · rcases h2 with h2 | ⟨q1, q2⟩
        · exact .inr ⟨p1, T _ _ p2 h2⟩
        · exact .inr ⟨p1, q2⟩
theorem rch_wsh {ps : List (List Int)} {n : Nat} (hb : ∀ p ∈ ps, Pr (n : Int) p) {i j : Int} (h : Rch ps i j) : Wsh ps n i j := by
  induction h with
  | one e => exact Wsh.up e n
  | @more j k _ e ih =>
    have b := (Rch.bound hb (.one e)).1
    have ej : j = ((j.toNat : Nat) : Int) := by omega
    rw [ej] at ih e
    exact Wsh.amid n j.toNat _ _ (by omega) ih (Wsh.up e n)
end RV
set_option maxHeartbeats 4000000
namespace RV
open PySem PySem.Spec PyProof.Rows L2
section
variable {K : PySem.W.Frag} {tt : TT} {te : TE} {f : Int → Bool} {σ : L2.St} {H1 : Hp} {D : Addr} {v n : Nat} {Qd : Hp → Prop}
/-- [x for x in range(n) if ..] -/
theorem lc_filtR (hl : n ≤ 1000) (nD : H1 D = none)
    (htest : ∀ x : Int, 0 ≤ x → x < (n : Int) → ∀ H', Same H1 H' → ∀ A B : Hp → Prop, (∀ H2, Same H' H2 → if f x = true then A H2 else B H2) → tt ((wipe σ [v]).set v (some (.int x))) H' (fun b H3 => if b = true then A H3 else B H3))
    (hte : ∀ (x : Int) (H' : Hp) (Q : VK), Q (.int x) H' → te ((wipe σ [v]).set v (some (.int x))) H' Q)
    (hd : ∀ H', Same H1 H' → H' D = some (.lst (((upN n).filter f).map V.int)) → Qd H') :
    ∃ W : Nat → Nat → Hp → Prop, (∃ m, W 0 m (upd H1 D (.lst []))) ∧ ∀ i m H, W i m H →
      ((Itr 0 n).stop i H ∧ Qd H) ∨ ((Itr 0 n).go i H ∧ ∃ Nx : Hp → Prop, (∀ H', Nx H' → ∃ m', m' < m ∧ W (i + 1) m' H') ∧ ∀ x H', (Itr 0 n).yld i H x H' → gName v x (wipe σ [v]) H' fun σ2 H2 => wipe σ2 [v] = wipe σ [v] ∧ tt σ2 H2 fun b H3 =>
        if b = true then te σ2 H3 fun y H4 => ∃ acc, H4 D = some (.lst acc) ∧ acc.length < sizeLine ∧ Nx (upd H4 D (.lst (acc ++ [y]))) else Nx H3) := by
  refine lc_range (lo := 0) (n := n) (fun i H' => Same H1 H' ∧ H' D = some (.lst ((((upN n).take i).filter f).map V.int))) ⟨same_upd nD, upd_same⟩ (fun i H' hi p => ?_) fun H' p => ?_
  · have g : (upN n)[i]? = some (i : Int) := upN_get hi
    rw [Int.zero_add]
    refine ⟨by simp [wipe, List.set_set], htest (i : Int) (by omega) (by omega) H' p.1 _ _ fun H2 s2 => ?_⟩
    have s12 := p.1.trans s2
    have e2 := s2 _ _ p.2
    by_cases e : f (i : Int) = true
    · rw [if_pos e]
      refine hte _ H2 _ ⟨_, e2, ?_, fun b o z => ?_, ?_⟩
      · rw [List.length_map]
        exact few1 (Nat.le_trans (List.length_filter_le _ _) (by rw [List.length_take, upN_len]; omega))
      · rw [upd_ne (ne_of_none z nD)]; exact s12 b o z
      · rw [upd_same, take_filt g, if_pos e, List.map_append]; rfl
    · rw [if_neg e]
      exact ⟨s12, by rw [take_filt g, if_neg e, List.append_nil]; exact e2⟩
  · rw [List.take_of_length_le (by rw [upN_len]; exact Nat.le_refl _)] at p
    exact hd H' p.1 p.2
end
end RV
set_option maxHeartbeats 4000000
namespace RV
open PySem PySem.Spec PyProof.Rows L2
def fromN (lo : Int) (n : Nat) : List Int := (List.range n).map fun (i : Nat) => lo + (i : Int)
theorem fromN_get {lo : Int} {n k : Nat} (h : k < n) : (fromN lo n)[k]? = some (lo + (k : Int)) := by
  unfold fromN
  rw [List.getElem?_map, List.getElem?_range h]; rfl
theorem fromN_len (lo : Int) (n : Nat) : (fromN lo n).length = n := by unfold fromN; rw [List.length_map, List.length_range]
theorem mem_fromN {lo : Int} {n : Nat} {x : Int} : x ∈ fromN lo n ↔ lo ≤ x ∧ x < lo + (n : Int) := by
  unfold fromN
  rw [List.mem_map]
  constructor
  · rintro ⟨k, hk, rfl⟩
    have := List.mem_range.mp hk
    omega
  · rintro ⟨h0, h1⟩
    exact ⟨(x - lo).toNat, List.mem_range.mpr (by omega), by omega⟩
theorem pe_weakR {X : Cx} {e : Expr} {t t' : TE} (h : PE X e t) (imp : ∀ σ H Q, t' σ H Q → t σ H Q) : PE X e t' := ⟨fun pins s σ H Q I q => h.run pins s σ H Q I (imp σ H Q q)⟩
section
variable {X : Cx} {K : PySem.W.Frag}
theorem cr_allK (h : X.K = K) (hc : X.calm = true) : CallR X (.builtin "all") (rAll K) := h ▸ cr_all hc
theorem pi_listK {tg l : Expr} {tl : TE} (h : X.K = K) (hl : PE X l tl) : PI X tg l (iList K tl) := h ▸ pi_list hl
theorem pi_tupK {tg l : Expr} {tl : TE} (h : X.K = K) (hl : PE X l tl) : PI X tg l (iTup K tl) := h ▸ pi_tup hl
end
section
variable {K : PySem.W.Frag} {tt : TT} {te : TE} {f : Int → Bool} {h : Int → Int} {σ : L2.St} {H1 : Hp} {D : Addr} {v n : Nat} {lo : Int} {Qd : Hp → Prop}
/-- [h(x) for x in range(lo, ..) if f(x)] -/
theorem lc_mapR (hl : n ≤ 1000) (nD : H1 D = none)
    (htest : ∀ x ∈ fromN lo n, ∀ H', Same H1 H' → ∀ A B : Hp → Prop, (∀ H2, Same H' H2 → if f x = true then A H2 else B H2) → tt ((wipe σ [v]).set v (some (.int x))) H' (fun b H3 => if b = true then A H3 else B H3))
    (hte : ∀ x ∈ fromN lo n, ∀ (H' : Hp) (Q : VK), Same H1 H' → f x = true → (∀ H2, Same H' H2 → Q (.int (h x)) H2) → te ((wipe σ [v]).set v (some (.int x))) H' Q)
    (hd : ∀ H', Same H1 H' → H' D = some (.lst ((((fromN lo n).filter f).map h).map V.int)) → Qd H') :
    ∃ W : Nat → Nat → Hp → Prop, (∃ m, W 0 m (upd H1 D (.lst []))) ∧ ∀ i m H, W i m H →
      ((Itr lo n).stop i H ∧ Qd H) ∨ ((Itr lo n).go i H ∧ ∃ Nx : Hp → Prop, (∀ H', Nx H' → ∃ m', m' < m ∧ W (i + 1) m' H') ∧ ∀ x H', (Itr lo n).yld i H x H' → gName v x (wipe σ [v]) H' fun σ2 H2 => wipe σ2 [v] = wipe σ [v] ∧ tt σ2 H2 fun b H3 =>
        if b = true then te σ2 H3 fun y H4 => ∃ acc, H4 D = some (.lst acc) ∧ acc.length < sizeLine ∧ Nx (upd H4 D (.lst (acc ++ [y]))) else Nx H3) := by
  refine lc_range (lo := lo) (n := n) (fun i H' => Same H1 H' ∧ H' D = some (.lst (((((fromN lo n).take i).filter f).map h).map V.int))) ⟨same_upd nD, upd_same⟩ (fun i H' hi p => ?_) fun H' p => ?_
  · have g : (fromN lo n)[i]? = some (lo + (i : Int)) := fromN_get hi
    have hm := List.mem_of_getElem? g
    refine ⟨by simp [wipe, List.set_set], htest _ hm H' p.1 _ _ fun H2 s2 => ?_⟩
    have s12 := p.1.trans s2
    have e2 := s2 _ _ p.2
    by_cases e : f (lo + (i : Int)) = true
    · rw [if_pos e]
      refine hte _ hm H2 _ s12 e fun H3 s3 => ⟨_, s3 _ _ e2, ?_, fun b o z => ?_, ?_⟩
      · rw [List.length_map, List.length_map]
        exact few1 (Nat.le_trans (List.length_filter_le _ _) (by rw [List.length_take, fromN_len]; omega))
      · rw [upd_ne (ne_of_none z nD)]; exact s3 _ _ (s12 b o z)
      · rw [upd_same, take_filt g, if_pos e, List.map_append, List.map_append]; rfl
    · rw [if_neg e]
      exact ⟨s12, by rw [take_filt g, if_neg e, List.append_nil]; exact e2⟩
  · rw [List.take_of_length_le (by rw [fromN_len]; exact Nat.le_refl _)] at p
    exact hd H' p.1 p.2
end
/-- [c(x) for x in l] of truths, l a list of ints -/
theorem lc_blL {K : PySem.W.Frag} {te : TE} {c : Int → Bool} {σ : L2.St} {H1 : Hp} {a D : Addr} {v : Nat} {ns : List Int} {Qd : Hp → Prop} (hT : SqL K H1 a (ns.map V.int)) (hl : ns.length ≤ 1000) (nD : H1 D = none)
    (hte : ∀ x ∈ ns, ∀ (H' : Hp) (Q : VK), Same H1 H' → Q (.bl (c x)) H' → te ((wipe σ [v]).set v (some (.int x))) H' Q)
    (hd : ∀ H', Same H1 H' → H' D = some (.lst ((ns.map c).map V.bl)) → Qd H') :
    ∃ W : Nat → Nat → Hp → Prop, (∃ m, W 0 m (upd H1 D (.lst []))) ∧ ∀ i m H, W i m H →
      ((Itl K a).stop i H ∧ Qd H) ∨ ((Itl K a).go i H ∧ ∃ Nx : Hp → Prop, (∀ H', Nx H' → ∃ m', m' < m ∧ W (i + 1) m' H') ∧ ∀ x H', (Itl K a).yld i H x H' → gName v x (wipe σ [v]) H' fun σ2 H2 => wipe σ2 [v] = wipe σ [v] ∧ tYes σ2 H2 fun b H3 =>
        if b = true then te σ2 H3 fun y H4 => ∃ acc, H4 D = some (.lst acc) ∧ acc.length < sizeLine ∧ Nx (upd H4 D (.lst (acc ++ [y]))) else Nx H3) := by
  refine lc_list (K := K) (a := a) (xs := ns.map V.int) (fun i H' => Same H1 H' ∧ H' D = some (.lst (((ns.take i).map c).map V.bl))) ⟨same_upd nD, upd_same⟩ (fun i H' _ p => sqL_same p.1 hT) (fun i x H' hx p => ?_) fun H' p => ?_
  · obtain ⟨k, g, rfl⟩ := map_at hx
    refine ⟨by simp [wipe, List.set_set], tt_yes (hte k (List.mem_of_getElem? g) H' _ p.1 ⟨_, p.2, ?_, fun b o z => ?_, ?_⟩)⟩
    · rw [List.length_map, List.length_map, List.length_take]; exact few1 (by omega)
    · rw [upd_ne (ne_of_none z nD)]; exact p.1 b o z
    · rw [upd_same, List.take_add_one, g, List.map_append, List.map_append]; rfl
  · rw [List.length_map, List.take_of_length_le (Nat.le_refl _)] at p
    exact hd H' p.1 p.2
end RV
set_option maxHeartbeats 4000000
namespace RV
open PySem PySem.Spec PyProof.Rows L2
section
variable {X : Cx} {K : PySem.W.Frag}
/-- t + u of any two tuples, wherever the sum stands -/
def rCatW (K : PySem.W.Frag) : R2 := fun x y H Q => ∃ a b xs ys, x = .ref a ∧ y = .ref b ∧ SqT K H a xs ∧ SqT K H b ys ∧ xs.length + ys.length ≤ sizeLine ∧ ∀ (p : Addr) (H' : Hp), Same H H' → SqT K H' p (xs ++ ys) → Q (.ref p) H'
theorem op_catW : OpR X (binaryOp .Add) (rCatW X.K) := by
  intro pins s σ H x y v u Q I rx ry h
  obtain ⟨a, b, xs, ys, e1, e2, h1, h2, hl, q⟩ := h
  refine op_catA pins s σ H x y v u Q I rx ry ⟨a, b, xs, ys, e1, e2, h1, h2, hl, fun z => ?_, fun _ z => ?_, fun _ _ p np => ?_⟩
  · exact q b H (fun _ _ e => e) (by rw [z]; exact h2)
  · exact q a H (fun _ _ e => e) (by rw [z, List.append_nil]; exact h1)
  · exact q p _ (same_upd np) (tupNew upd_same)
theorem op_catWK (h : X.K = K) : OpR X (binaryOp .Add) (rCatW K) := h ▸ op_catW
/-- t[lo:hi], wherever the slice stands -/
def rSlW (K : PySem.W.Frag) : V → Option Int → Option Int → Hp → VK → Prop := fun x lo hi H Q => ∃ a xs, x = .ref a ∧ SqT K H a xs ∧ ∀ (p : Addr) (H' : Hp), Same H H' → SqT K H' p (cutV xs lo hi) → Q (.ref p) H'
theorem sl_tupW : SlR X (rSlW X.K) := by
  intro pins s σ H x v vl vu lo hi sl Q I rx hs pl pu h
  obtain ⟨a, xs, e, h1, q⟩ := h
  refine sl_tupA pins s σ H x v vl vu lo hi sl Q I rx hs pl pu ⟨a, xs, e, h1, fun z => ?_, fun _ p np => ?_⟩
  · refine q a H (fun _ _ e => e) ?_
    unfold cutV
    rw [z.1, z.2, List.drop_zero, Nat.sub_zero, List.take_of_length_le (Nat.le_refl _)]
    exact h1
  · exact q p _ (same_upd np) (tupNew upd_same)
theorem sl_tupWK (h : X.K = K) : SlR X (rSlW K) := h ▸ sl_tupW
theorem cut_from (xs : List V) (k : Nat) : cutV xs (some (k : Int)) none = xs.drop k := by
  unfold cutV
  rw [HT.sIx_nat, HT.sIx_none]
  rcases Nat.le_total k xs.length with h | h
  · rw [Nat.min_eq_left h, List.take_of_length_le (by rw [List.length_drop]; exact Nat.le_refl _)]
  · rw [Nat.min_eq_right h, Nat.sub_self, List.take_zero, List.drop_eq_nil_of_le h]
theorem cut_to (xs : List V) (k : Nat) : cutV xs none (some (k : Int)) = xs.take k := by
  unfold cutV
  rw [HT.sIx_nat, HT.sIx_none, List.drop_zero, Nat.sub_zero]
  rcases Nat.le_total k xs.length with h | h
  · rw [Nat.min_eq_left h]
  · rw [Nat.min_eq_right h, List.take_of_length_le (Nat.le_refl _), List.take_of_length_le h]
theorem tuple_mul1 (l : Addr) (items : Array Value) (n : Nat) (dd : Option Addr) (sl : Array (Option Value)) (x : Int) (u : Tok) (c0 : (decide (x < -(2 ^ 63)) || decide (x ≥ 2 ^ 63)) = false) (c1 : (items.isEmpty || x == 1) = true) :
    Meets (Builtin.«tuple.__mul__» ⟨[.ref l, .int x u], []⟩) (fun _ R s => s.heap.get? l = some { cls := .type "tuple", dict := dd, data := .seq items n, slots := sl } ∧ R (.ok (.ret (Value.ref l))) s) :=
  .of_wp fun prog w A R s h => by
    obtain ⟨hp, g, d, tk, os⟩ := s
    obtain ⟨hl, h⟩ := h
    have f1 := AutoSeq1.idx_int
    wp_walk using wpAny_loadPart' hl
    repeat (first
      | (refine wpAny_ite_false (decide_eq_false (by rw [c0]; exact Bool.false_ne_true)) ?_; wp_walk using wpAny_loadPart' hl)
      | (refine wpAny_ite_true (decide_eq_true (by rw [c1])) ?_; wp_walk using wpAny_loadPart' hl))
    exact ⟨_, rfl, h⟩
theorem tuple_mul0 (l : Addr) (items : Array Value) (n : Nat) (dd : Option Addr) (sl : Array (Option Value)) (x : Int) (u : Tok) (c0 : (decide (x < -(2 ^ 63)) || decide (x ≥ 2 ^ 63)) = false) (c1 : (items.isEmpty || x == 1) = false) (c2 : (decide (x ≤ 0) || items.isEmpty) = true) :
    Meets (Builtin.«tuple.__mul__» ⟨[.ref l, .int x u], []⟩) (fun _ R s => s.heap.get? l = some { cls := .type "tuple", dict := dd, data := .seq items n, slots := sl } ∧ R (.ok (.ret (Value.ref s.heap.objs.size))) { s with heap := s.heap.push { cls := Value.type "tuple", data := Data.seq #[] }, toks := s.toks }) :=
  .of_wp fun prog w A R s h => by
    obtain ⟨hp, g, d, tk, os⟩ := s
    obtain ⟨hl, h⟩ := h
    have f1 := AutoSeq1.idx_int
    wp_walk using wpAny_loadPart' hl
    repeat (first
      | (refine wpAny_ite_false (decide_eq_false (by rw [c0]; exact Bool.false_ne_true)) ?_; wp_walk using wpAny_loadPart' hl)
      | (refine wpAny_ite_false (decide_eq_false (by rw [c1]; exact Bool.false_ne_true)) ?_; wp_walk using wpAny_loadPart' hl)
      | (refine wpAny_ite_true (decide_eq_true (by rw [c2])) ?_; wp_walk using wpAny_loadPart' hl))
    exact ⟨_, rfl, h⟩
/-- t * k, k from 0 on -/
def rRepW (K : PySem.W.Frag) : R2 := fun x y H Q => ∃ l k xs, x = .ref l ∧ y = .int k ∧ SqT K H l xs ∧ 0 ≤ k ∧ k ≤ 1000 ∧ xs.length ≤ 1000 ∧ ∀ (p : Addr) (H' : Hp), Same H H' → SqT K H' p (List.replicate k.toNat xs).flatten → Q (.ref p) H'
theorem flat_nil : ∀ m : Nat, (List.replicate m ([] : List V)).flatten = []
  | 0 => rfl
  | m + 1 => by rw [List.replicate_succ, List.flatten_cons, flat_nil m]; rfl
theorem op_repW : OpR X (binaryOp .Mult) (rRepW X.K) := by
  intro pins s σ H x y v u Q I rx ry h
  obtain ⟨l, k, xs, rfl, rfl, hT, h0, h1, hz, q⟩ := h
  by_cases hbig : xs ≠ [] ∧ 2 ≤ k
  · exact op_repT pins s σ H _ _ v u Q I rx ry ⟨l, k, xs, rfl, rfl, hT, hbig.1, hbig.2, h1, hz, fun p np => q p _ (same_upd np) (tupNew upd_same)⟩
  cases rx
  obtain ⟨t, rfl⟩ := ry
  obtain ⟨its, r, ⟨⟨cls, dd, data, sl⟩, ho, hc, n, hd⟩, hs⟩ := I.tuple hT
  simp only at hc hd
  subst hc hd
  have hle : its.length = xs.length := r.length.symm
  have c0 : (decide (k < -(2 ^ 63)) || decide (k ≥ 2 ^ 63)) = false := by
    rw [decide_eq_false (by omega), decide_eq_false (by omega)] <;> rfl
  by_cases e1 : xs = [] ∨ k = 1
  · have c1 : (its.toArray.isEmpty || k == 1) = true := by
      rcases e1 with e | e
      · have : its = [] := List.eq_nil_of_length_eq_zero (by rw [hle, e]; rfl)
        rw [this]; rfl
      · rw [e]; simp
    refine wpAny_binaryOp_repeat_ref (T := "tuple") (U := "int") (by decide) ⟨_, ho, rfl⟩ (fun s' => typeIs_int s' k t) noFill_tuple_mul F.fills_int_mul F.slot_int_rmul repeat_tuple F.slot_int_index.lookup
      (call_meets F.slot_int_rmul (typeIs_int s k t) F.entry_int_rmul (F.args_int_rmul_2 _ _) (int_rmul_tuple k t l its.toArray n dd sl)
        ⟨ho, rfl, ⟨_, ho, rfl⟩, call_meets F.slot_tuple_mul ⟨_, ho, rfl⟩ F.entry_tuple_mul (F.args_tuple_mul_2 _ _) (tuple_mul1 l its.toArray n dd sl k t c0 c1) ⟨ho, ?_⟩⟩)
    refine ⟨.ref l, H, I, rfl, q l H (fun _ _ e => e) ?_⟩
    rcases e1 with e | e
    · subst e; rw [flat_nil]; exact hT
    · subst e
      show SqT X.K H l ([xs].flatten)
      rw [List.flatten_cons, List.flatten_nil, List.append_nil]; exact hT
  · have e2 : xs ≠ [] := fun e => e1 (.inl e)
    have e3 : k = 0 := by
      rcases Int.lt_or_le k 2 with z | z
      · have : k ≠ 1 := fun e => e1 (.inr e)
        omega
      · exact absurd ⟨e2, z⟩ hbig
    have hi : its.toArray.isEmpty = false := by
      cases its with
      | nil => exact absurd (List.eq_nil_of_length_eq_zero hle.symm) e2
      | cons a b => rfl
    have c1 : (its.toArray.isEmpty || k == 1) = false := by
      rw [hi, e3]; rfl
    have c2 : (decide (k ≤ 0) || its.toArray.isEmpty) = true := by
      rw [e3]; rfl
    refine wpAny_binaryOp_repeat_ref (T := "tuple") (U := "int") (by decide) ⟨_, ho, rfl⟩ (fun s' => typeIs_int s' k t) noFill_tuple_mul F.fills_int_mul F.slot_int_rmul repeat_tuple F.slot_int_index.lookup
      (call_meets F.slot_int_rmul (typeIs_int s k t) F.entry_int_rmul (F.args_int_rmul_2 _ _) (int_rmul_tuple k t l its.toArray n dd sl)
        ⟨ho, rfl, ⟨_, ho, rfl⟩, call_meets F.slot_tuple_mul ⟨_, ho, rfl⟩ F.entry_tuple_mul (F.args_tuple_mul_2 _ _) (tuple_mul0 l its.toArray n dd sl k t c0 c1 c2) ⟨ho, ?_⟩⟩)
    refine ⟨.ref s.heap.objs.size, _, I.laid (t' := s.toks) (o := .tup []) (fun b ob q => Heap.get?_push_of_some _ q) (Nat.le_refl _) ?_, rfl, q _ _ (same_upd (I.hok.fresh (Nat.le_refl _))) (by rw [e3]; exact tupNew upd_same)⟩
    exact ⟨Nat.zero_le _, [], .nil, IsTup.new _ _⟩
theorem op_eqI1K (h : X.K = K) (hu : X.A.units + 64 < cLine) : OpR X (compareOp .Eq) (rEqI1 K) := h ▸ op_eqI1 hu
theorem op_repWK (h : X.K = K) : OpR X (binaryOp .Mult) (rRepW K) := h ▸ op_repW
end
/-- [h(x) for x in t], t a tuple of ints -/
theorem lc_mapT {K : PySem.W.Frag} {te : TE} {h : Int → Int} {σ : L2.St} {H1 : Hp} {a D : Addr} {v : Nat} {ns : List Int} {Qd : Hp → Prop} (hT : SqT K H1 a (ns.map V.int)) (hl : ns.length ≤ 1000) (nD : H1 D = none)
    (hte : ∀ x ∈ ns, ∀ (H' : Hp) (Q : VK), Same H1 H' → (∀ H2, Same H' H2 → Q (.int (h x)) H2) → te ((wipe σ [v]).set v (some (.int x))) H' Q)
    (hd : ∀ H', Same H1 H' → H' D = some (.lst ((ns.map h).map V.int)) → Qd H') :
    ∃ W : Nat → Nat → Hp → Prop, (∃ m, W 0 m (upd H1 D (.lst []))) ∧ ∀ i m H, W i m H →
      ((Itt K a).stop i H ∧ Qd H) ∨ ((Itt K a).go i H ∧ ∃ Nx : Hp → Prop, (∀ H', Nx H' → ∃ m', m' < m ∧ W (i + 1) m' H') ∧ ∀ x H', (Itt K a).yld i H x H' → gName v x (wipe σ [v]) H' fun σ2 H2 => wipe σ2 [v] = wipe σ [v] ∧ tYes σ2 H2 fun b H3 =>
        if b = true then te σ2 H3 fun y H4 => ∃ acc, H4 D = some (.lst acc) ∧ acc.length < sizeLine ∧ Nx (upd H4 D (.lst (acc ++ [y]))) else Nx H3) := by
  refine lc_tup (K := K) (a := a) (xs := ns.map V.int) (fun i H' => Same H1 H' ∧ H' D = some (.lst (((ns.take i).map h).map V.int))) ⟨same_upd nD, upd_same⟩ (fun i H' _ p => sqT_same p.1 hT) (fun i x H' hx p => ?_) fun H' p => ?_
  · obtain ⟨k, g, rfl⟩ := map_at hx
    refine ⟨by simp [wipe, List.set_set], tt_yes (hte k (List.mem_of_getElem? g) H' _ p.1 fun H2 s2 => ⟨_, s2 _ _ p.2, ?_, fun b o z => ?_, ?_⟩)⟩
    · rw [List.length_map, List.length_map, List.length_take]; exact few1 (by omega)
    · rw [upd_ne (ne_of_none z nD)]; exact s2 _ _ (p.1 b o z)
    · rw [upd_same, List.take_add_one, g, List.map_append, List.map_append]; rfl
  · rw [List.length_map, List.take_of_length_le (Nat.le_refl _)] at p
    exact hd H' p.1 p.2
end RV
set_option maxHeartbeats 4000000
namespace RV
open PySem PySem.Spec PyProof.Rows L2
/-- [h(x) for x in l], l a list of ints -/
theorem lc_mapL {K : PySem.W.Frag} {te : TE} {h : Int → Int} {σ : L2.St} {H1 : Hp} {a D : Addr} {v : Nat} {ns : List Int} {Qd : Hp → Prop} (hT : SqL K H1 a (ns.map V.int)) (hl : ns.length ≤ 100000) (nD : H1 D = none)
    (hte : ∀ x ∈ ns, ∀ (H' : Hp) (Q : VK), Same H1 H' → (∀ H2, Same H' H2 → Q (.int (h x)) H2) → te ((wipe σ [v]).set v (some (.int x))) H' Q)
    (hd : ∀ H', Same H1 H' → H' D = some (.lst ((ns.map h).map V.int)) → Qd H') :
    ∃ W : Nat → Nat → Hp → Prop, (∃ m, W 0 m (upd H1 D (.lst []))) ∧ ∀ i m H, W i m H →
      ((Itl K a).stop i H ∧ Qd H) ∨ ((Itl K a).go i H ∧ ∃ Nx : Hp → Prop, (∀ H', Nx H' → ∃ m', m' < m ∧ W (i + 1) m' H') ∧ ∀ x H', (Itl K a).yld i H x H' → gName v x (wipe σ [v]) H' fun σ2 H2 => wipe σ2 [v] = wipe σ [v] ∧ tYes σ2 H2 fun b H3 =>
        if b = true then te σ2 H3 fun y H4 => ∃ acc, H4 D = some (.lst acc) ∧ acc.length < sizeLine ∧ Nx (upd H4 D (.lst (acc ++ [y]))) else Nx H3) := by
  refine lc_list (K := K) (a := a) (xs := ns.map V.int) (fun i H' => Same H1 H' ∧ H' D = some (.lst (((ns.take i).map h).map V.int))) ⟨same_upd nD, upd_same⟩ (fun i H' _ p => sqL_same p.1 hT) (fun i x H' hx p => ?_) fun H' p => ?_
  · obtain ⟨k, g, rfl⟩ := map_at hx
    refine ⟨by simp [wipe, List.set_set], tt_yes (hte k (List.mem_of_getElem? g) H' _ p.1 fun H2 s2 => ⟨_, s2 _ _ p.2, ?_, fun b o z => ?_, ?_⟩)⟩
    · rw [List.length_map, List.length_map, List.length_take, sizeLine_eq]; omega
    · rw [upd_ne (ne_of_none z nD)]; exact s2 _ _ (p.1 b o z)
    · rw [upd_same, List.take_add_one, g, List.map_append, List.map_append]; rfl
  · rw [List.length_map, List.take_of_length_le (Nat.le_refl _)] at p
    exact hd H' p.1 p.2
/-- [h(i) for i in range(lo, lo + n)] -/
theorem lc_mapG {te : TE} {h : Int → Int} {σ : L2.St} {H1 : Hp} {D : Addr} {v n : Nat} {lo : Int} {Qd : Hp → Prop} (hl : n ≤ 100000) (nD : H1 D = none)
    (hte : ∀ i, i < n → ∀ (H' : Hp) (Q : VK), Same H1 H' → (∀ H2, Same H' H2 → Q (.int (h (lo + (i : Int)))) H2) → te ((wipe σ [v]).set v (some (.int (lo + (i : Int))))) H' Q)
    (hd : ∀ H', Same H1 H' → H' D = some (.lst (((List.range n).map fun (i : Nat) => h (lo + (i : Int))).map V.int)) → Qd H') :
    ∃ W : Nat → Nat → Hp → Prop, (∃ m, W 0 m (upd H1 D (.lst []))) ∧ ∀ i m H, W i m H →
      ((Itr lo n).stop i H ∧ Qd H) ∨ ((Itr lo n).go i H ∧ ∃ Nx : Hp → Prop, (∀ H', Nx H' → ∃ m', m' < m ∧ W (i + 1) m' H') ∧ ∀ x H', (Itr lo n).yld i H x H' → gName v x (wipe σ [v]) H' fun σ2 H2 => wipe σ2 [v] = wipe σ [v] ∧ tYes σ2 H2 fun b H3 =>
        if b = true then te σ2 H3 fun y H4 => ∃ acc, H4 D = some (.lst acc) ∧ acc.length < sizeLine ∧ Nx (upd H4 D (.lst (acc ++ [y]))) else Nx H3) := by
  refine lc_range (lo := lo) (n := n) (fun i H' => Same H1 H' ∧ H' D = some (.lst (((List.range i).map fun (i : Nat) => h (lo + (i : Int))).map V.int))) ⟨same_upd nD, upd_same⟩ (fun i H' hi p => ?_) fun H' p => hd H' p.1 p.2
  refine ⟨by simp [wipe, List.set_set], tt_yes (hte i hi H' _ p.1 fun H2 s2 => ⟨_, s2 _ _ p.2, ?_, fun b o z => ?_, ?_⟩)⟩
  · rw [List.length_map, List.length_map, List.length_range, sizeLine_eq]; omega
  · rw [upd_ne (ne_of_none z nD)]; exact s2 _ _ (p.1 b o z)
  · rw [upd_same, List.range_succ, List.map_append, List.map_append]; rfl
end RV
set_option maxHeartbeats 4000000
namespace RV
open PySem PySem.Spec PyProof.Rows L2 TL
/-- [.. for x in l], l a list of any values xs, which gives the values ys -/
theorem lc_mapV {K : PySem.W.Frag} {te : TE} {ys : List V} {σ : L2.St} {H1 : Hp} {a D : Addr} {v : Nat} {xs : List V} {Qd : Hp → Prop} (hT : SqL K H1 a xs) (hl : xs.length ≤ 100000) (hy : ys.length = xs.length) (nD : H1 D = none)
    (hte : ∀ (i : Nat) (x y : V), xs[i]? = some x → ys[i]? = some y → ∀ (H' : Hp) (Q : VK), Same H1 H' → (∀ H2, Same H' H2 → Q y H2) → te ((wipe σ [v]).set v (some x)) H' Q)
    (hd : ∀ H', Same H1 H' → H' D = some (.lst ys) → Qd H') :
    ∃ W : Nat → Nat → Hp → Prop, (∃ m, W 0 m (upd H1 D (.lst []))) ∧ ∀ i m H, W i m H →
      ((Itl K a).stop i H ∧ Qd H) ∨ ((Itl K a).go i H ∧ ∃ Nx : Hp → Prop, (∀ H', Nx H' → ∃ m', m' < m ∧ W (i + 1) m' H') ∧ ∀ x H', (Itl K a).yld i H x H' → gName v x (wipe σ [v]) H' fun σ2 H2 => wipe σ2 [v] = wipe σ [v] ∧ tYes σ2 H2 fun b H3 =>
        if b = true then te σ2 H3 fun y H4 => ∃ acc, H4 D = some (.lst acc) ∧ acc.length < sizeLine ∧ Nx (upd H4 D (.lst (acc ++ [y]))) else Nx H3) := by
  refine lc_list (K := K) (a := a) (xs := xs) (fun i H' => Same H1 H' ∧ H' D = some (.lst (ys.take i))) ⟨same_upd nD, upd_same⟩ (fun i H' _ p => sqL_same p.1 hT) (fun i x H' hx p => ?_) fun H' p => ?_
  · have hi : i < xs.length := (List.getElem?_eq_some_iff.mp hx).1
    obtain ⟨y, ey⟩ : ∃ y, ys[i]? = some y := ⟨_, List.getElem?_eq_getElem (by omega)⟩
    refine ⟨by simp [wipe, List.set_set], tt_yes (hte i x y hx ey H' _ p.1 fun H2 s2 => ⟨_, s2 _ _ p.2, ?_, fun b o z => ?_, ?_⟩)⟩
    · rw [List.length_take, sizeLine_eq]; omega
    · rw [upd_ne (ne_of_none z nD)]; exact s2 _ _ (p.1 b o z)
    · rw [upd_same, List.take_add_one, ey]; rfl
  · rw [← hy, List.take_of_length_le (Nat.le_refl _)] at p
    exact hd H' p.1 p.2
/-- [.. for sign in text], all true -/
theorem lc_signs {te : TE} {σ : L2.St} {H1 : Hp} {D : Addr} {v : Nat} {z : Str} {Qd : Hp → Prop} (hl : z.length ≤ 100000) (nD : H1 D = none)
    (hte : ∀ c ∈ tl z, ∀ (H' : Hp) (Q : VK), Same H1 H' → (∀ H2, Same H' H2 → Q (.bl true) H2) → te ((wipe σ [v]).set v (some (.str ⟨#[c]⟩))) H' Q)
    (hd : ∀ H', Same H1 H' → H' D = some (.lst (List.replicate z.length (V.bl true))) → Qd H') :
    ∃ W : Nat → Nat → Hp → Prop, (∃ m, W 0 m (upd H1 D (.lst []))) ∧ ∀ i m H, W i m H →
      ((Its z).stop i H ∧ Qd H) ∨ ((Its z).go i H ∧ ∃ Nx : Hp → Prop, (∀ H', Nx H' → ∃ m', m' < m ∧ W (i + 1) m' H') ∧ ∀ x H', (Its z).yld i H x H' → gName v x (wipe σ [v]) H' fun σ2 H2 => wipe σ2 [v] = wipe σ [v] ∧ tYes σ2 H2 fun b H3 =>
        if b = true then te σ2 H3 fun y H4 => ∃ acc, H4 D = some (.lst acc) ∧ acc.length < sizeLine ∧ Nx (upd H4 D (.lst (acc ++ [y]))) else Nx H3) := by
  have ez : z.cps.size = z.length := rfl
  refine ⟨fun i m H' => i ≤ z.length ∧ m = z.length - i ∧ Same H1 H' ∧ H' D = some (.lst (List.replicate i (V.bl true))), ⟨_, Nat.zero_le _, rfl, same_upd nD, upd_same⟩, fun i m H' p => ?_⟩
  obtain ⟨p1, p2, p3, p4⟩ := p
  by_cases e : i < z.length
  · refine Or.inr ⟨e, fun H' => i + 1 ≤ z.length ∧ Same H1 H' ∧ H' D = some (.lst (List.replicate (i + 1) (V.bl true))), fun H2 q => ⟨z.length - (i + 1), by omega, q.1, rfl, q.2⟩, fun x H2 y => ?_⟩
    obtain ⟨rfl, c, hc, rfl⟩ := y
    refine nx_step ?_
    refine ⟨by simp [wipe, List.set_set], tt_yes (hte c ?_ _ _ p3 fun H3 s3 => ⟨_, s3 _ _ p4, ?_, e, fun b o w => ?_, ?_⟩)⟩
    · exact List.mem_of_getElem? (by rw [Array.getElem?_toList]; exact hc)
    · rw [List.length_replicate, sizeLine_eq]; omega
    · rw [upd_ne (ne_of_none w nD)]; exact s3 _ _ (p3 b o w)
    · rw [upd_same, List.replicate_succ']
  · refine Or.inl ⟨by show z.cps.size ≤ i; rw [ez]; omega, hd H' p3 ?_⟩
    rw [show z.length = i by omega]
    exact p4
end RV
set_option maxHeartbeats 4000000
namespace K53
open PySem PySem.Spec PyProof.Rows L2 RV
/-! ### the text by places -/
def topS (i : Nat) : Stmt := PySem.Challenge.pw_ringvouch_k53_texts_of_rings_and_plans_b.main.body.getD i (.Pass ⟨0, 0, 0, 0⟩)
abbrev sWhole : Stmt := topS 4
abbrev sMark : Stmt := topS 5
abbrev sMarks : Stmt := topS 6
abbrev sNumIn : Stmt := topS 12
abbrev sNumsIn : Stmt := topS 13
abbrev sMarksIn : Stmt := topS 14
abbrev sReadRing : Stmt := topS 15
abbrev sRunIn : Stmt := topS 16
abbrev sReadPlan : Stmt := topS 17
abbrev sPail : Stmt := topS 19
abbrev sDraw : Stmt := topS 20
abbrev sOf : Stmt := topS 21
abbrev sLNumber : Stmt := topS 22
abbrev sFigures : Stmt := topS 23
abbrev sLReadRing : Stmt := topS 24
abbrev sLReadPlan : Stmt := topS 25
abbrev sLTold : Stmt := topS 26
abbrev sBent : Stmt := topS 27
abbrev sTexts : Stmt := topS 28
abbrev sLaw : Stmt := topS 29
/-- a def of the text as the top has left it -/
structure DefAt (K : PySem.W.Frag) (mg : Str → Option Value) (x : Str) (st : Stmt) (ps : List Str) (f : Addr) (fd : FuncData) : Prop where
  fn : Fun K x x st f fd
  bi : Binds K fd ps []
  mg : mg x = some (.ref f)
/-- the names that are the interpreter's own -/
structure Bare (mg : Str → Option Value) : Prop where
  len : mg "len" = none
  isinstance : mg "isinstance" = none
  int : mg "int" = none
  bool : mg "bool" = none
  tuple : mg "tuple" = none
  all : mg "all" = none
  enumerate : mg "enumerate" = none
  zip : mg "zip" = none
  range : mg "range" = none
  list : mg "list" = none
  set : mg "set" = none
  sorted : mg "sorted" = none
  abs : mg "abs" = none
  max : mg "max" = none
  min : mg "min" = none
  repr : mg "repr" = none
  dict : mg "dict" = none
  any : mg "any" = none
  str : mg "str" = none
section
variable {P : Program} {w : World} {K : PySem.W.Frag} {mg : Str → Option Value} {base : Heap}
/-! ### is_whole -/
theorem scWhole : FnScope ["thing"] ["thing"] (defScope sWhole) := ⟨rfl, rfl, rfl, by decide +kernel, rfl, by decide +kernel, by decide +kernel⟩
def spWhole : Sp := fun vs H Q _ => ∃ i : Int, vs = [.int i] ∧ Q (.bl true) H
theorem ok_whole {f : Addr} {fd : FuncData} (F : Fun K "is_whole" "is_whole" sWhole f fd) (B : Bare mg) : FnOk P w K mg base CX0 1 f fd ["thing"] spWhole := by
  refine F.ok scWhole (fun vs H Q E h => ?_) (fun cdv A outer s H vs Q E hr h => ?_)
  · obtain ⟨i, rfl, _⟩ := h
    rfl
  · obtain ⟨i, rfl, q⟩ := h
    refine ⟨_, pss_one (ps_ret (pe_and (pe_callB call_isi (by rfl) B.isinstance (by decide +kernel) (pa_cons (pv 0) (pa_cons (pe_bltn (v := .ty "int") (by rfl) B.int boot_int rfl) pa_nil)))
      (pe_one (pe_not (pe_callB call_isi (by rfl) B.isinstance (by decide +kernel) (pa_cons (pv 0) (pa_cons (pe_bltn (v := .ty "bool") (by rfl) B.bool (by decide +kernel) rfl) pa_nil))))))), ?_⟩
    refine ⟨.int i, rfl, .int i, .ty "int", _, _, true, rfl, .ty "int", .base (.int i), kit_ty (by decide +kernel), true, rfl, iteT ?_⟩
    exact ⟨.int i, rfl, .int i, .ty "bool", _, _, false, rfl, .ty "bool", .base (.int i), kit_ty (by decide +kernel), false, rfl, q⟩
/-! ### is_below -/
theorem scMark : FnScope ["thing", "many"] ["thing", "many"] (defScope sMark) := ⟨rfl, rfl, rfl, by decide +kernel, rfl, by decide +kernel, by decide +kernel⟩
def spMark : Sp := fun vs H Q _ => ∃ i n : Int, vs = [.int i, .int n] ∧ 0 ≤ i ∧ i < n ∧ Q (.bl true) H
theorem ok_mark {f fW : Addr} {fd fdW : FuncData} (F : Fun K "is_below" "is_below" sMark f fd) (D : DefAt K mg "is_whole" sWhole ["thing"] fW fdW) (B : Bare mg) : FnOk P w K mg base CX0 2 f fd ["thing", "many"] spMark := by
  have GW : FnOk P w K mg base CX0 1 fW fdW ["thing"] spWhole := ok_whole D.fn B
  refine F.ok scMark (fun vs H Q E h => ?_) (fun cdv A outer s H vs Q E hr h => ?_)
  · obtain ⟨i, n, rfl, _⟩ := h
    rfl
  · obtain ⟨i, n, rfl, h1, h2, q⟩ := h
    refine ⟨_, pss_one (ps_ret (pe_and (pe_call GW hr (by rfl) D.mg D.fn.kp D.bi .nil pass0 (pa_cons (pv 0) pa_nil)) (pe_one (pe_chain op_le op_lt pe_int (pv 0) (pv 1))))), ?_⟩
    refine ⟨.int i, rfl, i, rfl, true, rfl, iteT ?_⟩
    refine ⟨.int i, rfl, 0, i, rfl, rfl, _, rfl, ?_⟩
    rw [decide_eq_true h1]
    refine iteT ⟨.int n, rfl, i, n, rfl, rfl, ?_⟩
    show Q (.bl (decide (i < n))) H
    rw [decide_eq_true h2]
    exact q
/-! ### are_marks -/
theorem scMarks : FnScope ["thing", "many", "mark"] ["thing", "many"] (defScope sMarks) := ⟨rfl, rfl, rfl, by decide +kernel, rfl, by decide +kernel, by decide +kernel⟩
def spMarks (K : PySem.W.Frag) : Sp := fun vs H Q _ => ∃ (a : Addr) (ns : List Int) (n : Int), vs = [.ref a, .int n] ∧ SqT K H a (ns.map V.int) ∧ 0 < ns.length ∧ ns.length ≤ 1000 ∧ (∀ i ∈ ns, 0 ≤ i ∧ i < n) ∧ ∀ H', Same H H' → Q (.bl true) H'
theorem ok_marks {f fM fW : Addr} {fd fdM fdW : FuncData} (F : Fun K "are_marks" "are_marks" sMarks f fd) (DM : DefAt K mg "is_below" sMark ["thing", "many"] fM fdM) (DW : DefAt K mg "is_whole" sWhole ["thing"] fW fdW) (B : Bare mg) :
    FnOk P w K mg base CX0 3 f fd ["thing", "many"] (spMarks K) := by
  have GM : FnOk P w K mg base CX0 2 fM fdM ["thing", "many"] spMark := ok_mark DM.fn DW B
  refine F.ok scMarks (fun vs H Q E h => ?_) (fun cdv A outer s H vs Q E hr h => ?_)
  · obtain ⟨a, ns, n, rfl, _⟩ := h
    rfl
  · obtain ⟨a, ns, n, rfl, hT, h0, hm, hin, q⟩ := h
    refine ⟨_, pss_one (ps_ret (pe_and (pe_callB call_isi (by rfl) B.isinstance (by decide +kernel) (pa_cons (pv 0) (pa_cons (pe_bltn (v := .ty "tuple") (by rfl) B.tuple (by decide +kernel) rfl) pa_nil)))
      (pe_and (pe_cmpR op_gt (pe_callB call_len_seq (by rfl) B.len PySem.boot_len (pa_cons (pv 0) pa_nil)) pe_int (nomark _))
      (pe_one (pe_callB (cr_all rfl) (by rfl) B.all (by decide +kernel) (pa_cons
        (pe_lc (own := [("mark", 2)]) (g := gName 2) (tt := tYes) rfl scMarks.nd (pi_tup (pv 0)) (blkOk_by (N := ["thing", "many", "mark"]) (sc := defScope sMarks) (by decide +kernel)) (fun _ _ _ _ _ => pg_name (i := 2) scMarks.nd rfl (Or.inl rfl)) (fun _ _ _ _ _ => pts_nil)
          (fun _ _ _ _ _ => pe_call GM hr (by rfl) DM.mg DM.fn.kp DM.bi .nil pass0 (pa_cons (pv 2) (pa_cons (pv 1) pa_nil)))) pa_nil)))))), ?_⟩
    refine ⟨.ref a, rfl, .ref a, .ty "tuple", _, _, true, rfl, .ty "tuple", tyT hT, kit_ty (by decide +kernel), true, rfl, iteT ?_⟩
    refine ⟨.ref a, rfl, a, _, rfl, .inr hT, _, _, rfl, rfl, decide (((ns.map V.int).length : Int) > 0), rfl, ?_⟩
    rw [decide_eq_true (show ((ns.map V.int).length : Int) > 0 by rw [List.length_map]; omega)]
    refine iteT ⟨.ref a, rfl, a, rfl, ⟨_, hT⟩, fun D nD => ?_⟩
    refine lc_tup (K := K) (a := a) (xs := ns.map V.int) (fun i H' => Same H H' ∧ H' D = some (.lst (List.replicate i (V.bl true)))) ⟨same_upd nD, upd_same⟩ (fun i H' _ p => sqT_same p.1 hT) (fun i x H' hx p => ?_) fun H' p => ?_
    · obtain ⟨m, hm', rfl⟩ := map_at hx
      have hi : i < ns.length := (List.getElem?_eq_some_iff.mp hm').1
      have hr' := hin m (List.mem_of_getElem? hm')
      refine ⟨rfl, tt_yes ⟨.int m, rfl, .int n, rfl, m, n, rfl, hr'.1, hr'.2, _, p.2, ?_, ?_, ?_⟩⟩
      · rw [List.length_replicate]; exact few1 (by omega)
      · exact fun b o e => by rw [upd_ne (ne_of_none e nD)]; exact p.1 b o e
      · rw [upd_same, rep_next]
    · rw [List.length_map, rep_bl] at p
      refine ⟨D, _, rfl, lstNew p.2, ?_⟩
      rw [all_true]
      exact q H' p.1
end
end K53
set_option maxHeartbeats 4000000
namespace K53
open PySem PySem.Spec PyProof.Rows L2 RV
/-- a pail of numbers stands at p, t have been mixed -/
def PailAt (H : Hp) (p : Addr) (t : Nat) : Prop := ∃ x y : Int, H p = some (.lst [.int x, .int y, .int (t : Int)]) ∧ 0 ≤ x ∧ 0 ≤ y ∧ y < 2147483629
/-- all stands but what is at p -/
def But (p : Addr) (H H' : Hp) : Prop := ∀ c o, H c = some o → c ≠ p → H' c = some o
theorem But.refl (p : Addr) (H : Hp) : But p H H := fun _ _ e _ => e
theorem But.trans {p : Addr} {H H1 H2 : Hp} (a : But p H H1) (b : But p H1 H2) : But p H H2 := fun c o e z => b c o (a c o e z) z
theorem But.of {p : Addr} {H H' : Hp} (s : Same H H') : But p H H' := fun c o e _ => s c o e
section
variable {P : Program} {w : World} {K : PySem.W.Frag} {mg : Str → Option Value} {base : Heap}
/-! ### _law_pail -/
theorem scPail : FnScope ["_law_script", "_law_at", "_law_cell", "_law_own"] ["_law_script", "_law_at"] (defScope sPail) := ⟨rfl, rfl, rfl, by decide +kernel, rfl, by decide +kernel, by decide +kernel⟩
def spPail (K : PySem.W.Frag) : Sp := fun vs H Q _ => ∃ (a : Addr) (ns : List Int) (k : Nat), vs = [.ref a, .int (k : Int)] ∧ SqL K H a (ns.map V.int) ∧ k < 64 ∧ ∀ H' p, Same H H' → H p = none → PailAt H' p 0 → Q (.ref p) H'
theorem flag01 (b : Bool) : -(2 ^ 64) < (if b = true then (1 : Int) else 0) ∧ (if b = true then (1 : Int) else 0) < 2 ^ 64 := by cases b <;> decide
theorem mul_flag {x : Int} (h : 0 ≤ x) (b : Bool) : 0 ≤ x * (if b = true then (1 : Int) else 0) := by
  cases b
  · show 0 ≤ x * 0
    rw [Int.mul_zero]; exact Int.le_refl _
  · show 0 ≤ x * 1
    rw [Int.mul_one]; exact h
theorem pow60 : ((10 : Int) ^ (60 : Int).toNat).natAbs < 2 ^ 200 := by decide +kernel
theorem pow120 : ((10 : Int) ^ (60 : Int).toNat * (10 : Int) ^ (60 : Int).toNat).natAbs < 2 ^ 400 := by decide +kernel
theorem pow180 : (0 : Int) < (10 : Int) ^ (60 : Int).toNat * (10 : Int) ^ (60 : Int).toNat * (10 : Int) ^ (60 : Int).toNat := by decide +kernel
theorem ok_pail {f : Addr} {fd : FuncData} (F : Fun K "_law_pail" "_law_pail" sPail f fd) (B : Bare mg) : FnOk P w K mg base CX0 1 f fd ["_law_script", "_law_at"] (spPail K) := by
  refine F.ok scPail (fun vs H Q E h => ?_) (fun cdv A outer s H vs Q E hr h => ?_)
  · obtain ⟨a, ns, k, rfl, _⟩ := h
    rfl
  · obtain ⟨a, ns, k, rfl, hS, hk, q⟩ := h
    refine ⟨_, pss_cons (ps_set (i := 2) scPail.nd rfl (Or.inl rfl) (pe_ifExp (pt_cmpR op_lt (pv 1) (pe_callB call_len_seq (by rfl) B.len PySem.boot_len (pa_cons (pv 0) pa_nil)) (nomark _)) (pe_ix ix_list (pv 0) (pv 1) (fun _ _ => rfl)) (pe_op op_add (pe_op op_mul pe_int (pv 1)) pe_int)))
      (pss_cons (ps_set (i := 3) scPail.nd rfl (Or.inl rfl) (pe_op op_mod (pe_callB call_abs (by rfl) B.abs (by decide +kernel) (pa_cons (pv 2) pa_nil)) (pe_op op_mulW (pe_op op_mulW (pe_op op_pow pe_int pe_int) (pe_op op_pow pe_int pe_int)) (pe_op op_pow pe_int pe_int))))
      (pss_one (ps_ret (pe_lst (pa_cons (pe_op op_mul (pv 3) (pe_callTy call_int1 (by rfl) B.int boot_int (pa_cons (pe_cmpR op_ge (pe_callB call_abs (by rfl) B.abs (by decide +kernel) (pa_cons (pv 2) pa_nil)) (pe_op op_pow pe_int pe_int) (nomark _)) pa_nil)))
        (pa_cons (pe_op op_mod (pe_op op_mul (pe_op op_add (pe_op op_add (pe_op op_mod (pv 2) pe_int) (pe_op op_mul pe_int (pv 1))) pe_int) pe_int) pe_int) (pa_cons pe_int pa_nil))))))), ?_⟩
    refine ⟨.int (k : Int), rfl, .ref a, rfl, a, _, rfl, .inl hS, (k : Int), _, rfl, rfl, _, rfl, ?_⟩
    refine ite2 (fun hlt => ?_) (fun _ => ?_)
    · have hkl : k < ns.length := by
        have z := of_decide_eq_true hlt
        rw [List.length_map] at z; omega
      refine ⟨.ref a, rfl, .int (k : Int), rfl, a, _, (k : Int), .int ns[k], rfl, rfl, hS, atI_nat (by rw [List.getElem?_map, List.getElem?_eq_getElem hkl]; rfl), ?_⟩
      refine ⟨_, rfl, ns[k], rfl, 10, 60, rfl, rfl, ⟨by decide, by decide, by decide⟩, 10, 60, rfl, rfl, ⟨by decide, by decide, by decide⟩, _, _, rfl, rfl, wide_mul pow60 pow60 (by decide) (by decide) (by decide), 10, 60, rfl, rfl, ⟨by decide, by decide, by decide⟩, _, _, rfl, rfl, wide_mul pow120 pow60 (by decide) (by decide) (by decide), _, _, rfl, rfl, pow180, ?_⟩
      have own0 := Int.emod_nonneg (if ns[k] < 0 then -ns[k] else ns[k]) (Int.ne_of_gt pow180)
      refine ⟨_, rfl, _, rfl, ns[k], rfl, 10, 18, rfl, rfl, ⟨by decide, by decide, by decide⟩, _, _, rfl, rfl, .inr ⟨_, rfl, _, _, rfl, rfl, .inr ?_, _, rfl, ns[k], 2305843009213693951, rfl, rfl, (show (0 : Int) < 2305843009213693951 by decide), .int (k : Int), rfl, 7877, (k : Int), rfl, rfl, .inl ⟨by decide, by decide⟩, _, _, rfl, rfl, _, 29, rfl, rfl, _, 39373, rfl, rfl, .inr ⟨by decide, by decide⟩, _, 2147483629, rfl, rfl, (show (0 : Int) < 2147483629 by decide), ?_, fun p np => ?_⟩⟩
      · exact flag01 _
      · show 3 ≤ sizeLine; decide
      · refine q _ p (same_upd np) np ⟨_, _, upd_same, ?_, Int.emod_nonneg _ (by decide), Int.emod_lt_of_pos _ (by decide)⟩
        exact mul_flag own0 _
    · refine ⟨.int (k : Int), rfl, 11, (k : Int), rfl, rfl, .inl ⟨by decide, by decide⟩, _, 5, rfl, rfl, ?_⟩
      refine ⟨_, rfl, (11 * (k : Int) + 5), rfl, 10, 60, rfl, rfl, ⟨by decide, by decide, by decide⟩, 10, 60, rfl, rfl, ⟨by decide, by decide, by decide⟩, _, _, rfl, rfl, wide_mul pow60 pow60 (by decide) (by decide) (by decide), 10, 60, rfl, rfl, ⟨by decide, by decide, by decide⟩, _, _, rfl, rfl, wide_mul pow120 pow60 (by decide) (by decide) (by decide), _, _, rfl, rfl, pow180, ?_⟩
      have own0 := Int.emod_nonneg (if (11 * (k : Int) + 5) < 0 then -(11 * (k : Int) + 5) else (11 * (k : Int) + 5)) (Int.ne_of_gt pow180)
      refine ⟨_, rfl, _, rfl, (11 * (k : Int) + 5), rfl, 10, 18, rfl, rfl, ⟨by decide, by decide, by decide⟩, _, _, rfl, rfl, .inr ⟨_, rfl, _, _, rfl, rfl, .inr ?_, _, rfl, (11 * (k : Int) + 5), 2305843009213693951, rfl, rfl, (show (0 : Int) < 2305843009213693951 by decide), .int (k : Int), rfl, 7877, (k : Int), rfl, rfl, .inl ⟨by decide, by decide⟩, _, _, rfl, rfl, _, 29, rfl, rfl, _, 39373, rfl, rfl, .inr ⟨by decide, by decide⟩, _, 2147483629, rfl, rfl, (show (0 : Int) < 2147483629 by decide), ?_, fun p np => ?_⟩⟩
      · exact flag01 _
      · show 3 ≤ sizeLine; decide
      · refine q _ p (same_upd np) np ⟨_, _, upd_same, ?_, Int.emod_nonneg _ (by decide), Int.emod_lt_of_pos _ (by decide)⟩
        exact mul_flag own0 _
end
end K53
set_option maxHeartbeats 4000000
namespace K53
open PySem PySem.Spec PyProof.Rows L2 RV
section
variable {P : Program} {w : World} {K : PySem.W.Frag} {mg : Str → Option Value} {base : Heap}
/-! ### _law_draw -/
theorem scDraw : FnScope ["_law_pail_here", "_law_many", "_law_told_here", "_law_turn", "_law_prime", "_law_mixed"] ["_law_pail_here", "_law_many"] (defScope sDraw) := ⟨rfl, rfl, rfl, by decide +kernel, rfl, by decide +kernel, by decide +kernel⟩
def spDraw : Sp := fun vs H Q _ => ∃ (p : Addr) (t : Nat) (m : Int), vs = [.ref p, .int m] ∧ PailAt H p t ∧ t ≤ 2000 ∧ 1 ≤ m ∧ m ≤ 1000000000 ∧
  ∀ (r : Int) (t' : Nat) (H' : Hp), 0 ≤ r → r < m → t' ≤ t + 1 → PailAt H' p t' → But p H H' → Q (.int r) H'
theorem primes_at (t : Int) (h : 0 ≤ t) : ∃ v : Int, atI [V.int 2147483587, V.int 2147483579, V.int 2147483563, V.int 2147483549, V.int 2147483543] (t % 5) = some (.int v) ∧ 0 < v ∧ v < 2147483648 := by
  have h5 : t % 5 = 0 ∨ t % 5 = 1 ∨ t % 5 = 2 ∨ t % 5 = 3 ∨ t % 5 = 4 := by omega
  rcases h5 with e | e | e | e | e <;> rw [e] <;> exact ⟨_, rfl, by decide, by decide⟩
theorem ix3 (j : Nat) (h : j < 3) : ixN 3 (j : Int) = some j := by
  rcases (show j = 0 ∨ j = 1 ∨ j = 2 by omega) with e | e | e <;> subst e <;> rfl
theorem ok_draw {f : Addr} {fd : FuncData} (F : Fun K "_law_draw" "_law_draw" sDraw f fd) : FnOk P w K mg base CX0 1 f fd ["_law_pail_here", "_law_many"] spDraw := by
  refine F.ok scDraw (fun vs H Q E h => ?_) (fun cdv A outer s H vs Q E hr h => ?_)
  · obtain ⟨p, t, m, rfl, _⟩ := h
    rfl
  · obtain ⟨p, t, m, rfl, ⟨x, y, hp, hx, hy0, hy1⟩, ht, hm1, hm2, q⟩ := h
    refine ⟨_, pss_cons (ps_if (pt_cmpR op_gt (pe_ix ix_list (pv 0) pe_int (fun _ _ => rfl)) pe_int (nomark _))
        (pss_cons (ps_set (i := 2) scDraw.nd rfl (Or.inl rfl) (pe_op op_mod (pe_ix ix_list (pv 0) pe_int (fun _ _ => rfl)) (pv 1)))
        (pss_cons (ps_asg (pe_op op_fdiv (pe_ix ix_list (pv 0) pe_int (fun _ _ => rfl)) (pv 1)) (pg_sub (pv 0) pe_int set_list))
        (pss_one (ps_ret (pv 2))))) pss_nil)
      (pss_cons (ps_asg (pe_op op_add (pe_ix ix_list (pv 0) pe_int (fun _ _ => rfl)) pe_int) (pg_sub (pv 0) pe_int set_list))
      (pss_cons (ps_set (i := 3) scDraw.nd rfl (Or.inl rfl) (pe_ix ix_list (pv 0) pe_int (fun _ _ => rfl)))
      (pss_cons (ps_set (i := 4) scDraw.nd rfl (Or.inl rfl) (pe_ix ix_list (pe_lst (pa_cons pe_int (pa_cons pe_int (pa_cons pe_int (pa_cons pe_int (pa_cons pe_int pa_nil)))))) (pe_op op_mod (pv 3) pe_int) (fun _ _ => rfl)))
      (pss_cons (ps_set (i := 5) scDraw.nd rfl (Or.inl rfl) (pe_op op_mod (pe_op op_pow (pe_op op_add (pe_op op_add (pe_ix ix_list (pv 0) pe_int (fun _ _ => rfl)) (pe_op op_mul (pe_op op_mul pe_int (pv 3)) (pv 3))) (pe_op op_mul pe_int (pv 3))) pe_int) (pv 4)))
      (pss_one (ps_ret (pe_op op_mod (pe_op op_fdiv (pe_op op_mod (pe_op op_mul (pv 5) (pe_op op_add (pe_op op_add (pe_op op_mod (pv 5) pe_int) (pv 3)) pe_int)) (pv 4)) pe_int) (pv 1)))))))), ?_⟩
    refine ⟨.ref p, rfl, p, _, 0, .int x, rfl, rfl, lstNew hp, rfl, x, 0, rfl, rfl, _, rfl, ite2 (fun hx0 => ?_) (fun _ => ?_)⟩
    · refine ⟨.ref p, rfl, p, _, 0, .int x, rfl, rfl, lstNew hp, rfl, .int m, rfl, x, m, rfl, rfl, (show 0 < m by omega), ?_⟩
      refine ⟨.ref p, rfl, p, _, 0, .int x, rfl, rfl, lstNew hp, rfl, .int m, rfl, x, m, rfl, rfl, ⟨by omega, by omega⟩, .ref p, rfl, p, _, 0, 0, rfl, rfl, hp, rfl, ?_⟩
      refine ⟨_, rfl, ?_⟩
      exact q (x % m) t _ (Int.emod_nonneg _ (by omega)) (Int.emod_lt_of_pos _ (by omega)) (by omega) ⟨x / m, y, upd_same, Int.ediv_nonneg hx (by omega), hy0, hy1⟩ fun c o e z => by rw [upd_ne z]; exact e
    · refine ⟨.ref p, rfl, p, _, 2, .int (t : Int), rfl, rfl, lstNew hp, rfl, (t : Int), 1, rfl, rfl, .ref p, rfl, p, _, 2, 2, rfl, rfl, hp, rfl, ?_⟩
      have hp1 : (upd H p (.lst [.int x, .int y, .int ((t : Int) + 1)])) p = some (.lst [.int x, .int y, .int ((t : Int) + 1)]) := upd_same
      have b1 : But p H (upd H p (.lst [.int x, .int y, .int ((t : Int) + 1)])) := fun c o e z => by rw [upd_ne z]; exact e
      refine ⟨.ref p, rfl, p, _, 2, .int ((t : Int) + 1), rfl, rfl, lstNew upd_same, rfl, ?_⟩
      obtain ⟨v, hv, v0, v1⟩ := primes_at ((t : Int) + 1) (by omega)
      refine ⟨(by show 5 ≤ sizeLine; decide), fun l nl => ⟨.int ((t : Int) + 1), rfl, (t : Int) + 1, 5, rfl, rfl, (show (0 : Int) < 5 by decide), l, _, _, .int v, rfl, rfl, lstNew upd_same, hv, ?_⟩⟩
      have s2 := same_upd (H := upd H p (.lst [.int x, .int y, .int ((t : Int) + 1)])) (o := .lst [.int 2147483587, .int 2147483579, .int 2147483563, .int 2147483549, .int 2147483543]) nl
      have hp2 := s2 _ _ hp1
      have tt : 0 ≤ ((t : Int) + 1) ∧ ((t : Int) + 1) ≤ 2001 := by omega
      have sq : 6151 * ((t : Int) + 1) * ((t : Int) + 1) ≤ 6151 * 2001 * 2001 := by
        have h1 : 6151 * ((t : Int) + 1) ≤ 6151 * 2001 := by omega
        exact Int.mul_le_mul h1 tt.2 tt.1 (by decide)
      have sq0 : 0 ≤ 6151 * ((t : Int) + 1) * ((t : Int) + 1) := Int.mul_nonneg (by omega) tt.1
      refine ⟨.ref p, rfl, p, _, 1, .int y, rfl, rfl, lstNew hp2, rfl, .int ((t : Int) + 1), rfl, 6151, _, rfl, rfl, .inl ⟨by decide, by decide⟩, .int ((t : Int) + 1), rfl, _, _, rfl, rfl, .inl ⟨by omega, by omega⟩, y, _, rfl, rfl, .int ((t : Int) + 1), rfl, 17, _, rfl, rfl, .inl ⟨by decide, by decide⟩, _, _, rfl, rfl, _, 3, rfl, rfl, ⟨by decide, by decide, ?_⟩, .int v, rfl, _, v, rfl, rfl, v0, ?_⟩
      · show (y + 6151 * ((t : Int) + 1) * ((t : Int) + 1) + 17 * ((t : Int) + 1)).natAbs < 2 ^ 64
        omega
      have z0 := Int.emod_nonneg ((y + 6151 * ((t : Int) + 1) * ((t : Int) + 1) + 17 * ((t : Int) + 1)) ^ (3 : Int).toNat) (show v ≠ 0 by omega)
      have z1 := Int.emod_lt_of_pos ((y + 6151 * ((t : Int) + 1) * ((t : Int) + 1) + 17 * ((t : Int) + 1)) ^ (3 : Int).toNat) v0
      refine ⟨_, rfl, _, rfl, _, 1009, rfl, rfl, (show (0 : Int) < 1009 by decide), .int ((t : Int) + 1), rfl, _, _, rfl, rfl, _, 1, rfl, rfl, _, _, rfl, rfl, .inl ?_, .int v, rfl, _, v, rfl, rfl, v0, _, 19, rfl, rfl, ⟨by decide, by decide⟩, .int m, rfl, _, m, rfl, rfl, (show 0 < m by omega), ?_⟩
      · exact ⟨by omega, by omega⟩
      · exact q _ (t + 1) _ (Int.emod_nonneg _ (by omega)) (Int.emod_lt_of_pos _ (by omega)) (Nat.le_refl _) ⟨x, y, hp2, hx, hy0, hy1⟩ (b1.trans (But.of s2))
end
end K53
set_option maxHeartbeats 4000000
namespace K53
open PySem PySem.Spec PyProof.Rows L2 RV
/-! ### what a draw leaves -/
theorem sqT_pail {K : PySem.W.Frag} {H H' : Hp} {p : Addr} {t : Nat} (hp : PailAt H p t) (b : But p H H') {a : Addr} {xs : List V} (h : SqT K H a xs) : SqT K H' a xs := by
  obtain ⟨x, y, e, _⟩ := hp
  rcases h with (h | ⟨o, h⟩) | h
  · exact .inl (.inl (b _ _ h fun z => by rw [z, e] at h; cases h))
  · exact .inl (.inr ⟨o, b _ _ h fun z => by rw [z, e] at h; cases h⟩)
  · exact .inr h
theorem sqL_but {K : PySem.W.Frag} {H H' : Hp} {p a : Addr} (b : But p H H') (n : a ≠ p) {xs : List V} (h : SqL K H a xs) : SqL K H' a xs := by
  rcases h with (h | ⟨o, h⟩) | h
  · exact .inl (.inl (b _ _ h n))
  · exact .inl (.inr ⟨o, b _ _ h n⟩)
  · exact .inr h
theorem tups_pail {K : PySem.W.Frag} {H H' : Hp} {p : Addr} {t : Nat} (hp : PailAt H p t) (b : But p H H') {a : Addr} {ps : List (List Int)} (h : Tups K H a ps) : Tups K H' a ps := by
  obtain ⟨ks, h1, h2, h3⟩ := h
  exact ⟨ks, h1, sqT_pail hp b h2, fun q hq => sqT_pail hp b (h3 q hq)⟩
theorem same_but {p : Addr} {H H1 H2 : Hp} (s : Same H H1) (n : H p = none) (b : But p H1 H2) : Same H H2 := fun c o e => b c o (s c o e) (ne_of_none e n)
theorem pail_same {p : Addr} {H H' : Hp} {t : Nat} (h : PailAt H p t) (s : Same H H') : PailAt H' p t := by
  obtain ⟨x, y, e, r⟩ := h
  exact ⟨x, y, s _ _ e, r⟩
theorem pail_new {p a : Addr} {H : Hp} {o : HO} {t : Nat} (h : PailAt H p t) (n : H a = none) : PailAt (upd H a o) p t := pail_same h (same_upd n)
theorem pail_set {p l : Addr} {H : Hp} {o : HO} {t : Nat} (h : PailAt H p t) (n : l ≠ p) : PailAt (upd H l o) p t := by
  obtain ⟨x, y, e, r⟩ := h
  exact ⟨x, y, by rw [upd_ne n.symm]; exact e, r⟩
theorem pail_ne {p a : Addr} {H : Hp} {t : Nat} (h : PailAt H p t) (n : H a = none) : a ≠ p := by
  obtain ⟨x, y, e, r⟩ := h
  exact (ne_of_none e n).symm
section
variable {P : Program} {w : World} {K : PySem.W.Frag} {mg : Str → Option Value} {base : Heap}
/-! ### _law_of -/
theorem scOf : FnScope ["_law_pail_here", "_law_some"] ["_law_pail_here", "_law_some"] (defScope sOf) := ⟨rfl, rfl, rfl, by decide +kernel, rfl, by decide +kernel, by decide +kernel⟩
def spOf (K : PySem.W.Frag) : Sp := fun vs H Q _ => ∃ (p a : Addr) (t : Nat) (xs : List V), vs = [.ref p, .ref a] ∧ PailAt H p t ∧ t ≤ 2000 ∧ SqL K H a xs ∧ a ≠ p ∧ 0 < xs.length ∧ xs.length ≤ 1000 ∧
  ∀ (j : Nat) (v : V) (t' : Nat) (H' : Hp), xs[j]? = some v → t' ≤ t + 1 → PailAt H' p t' → But p H H' → Q v H'
theorem ok_of {f fD : Addr} {fd fdD : FuncData} (F : Fun K "_law_of" "_law_of" sOf f fd) (DD : DefAt K mg "_law_draw" sDraw ["_law_pail_here", "_law_many"] fD fdD) (B : Bare mg) : FnOk P w K mg base CX0 2 f fd ["_law_pail_here", "_law_some"] (spOf K) := by
  have GD : FnOk P w K mg base CX0 1 fD fdD ["_law_pail_here", "_law_many"] spDraw := ok_draw DD.fn
  refine F.ok scOf (fun vs H Q E h => ?_) (fun cdv A outer s H vs Q E hr h => ?_)
  · obtain ⟨p, a, t, xs, rfl, _⟩ := h
    rfl
  · obtain ⟨p, a, t, xs, rfl, hp, ht, hS, hne, h0, h1, q⟩ := h
    refine ⟨_, pss_one (ps_ret (pe_ix ix_list (pv 1) (pe_call GD hr (by rfl) DD.mg DD.fn.kp DD.bi .nil pass0 (pa_cons (pv 0) (pa_cons (pe_callB call_len_seq (by rfl) B.len PySem.boot_len (pa_cons (pv 1) pa_nil)) pa_nil))) (fun _ _ => rfl))), ?_⟩
    refine ⟨.ref a, rfl, .ref p, rfl, .ref a, rfl, a, xs, rfl, .inl hS, p, t, (xs.length : Int), rfl, hp, ht, by omega, by omega, fun r t1 H1 r0 r1 ht1 hp1 b1 => ?_⟩
    obtain ⟨v, hv⟩ : ∃ v, xs[r.toNat]? = some v := ⟨_, List.getElem?_eq_getElem (by omega)⟩
    refine ⟨a, xs, r, v, rfl, rfl, sqL_but b1 hne hS, ?_, q r.toNat v t1 H1 hv ht1 hp1 b1⟩
    rw [show r = ((r.toNat : Nat) : Int) by omega]
    exact atI_nat hv
end
end K53
set_option maxHeartbeats 4000000
namespace K53
open PySem PySem.Spec PyProof.Rows L2 RV TL
def sFig : Str := Str.ofString "0123456789"
theorem atI_0 {α : Type} {c : α} {r : List α} : atI (c :: r) 0 = some c := atI_nat (xs := c :: r) (j := 0) rfl
section
variable {P : Program} {w : World} {K : PySem.W.Frag} {mg : Str → Option Value} {base : Heap} {t1 t2 : Tok}
/-! ### number_in -/
theorem scNI : FnScope ["word", "sign"] ["word"] (defScope sNumIn) := ⟨rfl, rfl, rfl, by decide +kernel, rfl, by decide +kernel, by decide +kernel⟩
def spNI : Sp := fun vs H Q _ => ∃ n : Nat, vs = [.str (num n)] ∧ n < 10 ^ 30 ∧ ∀ H', Same H H' → Q (.int (n : Int)) H'
theorem ok_ni {f : Addr} {fd : FuncData} (F : Fun K "number_in" "number_in" sNumIn f fd) (B : Bare mg) (mS : mg "FIGURES" = some (.str sFig t1)) (mF : mg "MOST_FIGURES" = some (.int 30 t2)) : FnOk P w K mg base CX0 1 f fd ["word"] spNI := by
  refine F.ok scNI (fun vs H Q E h => ?_) (fun cdv A outer s H vs Q E hr h => ?_)
  · obtain ⟨n, rfl, _⟩ := h
    rfl
  · obtain ⟨n, rfl, hn, q⟩ := h
    refine ⟨_, pss_cons (ps_if (PW.pt (pw_or (pt_not (pt_chain op_lt op_le pe_int (pe_callB call_len_str (by rfl) B.len PySem.boot_len (pa_cons (pv 0) pa_nil)) (pe_glob (v := .int 30) rfl mF ⟨_, rfl⟩)))
        (pw_or1 (pt_not (pt_val (pe_callB (cr_all rfl) (by rfl) B.all (by decide +kernel) (pa_cons (pe_lc (own := [("sign", 1)]) (g := gName 1) (tt := tYes) rfl scNI.nd (pi_str (pv 0)) (blkOk_by (N := ["word", "sign"]) (sc := defScope sNumIn) (by decide +kernel)) (fun _ _ _ _ _ => pg_name (i := 1) scNI.nd rfl (Or.inl rfl)) (fun _ _ _ _ _ => pts_nil)
          (fun _ _ _ _ _ => pe_cmpR op_in_sign (pv 1) (pe_glob (v := .str sFig) rfl mS ⟨_, rfl⟩) (by rfl))) pa_nil))))))) (pss_one (ps_ret pe_non)) pss_nil)
      (pss_cons (ps_if (PW.pt (pw_and (pt_cmpR op_gt (pe_callB call_len_str (by rfl) B.len PySem.boot_len (pa_cons (pv 0) pa_nil)) pe_int (nomark _)) (pw_and1 (pt_cmpR op_eq (pe_ix ix_str (pv 0) pe_int (fun _ _ => rfl)) pe_str (nomark _))))) (pss_one (ps_ret pe_non)) pss_nil)
      (pss_one (ps_ret (pe_callTy call_int_str (by rfl) B.int (by decide +kernel) (pa_cons (pv 0) pa_nil))))), ?_⟩
    have hl := num_len hn
    have h0 := num_pos n
    refine ⟨.str (num n), rfl, num n, rfl, by rw [sizeLine_eq]; omega, 0, _, rfl, rfl, _, rfl, ?_⟩
    rw [decide_eq_true (show (0 : Int) < ((num n).length : Int) by omega)]
    refine iteT ⟨_, _, rfl, rfl, decide (((num n).length : Int) ≤ 30), rfl, ?_⟩
    rw [decide_eq_true (show ((num n).length : Int) ≤ 30 by omega)]
    refine iteF ⟨.str (num n), rfl, num n, rfl, fun D nD => lc_signs (by omega) nD (fun c hc H' Q' s1 q1 => ?_) fun H1 s1 e1 => ?_⟩
    · exact ⟨_, rfl, c, sFig, rfl, rfl, by rw [show decide (c ∈ sFig.cps.toList) = true from decide_eq_true (num_sign hc)]; exact q1 H' (Same.refl H')⟩
    refine ⟨D, List.replicate (num n).length true, rfl, lstNew (by rw [e1, rep_bl]), ?_⟩
    rw [all_true]
    refine ⟨true, rfl, iteF ?_⟩
    unfold tNext
    dsimp only
    refine ⟨.str (num n), rfl, num n, rfl, by rw [sizeLine_eq]; omega, _, 1, rfl, rfl, decide (((num n).length : Int) > 1), rfl, ?_⟩
    have last : Q (.int (n : Int)) H1 := q H1 s1
    by_cases e : 1 < (num n).length
    · rw [decide_eq_true (show ((num n).length : Int) > 1 by omega)]
      obtain ⟨c, r, e2, e3⟩ := numL_head n (by have := num_two e; omega)
      refine iteT ⟨.str (num n), rfl, num n, 0, c, rfl, rfl, by rw [sizeLine_eq]; omega, ?_, rfl, false, ?_, iteF ?_⟩
      · have : tl (num n) = c :: r := by rw [tl_nm, e2]
        show atI (tl (num n)) 0 = some c
        rw [this]; exact atI_0
      · refine congrArg V.bl (decide_eq_false fun z => e3 ?_)
        have z1 : tl (⟨#[c]⟩ : Str) = tl (Str.ofString "0") := by
          have := V.str.inj z
          rw [this]
        rw [tl_ofString] at z1
        exact (List.cons.inj z1).1
      · exact ⟨.str (num n), rfl, num n, (n : Int), rfl, num_int hn, by omega, last⟩
    · rw [decide_eq_false (show ¬ ((num n).length : Int) > 1 by omega)]
      refine iteF (iteF ?_)
      exact ⟨.str (num n), rfl, num n, (n : Int), rfl, num_int hn, by omega, last⟩
/-! ### numbers_in -/
theorem scNs : FnScope ["words", "numbers", "word", "number"] ["words"] (defScope sNumsIn) := ⟨rfl, rfl, rfl, by decide +kernel, rfl, by decide +kernel, by decide +kernel⟩
def spNs (K : PySem.W.Frag) : Sp := fun vs H Q _ => ∃ (a : Addr) (ns : List Nat), vs = [.ref a] ∧ SqL K H a (ns.map fun n => V.str (num n)) ∧ ns.length ≤ 1000 ∧ (∀ n ∈ ns, n < 10 ^ 30) ∧ ∀ (b : Addr) H', Same H H' → SqT K H' b ((ns.map fun (n : Nat) => (n : Int)).map V.int) → Q (.ref b) H'
theorem ok_ns {f fN : Addr} {fd fdN : FuncData} (F : Fun K "numbers_in" "numbers_in" sNumsIn f fd) (DN : DefAt K mg "number_in" sNumIn ["word"] fN fdN) (B : Bare mg) (mS : mg "FIGURES" = some (.str sFig t1)) (mF : mg "MOST_FIGURES" = some (.int 30 t2)) : FnOk P w K mg base CX0 2 f fd ["words"] (spNs K) := by
  have GN : FnOk P w K mg base CX0 1 fN fdN ["word"] spNI := ok_ni DN.fn B mS mF
  refine F.ok scNs (fun vs H Q E h => ?_) (fun cdv A outer s H vs Q E hr h => ?_)
  · obtain ⟨a, ns, rfl, _⟩ := h
    rfl
  · obtain ⟨a, ns, rfl, hS, hl, hn, q⟩ := h
    refine ⟨_, pss_cons (ps_setLc (i := 1) (own := [("word", 2)]) (g := gName 2) (tt := tYes) rfl scNs.nd rfl rfl (by rfl) (pi_list (pv 0)) (blkOk_by (N := ["words", "numbers", "word", "number"]) (sc := defScope sNumsIn) (by decide +kernel)) (fun _ _ _ _ _ => pg_name (i := 2) scNs.nd rfl (Or.inl rfl)) (fun _ _ _ _ _ => pts_nil)
          (fun _ _ _ _ _ => pe_call GN hr (by rfl) DN.mg DN.fn.kp DN.bi .nil pass0 (pa_cons (pv 2) pa_nil)))
      (pss_cons (ps_if (pt_val (pe_callB (cr_any rfl) (by rfl) B.any (by decide +kernel) (pa_cons (pe_lc (own := [("number", 3)]) (g := gName 3) (tt := tYes) rfl scNs.nd (pi_list (pv 1)) (blkOk_by (N := ["words", "numbers", "word", "number"]) (sc := defScope sNumsIn) (by decide +kernel)) (fun _ _ _ _ _ => pg_name (i := 3) scNs.nd rfl (Or.inl rfl)) (fun _ _ _ _ _ => pts_nil)
          (fun _ _ _ _ _ => pe_cmpR op_isN (pv 3) pe_non (nomark _))) pa_nil))) (pss_one (ps_ret pe_non)) pss_nil)
      (pss_one (ps_ret (pe_tupleOf (by rfl) B.tuple (pv 1))))), ?_⟩
    refine ⟨.ref a, rfl, a, rfl, ⟨_, hS⟩, fun D nD => ?_⟩
    refine lc_mapV (ys := ns.map fun (n : Nat) => V.int (n : Int)) hS (by rw [List.length_map]; omega) (by rw [List.length_map, List.length_map]) nD (fun i x y hx hy H' Q' s1 q1 => ?_) fun H1 s1 e1 => ?_
    · obtain ⟨n, g, rfl⟩ := map_at hx
      obtain ⟨n', g', rfl⟩ := map_at hy
      cases g.symm.trans g'
      exact ⟨.str (num n), rfl, n, rfl, hn n (List.mem_of_getElem? g), fun H2 s2 => q1 H2 s2⟩
    refine nx_step ?_
    have L1 : SqL K H1 D (ns.map fun (n : Nat) => V.int (n : Int)) := lstNew e1
    refine ⟨.ref D, rfl, D, rfl, ⟨_, L1⟩, fun D2 nD2 => ?_⟩
    refine lc_mapV (ys := List.replicate ns.length (V.bl false)) L1 (by rw [List.length_map]; omega) (by rw [List.length_replicate, List.length_map]) nD2 (fun i x y hx hy H' Q' s2 q1 => ?_) fun H2 s2 e2 => ?_
    · obtain ⟨n, g, rfl⟩ := map_at hx
      have ey : y = V.bl false := (List.mem_replicate.mp (List.mem_of_getElem? hy)).2
      subst ey
      exact ⟨_, rfl, rfl, q1 H' (Same.refl H')⟩
    refine ⟨D2, List.replicate ns.length false, rfl, lstNew (by rw [e2, List.map_replicate]), ?_⟩
    have e3 : (List.replicate ns.length false).any id = false := by
      rw [List.any_eq_false]
      intro x hx
      rw [(List.mem_replicate.mp hx).2]; decide
    rw [e3]
    refine ⟨false, rfl, iteF ?_⟩
    unfold tNext
    dsimp only
    refine ⟨.ref D, rfl, .inl ⟨D, _, rfl, sqL_same s2 L1, fun b nb => q b _ ((s1.trans s2).trans (same_upd nb)) (tupNew (by rw [upd_same, List.map_map]; rfl))⟩⟩
end
end K53
set_option maxHeartbeats 4000000
namespace K53
open PySem PySem.Spec PyProof.Rows L2 RV TL
theorem len_app (x y : Str) : (x ++ y).length = x.length + y.length := by rw [len_tl, len_tl, len_tl, tl_append, List.length_append]
theorem num_str {x : Int} (h : 0 ≤ x) : ((toString x : String) : Str) = num x.toNat := by
  have z := num_of h
  exact V.str.inj z
theorem log_small {x : Int} (h0 : 0 ≤ x) (h : x < 10 ^ 30) : x.natAbs.log2 < 1920 := by
  have e : x = ((x.toNat : Nat) : Int) := by omega
  rw [e]
  exact num_log (by have : ((x.toNat : Nat) : Int) < 10 ^ 30 := by omega
                    exact_mod_cast this)
theorem nat_small {x : Int} (h0 : 0 ≤ x) (h : x < 10 ^ 30) : x.toNat < 10 ^ 30 := by
  have : ((x.toNat : Nat) : Int) < 10 ^ 30 := by omega
  exact_mod_cast this
def rJoin (K : PySem.W.Frag) : V → List V → Hp → VK → Prop := fun x xs H Q => ∃ a p, ∃ ys : List Str, x = .str a ∧ xs = [.ref p] ∧ (SqL K H p (ys.map V.str) ∨ SqT K H p (ys.map V.str)) ∧
      (ys.map (·.length)).sum + ys.length * a.length ≤ 16777216 ∧ Q (.str (Txt.join a ys)) H
theorem pe_joinK {X : Cx} {K : PySem.W.Frag} {o e : Expr} {to te : TE} {apos pos : Pos} (h : X.K = K) (ho : PE X o to) (he : PE X e te) (hs : starEach [e] X.env = [(false, eval e X.env)] := by rfl) (hbase : attributeBase o "join" X.env (eval o X.env) = eval o X.env := by rfl) (hline : (apos.endLine == pos.line) = true := by rfl) :
    PE X (.Call (.Attribute o "join" apos) [e] [] pos) (tM1 (rJoin K) to te) := by
  subst h
  exact pe_join ho he hs hbase hline
end K53
set_option maxHeartbeats 4000000
/-! texts of any signs: words, numbers -/
namespace K53
open PySem PySem.Spec PyProof.Rows L2 RV TL
theorem pre_hit (s : Nat) (r : List Nat) : pre [s] (s :: r) = true := pre_self [s] r
theorem spl_ne (s : Nat) : ∀ (l acc : List Nat), spl [s] 0 acc l ≠ []
  | [], acc => by rw [spl_nil]; simp
  | c :: r, acc => by
    by_cases h : c = s
    · subst h; rw [spl_hit (pre_hit c r)]; simp
    · rw [spl_miss (pre_of_head [] r h)]; exact spl_ne s r _
theorem joinL_cons (S p : List Nat) {l : List (List Nat)} (h : l ≠ []) : joinL S (p :: l) = p ++ (S ++ joinL S l) := by
  cases l with
  | nil => exact absurd rfl h
  | cons q r => rfl
theorem joinL_spl (s : Nat) : ∀ (l acc : List Nat), joinL [s] (spl [s] 0 acc l) = acc ++ l
  | [], acc => by rw [spl_nil]; simp [joinL]
  | c :: r, acc => by
    by_cases h : c = s
    · subst h
      rw [spl_hit (pre_hit c r)]
      show joinL [c] (acc :: spl [c] 0 [] r) = _
      rw [joinL_cons _ _ (spl_ne c r []), joinL_spl c r []]; simp
    · rw [spl_miss (pre_of_head [] r h), joinL_spl s r _]; simp
theorem spl_free (s : Nat) : ∀ (l acc : List Nat), s ∉ acc → ∀ p ∈ spl [s] 0 acc l, s ∉ p
  | [], acc, ha, p, hp => by rw [spl_nil] at hp; rw [List.mem_singleton.mp hp]; exact ha
  | c :: r, acc, ha, p, hp => by
    by_cases h : c = s
    · subst h
      rw [spl_hit (pre_hit c r)] at hp
      rcases List.mem_cons.mp hp with rfl | hp
      · exact ha
      · exact spl_free c r [] (by simp) p hp
    · rw [spl_miss (pre_of_head [] r h)] at hp
      exact spl_free s r _ (by simp [ha, Ne.symm h]) p hp
theorem spl_sum (s : Nat) : ∀ (l acc : List Nat), ((spl [s] 0 acc l).map List.length).sum + (spl [s] 0 acc l).length = acc.length + l.length + 1
  | [], acc => by rw [spl_nil]; simp
  | c :: r, acc => by
    by_cases h : c = s
    · subst h
      rw [spl_hit (pre_hit c r)]
      have z := spl_sum c r []
      show (List.map List.length (acc :: spl [c] 0 [] r)).sum + (acc :: spl [c] 0 [] r).length = _
      rw [List.map_cons, List.sum_cons, List.length_cons, List.length_cons]
      simp at z; omega
    · rw [spl_miss (pre_of_head [] r h)]
      have z := spl_sum s r (acc ++ [c])
      rw [List.length_append] at z
      simp only [List.length_cons, List.length_nil] at z ⊢; omega
theorem mem_sum {l : List Str} {p : Str} (h : p ∈ l) : p.length ≤ (l.map (·.length)).sum := by
  induction l with
  | nil => cases h
  | cons a r ih =>
    rw [List.map_cons, List.sum_cons]
    rcases List.mem_cons.mp h with rfl | h
    · omega
    · have := ih h; omega
/-- a text's pieces by one sign -/
structure Cut (y x : Str) (s : Nat) (ws : List Str) : Prop where
  ne : ws ≠ []
  join : tl x = joinL [s] (ws.map tl)
  free : ∀ w ∈ ws, s ∉ tl w
  sum : (ws.map (·.length)).sum + ws.length = x.length + 1
theorem cut_of {y : Str} {s : Nat} (ey : tl y = [s]) (hk : y.cps.all (· < 256) = true) (x : Str) : Cut y x s (Txt.split x y) := by
  have e := split_spl x y (by rw [ey]; simp) (kind_ok hk)
  rw [ey] at e
  refine ⟨fun z => ?_, by rw [e, joinL_spl]; rfl, fun w hw => ?_, ?_⟩
  · rw [z] at e
    exact spl_ne s _ _ e.symm
  · exact spl_free s (tl x) [] (by simp) (tl w) (by rw [← e]; exact List.mem_map_of_mem hw)
  · have z := spl_sum s (tl x) []
    rw [← e] at z
    rw [List.map_map, List.length_map] at z
    have e2 : List.map (List.length ∘ tl) (Txt.split x y) = (Txt.split x y).map (·.length) := List.map_congr_left fun w _ => (len_tl w).symm
    rw [e2, ← len_tl] at z
    simp at z ⊢; omega
theorem Cut.len {y x : Str} {s : Nat} {ws : List Str} (h : Cut y x s ws) : ws.length ≤ x.length + 1 := by have := h.sum; omega
theorem Cut.short {y x : Str} {s : Nat} {ws : List Str} (h : Cut y x s ws) {w : Str} (hw : w ∈ ws) : w.length ≤ x.length := by
  have h1 := h.sum
  have h2 := mem_sum hw
  have h3 : 1 ≤ ws.length := List.length_pos_iff.mpr h.ne
  omega
theorem cut_nl (x : Str) : Cut nl1 x 10 (Txt.split x nl1) := cut_of tl_nl (by decide +kernel) x
theorem cut_sp (x : Str) : Cut sp1 x 32 (Txt.split x sp1) := cut_of tl_sp (by decide +kernel) x
/-! ### numbers -/
theorem allDigits_app {l m : List Nat} : NumText.AllDigits (l ++ m) ↔ NumText.AllDigits l ∧ NumText.AllDigits m :=
  ⟨fun h => ⟨fun c hc => h c (List.mem_append_left _ hc), fun c hc => h c (List.mem_append_right _ hc)⟩, fun h c hc => (List.mem_append.mp hc).elim (h.1 c) (h.2 c)⟩
def valL (l : List Nat) : Nat := l.foldl (fun a c => a * 10 + (c - 48)) 0
theorem valL_app (l : List Nat) (c : Nat) : valL (l ++ [c]) = valL l * 10 + (c - 48) := by unfold valL; rw [List.foldl_append]; rfl
/-- figures without a nought ahead are the text of a number -/
theorem numL_of : ∀ (k : Nat) (l : List Nat), l.length = k + 1 → NumText.AllDigits l → (k = 0 ∨ l.head? ≠ some 48) → numL (valL l) = l ∧ (l.head? ≠ some 48 → 1 ≤ valL l) ∧ valL l < 10 ^ (k + 1)
  | 0, l, hl, hd, _ => by
    obtain ⟨c, rfl⟩ : ∃ c, l = [c] := by
      cases l with
      | nil => cases hl
      | cons c r => cases r with
        | nil => exact ⟨c, rfl⟩
        | cons _ _ => simp at hl
    have hc := hd c (List.mem_singleton.mpr rfl)
    have h0 : 48 ≤ c := hc.1
    have h1 : c ≤ 57 := hc.2
    have e : valL [c] = c - 48 := by unfold valL; simp
    rw [e]
    refine ⟨?_, fun n => ?_, by omega⟩
    · rw [numL_lt (by omega)]; congr 1; omega
    · have : c ≠ 48 := fun z => n (by rw [z]; rfl)
      omega
  | k + 1, l, hl, hd, h => by
    rcases List.eq_nil_or_concat l with rfl | ⟨m, c, rfl⟩
    · cases hl
    rw [List.concat_eq_append] at *
    have lm : m.length = k + 1 := by rw [List.length_append] at hl; simpa using hl
    have h : (m ++ [c]).head? ≠ some 48 := h.resolve_left (by omega)
    have hm : m.head? ≠ some 48 := by
      cases m with
      | nil => cases lm
      | cons a r => simpa using h
    obtain ⟨d1, d2⟩ := allDigits_app.mp hd
    obtain ⟨i1, i2, i3⟩ := numL_of k m lm d1 (.inr hm)
    have i2 := i2 hm
    have hc := d2 c (List.mem_singleton.mpr rfl)
    have h0 : 48 ≤ c := hc.1
    have h1 : c ≤ 57 := hc.2
    rw [valL_app]
    have q1 : (valL m * 10 + (c - 48)) / 10 = valL m := by omega
    have q2 : (valL m * 10 + (c - 48)) % 10 = c - 48 := by omega
    refine ⟨?_, fun _ => by omega, ?_⟩
    · rw [numL_step (by omega), q1, q2, i1]; congr 2; omega
    · rw [Nat.pow_succ]; omega
open Classical in
theorem numF_ex : ∃ f : Str → Option Nat, ∀ w n, f w = some n ↔ n < 10 ^ 30 ∧ w = num n := by
  refine ⟨fun w => if h : ∃ n, n < 10 ^ 30 ∧ w = num n then some h.choose else none, fun w n => ?_⟩
  constructor
  · intro h
    dsimp only at h
    split at h
    · rename_i g
      obtain rfl := Option.some.inj h
      exact g.choose_spec
    · cases h
  · rintro ⟨h1, rfl⟩
    have g : ∃ k, k < 10 ^ 30 ∧ num n = num k := ⟨n, h1, rfl⟩
    dsimp only
    rw [dif_pos g]
    exact congrArg some (num_inj g.choose_spec.2).symm
/-- the number that a word writes -/
@[irreducible] noncomputable def numF : Str → Option Nat := numF_ex.choose
theorem numF_some {w : Str} {n : Nat} : numF w = some n ↔ n < 10 ^ 30 ∧ w = num n := by
  unfold numF
  exact numF_ex.choose_spec w n
theorem numF_none {w : Str} : numF w = none ↔ ∀ n, n < 10 ^ 30 → w ≠ num n := by
  constructor
  · intro h n hn e
    rw [numF_some.mpr ⟨hn, e⟩] at h; cases h
  · intro h
    cases e : numF w with
    | none => rfl
    | some n => exact absurd (numF_some.mp e).2 (h n (numF_some.mp e).1)
/-- figures alone, few, without a nought ahead -/
theorem numF_of {w : Str} (h0 : 0 < w.length) (h30 : w.length ≤ 30) (hd : NumText.AllDigits (tl w)) (hz : w.length = 1 ∨ (tl w).head? ≠ some 48) : ∃ n, n < 10 ^ 30 ∧ w = num n := by
  rw [len_tl] at h0 h30 hz
  obtain ⟨e1, _, e3⟩ := numL_of ((tl w).length - 1) (tl w) (by omega) hd (hz.imp (fun e => by omega) id)
  refine ⟨valL (tl w), Nat.lt_of_lt_of_le e3 (Nat.pow_le_pow_right (by decide) (by omega)), ext_tl ?_⟩
  rw [tl_nm, e1]
theorem sFig_mem {c : Nat} : c ∈ tl sFig ↔ 48 ≤ c ∧ c ≤ 57 := by
  have e : tl sFig = [48, 49, 50, 51, 52, 53, 54, 55, 56, 57] := by unfold sFig; rw [tl_ofString]; decide
  rw [e]
  simp only [List.mem_cons, List.not_mem_nil, or_false]
  omega
/-- the value of such a word -/
noncomputable def optV (w : Str) : V := match numF w with
  | none => .non
  | some n => .int (n : Int)
end K53
set_option maxHeartbeats 4000000
namespace RV
open PySem PySem.Spec PyProof.Rows L2 TL
/-- [f(c) for c in z], truths, over a text -/
theorem lc_signsB {te : TE} {σ : L2.St} {H1 : Hp} {D : Addr} {v : Nat} {z : Str} (f : Nat → Bool) {Qd : Hp → Prop} (hl : z.length ≤ 100000) (nD : H1 D = none)
    (hte : ∀ c ∈ tl z, ∀ (H' : Hp) (Q : VK), Same H1 H' → (∀ H2, Same H' H2 → Q (.bl (f c)) H2) → te ((wipe σ [v]).set v (some (.str ⟨#[c]⟩))) H' Q)
    (hd : ∀ H', Same H1 H' → H' D = some (.lst (((tl z).map f).map V.bl)) → Qd H') :
    ∃ W : Nat → Nat → Hp → Prop, (∃ m, W 0 m (upd H1 D (.lst []))) ∧ ∀ i m H, W i m H →
      ((Its z).stop i H ∧ Qd H) ∨ ((Its z).go i H ∧ ∃ Nx : Hp → Prop, (∀ H', Nx H' → ∃ m', m' < m ∧ W (i + 1) m' H') ∧ ∀ x H', (Its z).yld i H x H' → gName v x (wipe σ [v]) H' fun σ2 H2 => wipe σ2 [v] = wipe σ [v] ∧ tYes σ2 H2 fun b H3 =>
        if b = true then te σ2 H3 fun y H4 => ∃ acc, H4 D = some (.lst acc) ∧ acc.length < sizeLine ∧ Nx (upd H4 D (.lst (acc ++ [y]))) else Nx H3) := by
  have ez : z.cps.size = z.length := rfl
  have et : (tl z).length = z.length := (len_tl z).symm
  refine ⟨fun i m H' => i ≤ z.length ∧ m = z.length - i ∧ Same H1 H' ∧ H' D = some (.lst ((((tl z).take i).map f).map V.bl)), ⟨_, Nat.zero_le _, rfl, same_upd nD, upd_same⟩, fun i m H' p => ?_⟩
  obtain ⟨p1, p2, p3, p4⟩ := p
  by_cases e : i < z.length
  · refine Or.inr ⟨e, fun H' => i + 1 ≤ z.length ∧ Same H1 H' ∧ H' D = some (.lst ((((tl z).take (i + 1)).map f).map V.bl)), fun H2 q => ⟨z.length - (i + 1), by omega, q.1, rfl, q.2⟩, fun x H2 y => ?_⟩
    obtain ⟨rfl, c, hc, rfl⟩ := y
    have gc : (tl z)[i]? = some c := by show z.cps.toList[i]? = _; rw [Array.getElem?_toList]; exact hc
    refine nx_step ?_
    refine ⟨by simp [wipe, List.set_set], tt_yes (hte c (List.mem_of_getElem? gc) _ _ p3 fun H3 s3 => ⟨_, s3 _ _ p4, ?_, e, fun b o w => ?_, ?_⟩)⟩
    · rw [List.length_map, List.length_map, List.length_take, sizeLine_eq]; omega
    · rw [upd_ne (ne_of_none w nD)]; exact s3 _ _ (p3 b o w)
    · rw [upd_same, List.take_add_one, gc, List.map_append, List.map_append]; rfl
  · refine Or.inl ⟨by show z.cps.size ≤ i; rw [ez]; omega, hd H' p3 ?_⟩
    rw [List.take_of_length_le (by omega)] at p4
    exact p4
end RV
set_option maxHeartbeats 4000000
namespace K53
open PySem PySem.Spec PyProof.Rows L2 RV TL
theorem all_map {α : Type} (f : α → Bool) (l : List α) : (l.map f).all id = l.all f := by rw [List.all_map]; rfl
theorem any_map {α : Type} (f : α → Bool) (l : List α) : (l.map f).any id = l.any f := by rw [List.any_map]; rfl
/-- the numbers of words, none where one writes none -/
noncomputable def numsF (ws : List Str) : Option (List Nat) := if (ws.any fun w => (numF w).isNone) = true then none else some (ws.filterMap numF)
theorem numsF_cases (ws : List Str) : ((ws.any fun w => (numF w).isNone) = true ∧ numsF ws = none) ∨ ((ws.any fun w => (numF w).isNone) = false ∧ numsF ws = some (ws.filterMap numF)) := by
  unfold numsF
  cases ws.any fun w => (numF w).isNone with
  | true => exact .inl ⟨rfl, if_pos rfl⟩
  | false => exact .inr ⟨rfl, if_neg (by decide)⟩
theorem optV_none (w : Str) : decide (optV w = .non) = (numF w).isNone := by
  unfold optV
  cases numF w with
  | none => exact decide_eq_true rfl
  | some n => exact decide_eq_false (by intro z; cases z)
theorem optV_ints : ∀ ws : List Str, (ws.any fun w => (numF w).isNone) = false → ws.map optV = ((ws.filterMap numF).map fun (n : Nat) => (n : Int)).map V.int
  | [], _ => rfl
  | w :: r, h => by
    rw [List.any_cons, Bool.or_eq_false_iff] at h
    obtain ⟨n, e⟩ : ∃ n, numF w = some n := Option.ne_none_iff_exists'.mp fun z => by rw [z] at h; exact absurd h.1 (by simp)
    have e2 : optV w = .int (n : Int) := by unfold optV; rw [e]
    rw [List.map_cons, optV_ints r h.2, List.filterMap_cons_some e, e2]; rfl
section
variable {P : Program} {w : World} {K : PySem.W.Frag} {mg : Str → Option Value} {base : Heap} {t1 t2 : Tok}
/-! ### number_in of any word -/
def spNIA : Sp := fun vs H Q _ => ∃ z : Str, vs = [.str z] ∧ z.length ≤ 100000 ∧ ∀ H', Same H H' → Q (optV z) H'
theorem ok_nia {f : Addr} {fd : FuncData} (F : Fun K "number_in" "number_in" sNumIn f fd) (B : Bare mg) (mS : mg "FIGURES" = some (.str sFig t1)) (mF : mg "MOST_FIGURES" = some (.int 30 t2)) : FnOk P w K mg base CX0 1 f fd ["word"] spNIA := by
  refine F.ok scNI (fun vs H Q E h => ?_) (fun cdv A outer s H vs Q E hr h => ?_)
  · obtain ⟨n, rfl, _⟩ := h
    rfl
  · obtain ⟨z, rfl, hz, q⟩ := h
    refine ⟨_, pss_cons (ps_if (PW.pt (pw_or (pt_not (pt_chain op_lt op_le pe_int (pe_callB call_len_str (by rfl) B.len PySem.boot_len (pa_cons (pv 0) pa_nil)) (pe_glob (v := .int 30) rfl mF ⟨_, rfl⟩)))
        (pw_or1 (pt_not (pt_val (pe_callB (cr_all rfl) (by rfl) B.all (by decide +kernel) (pa_cons (pe_lc (own := [("sign", 1)]) (g := gName 1) (tt := tYes) rfl scNI.nd (pi_str (pv 0)) (blkOk_by (N := ["word", "sign"]) (sc := defScope sNumIn) (by decide +kernel)) (fun _ _ _ _ _ => pg_name (i := 1) scNI.nd rfl (Or.inl rfl)) (fun _ _ _ _ _ => pts_nil)
          (fun _ _ _ _ _ => pe_cmpR op_in_sign (pv 1) (pe_glob (v := .str sFig) rfl mS ⟨_, rfl⟩) (by rfl))) pa_nil))))))) (pss_one (ps_ret pe_non)) pss_nil)
      (pss_cons (ps_if (PW.pt (pw_and (pt_cmpR op_gt (pe_callB call_len_str (by rfl) B.len PySem.boot_len (pa_cons (pv 0) pa_nil)) pe_int (nomark _)) (pw_and1 (pt_cmpR op_eq (pe_ix ix_str (pv 0) pe_int (fun _ _ => rfl)) pe_str (nomark _))))) (pss_one (ps_ret pe_non)) pss_nil)
      (pss_one (ps_ret (pe_callTy call_int_str (by rfl) B.int (by decide +kernel) (pa_cons (pv 0) pa_nil))))), ?_⟩
    have none_ : numF z = none → ∀ H', Same H H' → Q .non H' := fun e H' s => by
      have y := q H' s
      unfold optV at y
      rw [e] at y; exact y
    have long : ∀ n, n < 10 ^ 30 → z = num n → 0 < z.length ∧ z.length ≤ 30 ∧ (∀ c ∈ tl z, c ∈ tl sFig) := fun n hn e => by
      rw [e]
      exact ⟨num_pos n, num_len hn, fun c hc => num_sign hc⟩
    refine ⟨.str z, rfl, z, rfl, by rw [sizeLine_eq]; omega, 0, _, rfl, rfl, _, rfl, ?_⟩
    by_cases h0 : 0 < z.length
    · rw [decide_eq_true (show (0 : Int) < (z.length : Int) by omega)]
      refine iteT ⟨_, _, rfl, rfl, decide ((z.length : Int) ≤ 30), rfl, ?_⟩
      by_cases h30 : z.length ≤ 30
      · rw [decide_eq_true (show (z.length : Int) ≤ 30 by omega)]
        refine iteF ⟨.str z, rfl, z, rfl, fun D nD => lc_signsB (fun c => decide (c ∈ sFig.cps.toList)) (by omega) nD (fun c hc H' Q' s1 q1 => ?_) fun H1 s1 e1 => ?_⟩
        · exact ⟨_, rfl, c, sFig, rfl, rfl, q1 H' (Same.refl H')⟩
        refine ⟨D, _, rfl, lstNew e1, ?_⟩
        rw [all_map]
        cases hd : (tl z).all fun c => decide (c ∈ sFig.cps.toList) with
        | false =>
          refine ⟨false, rfl, iteT (none_ (numF_none.mpr fun n hn e => ?_) H1 s1)⟩
          have : ((tl z).all fun c => decide (c ∈ sFig.cps.toList)) = true := List.all_eq_true.mpr fun c hc => decide_eq_true ((long n hn e).2.2 c hc)
          rw [hd] at this; cases this
        | true =>
          have hd2 : NumText.AllDigits (tl z) := fun c hc => by
            have y := sFig_mem.mp (of_decide_eq_true (List.all_eq_true.mp hd c hc))
            exact ⟨y.1, y.2⟩
          refine ⟨true, rfl, iteF ?_⟩
          unfold tNext
          dsimp only
          refine ⟨.str z, rfl, z, rfl, by rw [sizeLine_eq]; omega, _, 1, rfl, rfl, decide ((z.length : Int) > 1), rfl, ?_⟩
          have num_ : (z.length = 1 ∨ (tl z).head? ≠ some 48) → ∀ H', Same H H' → ∃ n, n < 10 ^ 30 ∧ z = num n ∧ Q (.int (n : Int)) H' := fun hh H' s => by
            obtain ⟨n, hn, e⟩ := numF_of h0 h30 hd2 hh
            refine ⟨n, hn, e, ?_⟩
            have y := q H' s
            unfold optV at y
            rw [numF_some.mpr ⟨hn, e⟩] at y; exact y
          by_cases e : 1 < z.length
          · rw [decide_eq_true (show (z.length : Int) > 1 by omega)]
            obtain ⟨c, r, et⟩ : ∃ c r, tl z = c :: r := by
              cases e2 : tl z with
              | nil => rw [len_tl, e2] at e; cases e
              | cons c r => exact ⟨c, r, rfl⟩
            refine iteT ⟨.str z, rfl, z, 0, c, rfl, rfl, by rw [sizeLine_eq]; omega, ?_, rfl, decide (V.str ⟨#[c]⟩ = V.str (Str.ofString "0")), rfl, ?_⟩
            · show atI (tl z) 0 = some c
              rw [et]; exact atI_0
            have ec : decide (V.str (⟨#[c]⟩ : Str) = V.str (Str.ofString "0")) = decide (c = 48) := by
              refine decide_eq_decide.mpr ⟨fun y => ?_, fun y => by rw [y]; rfl⟩
              have z1 : tl (⟨#[c]⟩ : Str) = tl (Str.ofString "0") := by
                have := V.str.inj y
                rw [this]
              rw [tl_ofString] at z1
              exact (List.cons.inj z1).1
            rw [ec]
            by_cases c48 : c = 48
            · rw [decide_eq_true c48]
              refine iteT (none_ (numF_none.mpr fun n hn e2 => ?_) H1 s1)
              have ln : 1 < (num n).length := by rw [← e2]; exact e
              obtain ⟨c', r', e3, e4⟩ := numL_head n (by have := num_two ln; omega)
              rw [e2, tl_nm, e3] at et
              exact e4 (by rw [(List.cons.inj et).1, c48])
            · rw [decide_eq_false c48]
              obtain ⟨n, hn, e2, y⟩ := num_ (.inr (by rw [et]; simpa using c48)) H1 s1
              refine iteF ⟨.str z, rfl, z, (n : Int), rfl, by rw [e2]; exact num_int hn, by omega, y⟩
          · rw [decide_eq_false (show ¬ (z.length : Int) > 1 by omega)]
            obtain ⟨n, hn, e2, y⟩ := num_ (.inl (by omega)) H1 s1
            refine iteF (iteF ?_)
            exact ⟨.str z, rfl, z, (n : Int), rfl, by rw [e2]; exact num_int hn, by omega, y⟩
      · rw [decide_eq_false (show ¬ (z.length : Int) ≤ 30 by omega)]
        exact iteT (none_ (numF_none.mpr fun n hn e => h30 (long n hn e).2.1) H (Same.refl H))
    · rw [decide_eq_false (show ¬ (0 : Int) < (z.length : Int) by omega)]
      refine iteF ⟨false, rfl, ?_⟩
      exact iteT (none_ (numF_none.mpr fun n hn e => h0 (long n hn e).1) H (Same.refl H))
/-! ### numbers_in of any words -/
/-- a tuple of these numbers, or none -/
def PairV (K : PySem.W.Frag) (H : Hp) (v : V) (r : Option (List Nat)) : Prop := (v = .non ∧ r = none) ∨ ∃ (t : Addr) (ns : List Nat), v = .ref t ∧ r = some ns ∧ SqT K H t ((ns.map fun (n : Nat) => (n : Int)).map V.int)
theorem PairV.same {K : PySem.W.Frag} {H H' : Hp} {v : V} {r : Option (List Nat)} (h : PairV K H v r) (s : Same H H') : PairV K H' v r := h.imp id fun ⟨t, ns, e1, e2, h⟩ => ⟨t, ns, e1, e2, sqT_same s h⟩
def spNsA (K : PySem.W.Frag) : Sp := fun vs H Q _ => ∃ (a : Addr) (ws : List Str), vs = [.ref a] ∧ SqL K H a (ws.map V.str) ∧ ws.length ≤ 100000 ∧ (∀ z ∈ ws, z.length ≤ 100000) ∧ ∀ v H', Same H H' → PairV K H' v (numsF ws) → Q v H'
theorem ok_nsa {f fN : Addr} {fd fdN : FuncData} (F : Fun K "numbers_in" "numbers_in" sNumsIn f fd) (DN : DefAt K mg "number_in" sNumIn ["word"] fN fdN) (B : Bare mg) (mS : mg "FIGURES" = some (.str sFig t1)) (mF : mg "MOST_FIGURES" = some (.int 30 t2)) : FnOk P w K mg base CX0 2 f fd ["words"] (spNsA K) := by
  have GN : FnOk P w K mg base CX0 1 fN fdN ["word"] spNIA := ok_nia DN.fn B mS mF
  refine F.ok scNs (fun vs H Q E h => ?_) (fun cdv A outer s H vs Q E hr h => ?_)
  · obtain ⟨a, ws, rfl, _⟩ := h
    rfl
  · obtain ⟨a, ws, rfl, hS, hl, hn, q⟩ := h
    refine ⟨_, pss_cons (ps_setLc (i := 1) (own := [("word", 2)]) (g := gName 2) (tt := tYes) rfl scNs.nd rfl rfl (by rfl) (pi_list (pv 0)) (blkOk_by (N := ["words", "numbers", "word", "number"]) (sc := defScope sNumsIn) (by decide +kernel)) (fun _ _ _ _ _ => pg_name (i := 2) scNs.nd rfl (Or.inl rfl)) (fun _ _ _ _ _ => pts_nil)
          (fun _ _ _ _ _ => pe_call GN hr (by rfl) DN.mg DN.fn.kp DN.bi .nil pass0 (pa_cons (pv 2) pa_nil)))
      (pss_cons (ps_if (pt_val (pe_callB (cr_any rfl) (by rfl) B.any (by decide +kernel) (pa_cons (pe_lc (own := [("number", 3)]) (g := gName 3) (tt := tYes) rfl scNs.nd (pi_list (pv 1)) (blkOk_by (N := ["words", "numbers", "word", "number"]) (sc := defScope sNumsIn) (by decide +kernel)) (fun _ _ _ _ _ => pg_name (i := 3) scNs.nd rfl (Or.inl rfl)) (fun _ _ _ _ _ => pts_nil)
          (fun _ _ _ _ _ => pe_cmpR op_isN (pv 3) pe_non (nomark _))) pa_nil))) (pss_one (ps_ret pe_non)) pss_nil)
      (pss_one (ps_ret (pe_tupleOf (by rfl) B.tuple (pv 1))))), ?_⟩
    refine ⟨.ref a, rfl, a, rfl, ⟨_, hS⟩, fun D nD => ?_⟩
    refine lc_mapV (ys := ws.map optV) hS (by rw [List.length_map]; omega) (by rw [List.length_map, List.length_map]) nD (fun i x y hx hy H' Q' s1 q3 => ?_) fun H1 s1 e1 => ?_
    · obtain ⟨z, g, rfl⟩ := map_at hx
      obtain ⟨z', g', rfl⟩ := map_at hy
      cases g.symm.trans g'
      exact ⟨.str z, rfl, z, rfl, hn z (List.mem_of_getElem? g), fun H2 s2 => q3 H2 s2⟩
    refine nx_step ?_
    have L1 : SqL K H1 D (ws.map optV) := lstNew e1
    refine ⟨.ref D, rfl, D, rfl, ⟨_, L1⟩, fun D2 nD2 => ?_⟩
    refine lc_mapV (ys := (ws.map fun w => (numF w).isNone).map V.bl) L1 (by rw [List.length_map]; omega) (by rw [List.length_map, List.length_map, List.length_map]) nD2 (fun i x y hx hy H' Q' s2 q3 => ?_) fun H2 s2 e2 => ?_
    · obtain ⟨z, g, rfl⟩ := map_at hx
      obtain ⟨b, gb, rfl⟩ := map_at hy
      obtain ⟨z', g', rfl⟩ := map_at gb
      cases g.symm.trans g'
      refine ⟨_, rfl, rfl, ?_⟩
      rw [optV_none]
      exact q3 H' (Same.refl H')
    refine ⟨D2, _, rfl, lstNew e2, ?_⟩
    rw [any_map]
    rcases numsF_cases ws with ⟨e3, e4⟩ | ⟨e3, e4⟩
    · rw [e3]
      exact ⟨true, rfl, iteT (q .non H2 (s1.trans s2) (.inl ⟨rfl, e4⟩))⟩
    · rw [e3]
      refine ⟨false, rfl, iteF ?_⟩
      unfold tNext
      dsimp only
      have L2 := L1
      rw [optV_ints ws e3] at L2
      refine ⟨.ref D, rfl, .inl ⟨D, _, rfl, sqL_same s2 L2, fun b nb => q (.ref b) _ ((s1.trans s2).trans (same_upd nb)) (.inr ⟨b, _, rfl, e4, tupNew upd_same⟩)⟩⟩
end
end K53
set_option maxHeartbeats 4000000
/-! an own exception over ValueError whose __init__ begins with super().__init__(e). -/
namespace RV
open PySem PySem.Spec PyProof.Rows L2
/-! ### the wrapped ValueError.__init__, called -/
section
variable {prog : Program} {w : World} {A : Around} {E : Value → Shared → Prop} {h : Heap} {g : Array GenState} {d : Drawn} {t : Nat} {os : OsState}
variable {nm q : Str} {C N : Addr} {bs bm : List Value} {hdct : Bool} {sn : List Str} {sub : List Value} {ab : Bool} {col : Option Bool} {dd : Option Addr} {k0 k1 k2 k3 k5 : Option Value}
theorem call_sup {u e t0 : Addr} {rest : List Value} {Q : Value → Shared → Prop}
    (hC : h.get? C = some (excClassObj nm q C N bs bm hdct sn sub ab col dd k0 k1 k2 k3 k5 "ValueError.__new__")) (he : h.get? e = some (HandSPX.excO C t0)) (hu : h.get? u = some (W.kxs_mw "ValueError.__init__" e)) (hrest : rest.length ≤ sizeLine)
    (hq : ∀ h' t1, (∀ b o, b ≠ e → h.get? b = some o → h'.get? b = some o) → h'.get? e = some (HandSPX.excO C t1) → Q .none ⟨h', g, d, t, os⟩) :
    wpAny (model prog w) A (call (.ref u) rest) Q E ⟨h, g, d, t, os⟩ := by
  refine wpAny_call (codeAny_of_tree ?_)
  show wpAny _ A.in1 (callAny (.ref u) ⟨rest, []⟩) _ _ _
  simp only [callAny]
  refine wpAny_bind (wpAny_load hu ?_)
  simp only [W.kxs_mw, show (Value.type "method-wrapper" == Value.type "method" || Value.type "method-wrapper" == Value.type "builtin_function_or_method" || Value.type "method-wrapper" == Value.type "method-wrapper") = true by decide, if_true]
  refine W.KFB.if_so (by decide) ?_
  refine wpAny_bind (W.check_bound_init F.excBase_ValueError.toExcCallFacts hC he rfl ?_)
  refine wpAny_bind (wpAny_pure (wpAny_pure ?_))
  refine ⟨Code.quiet_builtin _ (by decide +kernel), codeAny_builtin F.excBase_ValueError.initEntry ?_⟩
  rw [Around.under_plainId F.excBase_ValueError.init.plain _]
  wp_walk
  refine hq _ h.objs.size (fun b o hb ho => ?_) ?_
  · rw [Heap.get?_update_other _ _ (Ne.symm hb)]
    exact Heap.get?_push_of_some _ ho
  · rw [Heap.get?_update_self _ (Heap.get?_push_of_some _ he) rfl]
    rfl
end
/-! ### the def -/
abbrev envS (qual : Str) (scope : Scope) (L f : Addr) (cd : Value) (cc : Addr) : Env := PySem.W.envX qual scope L f cd [("__class__", cc)]
/-- what the written part says of it -/
structure SupF (P : Program) (K : PySem.W.Frag) (C : Addr) (name qual : Str) (params : Arguments) (body : List Stmt) (scope : Scope) (f cda cc : Addr) (fd : FuncData) : Prop where
  lk : ∃ oc od osl, K.lookup f = some ⟨oc, od, .func fd, osl⟩
  fd : ∃ kV doc pm an ct, fd = PySem.W.ksFn name qual params body scope .none kV doc pm an (.ref cda) ct cc
  code : PySem.W.codeIn K (.ref cda) qual = true
  file : ∃ ccl cdd vs ccs g tf, K.lookup cda = some ⟨ccl, cdd, .fields vs, ccs⟩ ∧ vs[2]? = some (.str g tf) ∧ ((P.main.file : Str) == g) = true
  cell : ∃ cl cld csl, K.lookup cc = some ⟨cl, cld, .cell (some (.ref C)), csl⟩
  sup : PySem.W.ks_superIn K C C "__init__" = some (some (.builtin "ValueError.__init__"))
  sub : PySem.W.subIn K (.ref C) (.type "ValueError") = some true
  mro : PySem.W.mroIn K C (.ref C) = some true
  stat : PySem.W.nsIn K cStatics "thirdparty.any" = some none
  top : (P.main.scope.names.lookup ("super" : Str)).isSome = false
/-- its scope -/
structure SupScope (N ps : List Str) (sc : Scope) : Prop where
  kind : sc.kind = .function
  co : sc.isCoroutine = false
  gen : sc.isGenerator = false
  nd : N.Nodup
  pre : N.take ps.length = ps
  par : ∀ x ∈ ps, sc.names.lookup x = some .local
  nocell : ∀ y ∈ sc.names, y.2 ≠ .cell
  free : ∀ y ∈ sc.names, y.2 = .free → y.1 = "__class__"
  cls : sc.names.lookup ("__class__" : Str) = some .free
  sup : sc.names.lookup ("super" : Str) = some .globalImplicit
def supScB (N ps : List Str) (sc : Scope) : Bool :=
  decide (sc.kind = .function) && !sc.isCoroutine && !sc.isGenerator && decide N.Nodup && decide (N.take ps.length = ps) && ps.all (fun x => decide (sc.names.lookup x = some .local)) && sc.names.all (fun y => !decide (y.2 = .cell)) && sc.names.all (fun y => !decide (y.2 = .free) || decide (y.1 = ("__class__" : Str))) && decide (sc.names.lookup ("__class__" : Str) = some .free) && decide (sc.names.lookup ("super" : Str) = some .globalImplicit)
theorem supScope_by {N ps : List Str} {sc : Scope} (h : supScB N ps sc = true) : SupScope N ps sc := by
  unfold supScB at h
  simp only [Bool.and_eq_true, Bool.not_eq_true', decide_eq_true_eq, List.all_eq_true, Bool.or_eq_true, decide_eq_false_iff_not] at h
  obtain ⟨⟨⟨⟨⟨⟨⟨⟨⟨h1, h2⟩, h3⟩, h4⟩, h5⟩, h6⟩, h7⟩, h8⟩, h9⟩, h10⟩ := h
  exact ⟨h1, h2, h3, h4, h5, h6, h7, fun y hy e => (h8 y hy).elim (fun z => absurd e z) id, h9, h10⟩
/-- the context of its body -/
def cxS (CX : CXT) (P : Program) (w : World) (K : PySem.W.Frag) (mg : Str → Option Value) (base : Heap) (N : List Str) (qual : Str) (scope : Scope) (f : Addr) (cd : Value) (cc : Addr) (A : Around) (outer : List Env) (s : Shared) (H : Hp) (E : XK) : Cx where
  prog := P
  w := w
  K := K
  mg := mg
  base := base
  A := A.deeper (envS qual scope s.heap.objs.size f cd cc)
  N := N
  s_0 := s
  H_0 := H
  env := envS qual scope s.heap.objs.size f cd cc
  outer := outer
  stack := envS qual scope s.heap.objs.size f cd cc :: outer
  ex := []
  calm := true
  fn := fun _ => false
  pn := []
  xe := fun e s' => wpAny (model P w) (A.deeper (envS qual scope s.heap.objs.size f cd cc)) (leaving (envS qual scope s.heap.objs.size f cd cc) e) (fun _ s'' => CX outer H s E e s'') (fun e' s'' => CX outer H s E e' s'') s'
theorem look1 {cc c : Addr} {x : Str} (e : ([(("__class__" : Str), cc)] : List (Str × Addr)).lookup x = some c) : x = "__class__" ∧ c = cc := by
  simp only [List.lookup] at e
  split at e
  · rename_i q
    exact ⟨beq_iff_eq.mp q, (Option.some.inj e).symm⟩
  · cases e
section
variable {CX : CXT} {P : Program} {w : World} {K : PySem.W.Frag} {mg : Str → Option Value} {base : Heap} {N ps : List Str} {qual : Str} {scope : Scope} {f cc C : Addr} {cd : Value} {A : Around} {outer : List Env} {s : Shared} {H : Hp} {E : XK} {us : List Value} {vs : List V}
theorem inv_sup {h₁ : Heap} {tk : Nat} (S : SupScope N ps scope) (hd : A.handled = none) (e0 : Env0 P w K mg base A outer s H) (hl : vs.length = ps.length) (r : Vals vs us) (hc : ∃ o, base.get? cc = some o ∧ o.data = .cell (some (.ref C)))
    (hns : h₁.Ns s.heap.objs.size fun y => (ps.zip us).reverse.lookup y) (kp : ∀ b o, s.heap.get? b = some o → h₁.get? b = some o) :
    Inv (cxS CX P w K mg base N qual scope f cd cc A outer s H E) [] (L2.start N vs) H { s with heap := h₁, toks := tk } := by
  have hpl : ps.length ≤ N.length := by
    have q := congrArg List.length S.pre
    rw [List.length_take] at q
    omega
  have noA : ∀ b : Addr, b ∉ (cxS CX P w K mg base N qual scope f cd cc A outer s H E).ex := fun b z => absurd (show b ∈ ([] : List Addr) from z) (by simp)
  obtain ⟨oc, hoc, hdc⟩ := hc
  have c1 := e0.bs _ _ hoc
  refine ⟨⟨e0.mod, S.kind, rfl, rfl, Nat.le_refl _, fun x y c h1 h2 => (look1 h1).1.trans (look1 h2).1.symm, fun y hy => ?_, fun y c z _ => ?_, fun _ => hd, Around.frames_deeper e0.frames, .inr ⟨rfl, rfl⟩, fun b z => absurd z (noA b), e0.bs, e0.bsz, fun b _ _ => noA b,
      fun b z => absurd z (noA b), e0.funs, e0.frf⟩,
    rfl, e0.bare, Un.kept kp, ⟨_, hns, fun i y v e1 e2 e3 => ?_⟩, fun y c e => ?_, e0.hok.fresh (Nat.le_refl _), fun y c e => ?_, fun q hq => absurd (show q ∈ ([] : List (Addr × Obj)) ++ [] from hq) (by simp), e0.hok.kept kp, ?_⟩
  · have hy : scope.names.lookup y = some .cell ∨ scope.names.lookup y = some .free := hy
    rcases hy with hy | hy
    · exact absurd rfl (S.nocell _ (PySem.mem_of_lookup hy))
    · have ey : y = "__class__" := S.free _ (PySem.mem_of_lookup hy) rfl
      subst ey
      exact ⟨cc, rfl⟩
  · have z : false = true := z
    cases z
  · have e1 : N[i]? = some y := e1
    unfold L2.start at e2
    by_cases h1 : i < ps.length
    · have hq : ps[i]? = some y := by
        rw [← S.pre, List.getElem?_take_of_lt (by omega)]
        exact e1
      rw [List.getElem?_append_left (by rw [List.length_map]; omega), List.getElem?_map] at e2
      have ha : vs[i]? = some v := by
        cases e : vs[i]? with
        | none => rw [e] at e2; cases e2
        | some a => rw [e] at e2; cases e2; rfl
      obtain ⟨u, hu, rv⟩ := r.get ha
      have ndP : ps.Nodup := by
        have q := S.nd.sublist (List.take_sublist ps.length N)
        rw [S.pre] at q
        exact q
      exact ⟨u, rv, .inl ⟨S.par y (List.mem_of_getElem? hq), NdefX.zip_look ndP hq hu⟩⟩
    · rw [List.getElem?_append_right (by rw [List.length_map]; omega), List.getElem?_replicate] at e2
      split at e2 <;> cases e2
  · obtain ⟨_, rfl⟩ := look1 e
    exact ⟨_, oc, kp _ _ c1.1, hdc⟩
  · obtain ⟨_, rfl⟩ := look1 e
    exact c1.2
  · unfold L2.start
    show _ = N.length
    rw [List.length_append, List.length_map, List.length_replicate]
    omega
end
/-! ### super().__init__(e) -/
section
variable {CX : CXT} {P : Program} {w : World} {K : PySem.W.Frag} {mg : Str → Option Value} {base : Heap} {N ps : List Str} {name qual : Str} {params : Arguments} {body : List Stmt} {scope : Scope} {f cda cc C : Addr} {fd : FuncData} {A : Around} {outer : List Env} {s : Shared} {H : Hp} {E : XK}
theorem run_super {e : Expr} {ta : TA} {p0 p1 p2 pos pos' : Pos} {ar : Arg} {a : Addr} {σ : L2.St} {H1 : Hp} {s1 : Shared} {body0 : List Stmt} {R : Hp → Prop} {pl : Sem Bool} (T : OexC K C) (SF : SupF P K C name qual params body scope f cda cc fd) (S : SupScope N ps scope)
    (hp : (params.posonlyargs ++ params.args).head? = some ar) (hN : N[0]? = some ar.arg) (hx0 : ar.arg ∈ ps) (hm : mg "super" = none)
    (I : Inv (cxS CX P w K mg base N qual scope f (.ref cda) cc A outer s H E) [] σ H1 s1) (h0 : σ[0]? = some (some (.ref a))) (ea : H1 a = some (exo a C none))
    (ha : PA (cxS CX P w K mg base N qual scope f (.ref cda) cc A outer s H E) [e] ta) (hq : ta σ H1 fun vs H2 => vs.length ≤ 1000 ∧ H2 a = some (exo a C none) ∧ R H2)
    (hi : interactive (envS qual scope s.heap.objs.size f (.ref cda) cc) = false) (hsw : swapsWith (.Call (.Attribute (.Call (.Name "super" p0) [] [] p1) "__init__" p2) [e] [] pos) none pos'.line (envS qual scope s.heap.objs.size f (.ref cda) cc) = pure false)
    (hs : starEach [e] (envS qual scope s.heap.objs.size f (.ref cda) cc) = (false, eval e (envS qual scope s.heap.objs.size f (.ref cda) cc)) :: starEach [] (envS qual scope s.heap.objs.size f (.ref cda) cc))
    (hc : eval (.Call (.Attribute (.Call (.Name "super" p0) [] [] p1) "__init__" p2) [e] [] pos) (envS qual scope s.heap.objs.size f (.ref cda) cc) = (do
      let ov ← attributeBase (.Call (.Name "super" p0) [] [] p1) "__init__" (envS qual scope s.heap.objs.size f (.ref cda) cc) (eval (.Call (.Name "super" p0) [] [] p1) (envS qual scope s.heap.objs.size f (.ref cda) cc))
      standAt p2.atName
      let (f', first) ← holding [ov] (getMethod ov "__init__" pl)
      callWith pos f' first (backTo pos (starEach [e] (envS qual scope s.heap.objs.size f (.ref cda) cc))) [])) :
    _root_.PySem.wpAt (model P w) (A.deeper (envS qual scope s.heap.objs.size f (.ref cda) cc)) (.func body0 (envS qual scope s.heap.objs.size f (.ref cda) cc)) (exec (.Expr (.Call (.Attribute (.Call (.Name "super" p0) [] [] p1) "__init__" p2) [e] [] pos) pos') (envS qual scope s.heap.objs.size f (.ref cda) cc))
      (fun fl s' => fl = .next ∧ ∃ H2, Inv (cxS CX P w K mg base N qual scope f (.ref cda) cc A outer s H E) [] σ H2 s' ∧ R H2) (cxS CX P w K mg base N qual scope f (.ref cda) cc A outer s H E).xe s1 := by
  have KX : K.In s1.heap := I.kIn
  obtain ⟨oc, od, osl, lk⟩ := SF.lk
  obtain ⟨kV, doc, pm, an, ct, efd⟩ := SF.fd
  obtain ⟨ccl, cdd, wvs, ccs, g0, tf, lc, hvs, hfile⟩ := SF.file
  obtain ⟨cl, cld, csl, lcell⟩ := SF.cell
  obtain ⟨nm, q, NN, bs, bm, sn, sub, ab, col, dd, k0, k1, k2, k3, k5, hC, hbm⟩ := T.cls
  have hcl : PySem.W.clsIn K C = some { name := nm, bases := bs, mro := .ref C :: bm, ns := NN, qualname := q, hasDict := true, slotNames := sn, subclasses := sub, abstract := ab, collection := col, hasDel := false } := by unfold PySem.W.clsIn; rw [hC] <;> rfl
  obtain ⟨t1, ho⟩ := exo_at I.hok ea
  obtain ⟨mb, b1, b2⟩ := I.mod.blt
  obtain ⟨m, hn, hl⟩ := I.loc
  obtain ⟨u, ru, lkv⟩ := hl 0 ar.arg (.ref a) hN h0 (.inl (S.par _ hx0))
  obtain rfl : u = Value.ref a := ru
  have hself : m ar.arg = some (.ref a) := by
    rcases lkv with ⟨_, z⟩ | ⟨z, _⟩
    · exact z
    · have k := S.par _ hx0
      have z : scope.names.lookup ar.arg = some .cell ∨ scope.names.lookup ar.arg = some .free := z
      rw [k] at z
      rcases z with z | z <;> cases z
  have hxC : a ≠ C := fun z => by
    have q := (I.bs C _ (I.ok.mod.kin _ _ hC)).2
    rw [← z, ea] at q
    cases q
  refine PySem.ks_wpAt_Expr_any ?_ hi hsw
  refine PySem.ks_wpAt_MethodCall ?_ hc
  refine PySem.ks_wpAt_super_base (env := envS qual scope s.heap.objs.size f (.ref cda) cc) (f := f) (cc := cda) (fd := fd) S.sup S.cls (by decide) rfl (KX _ _ lk) rfl (by rw [efd]; exact hp) rfl (KX _ _ lc) rfl hvs hfile SF.top ?_
  refine PySem.W.ks_loadName_global S.kind S.sup (Calls.loadGlobal_builtin (env := envS qual scope s.heap.objs.size f (.ref cda) cc) (I.mod.glob.keeps I.bk) hm (b1.keeps I.bk) ((b2 "super" (by decide)).trans (by rfl)) ⟨rfl, ?_⟩)
  refine wpAny_loadName_free S.kind S.cls rfl ⟨_, KX _ _ lcell, rfl⟩ ?_
  refine wpAny_loadName_local S.kind (S.par _ hx0) hn hself ?_
  refine PySem.ks_wpAny_isType_cls (KX _ _ hC) rfl ⟨rfl, ?_⟩
  obtain ⟨hp1, g, d, t, os⟩ := s1
  refine PySem.ks_wpAny_call_super (KX _ _ hC) rfl ho rfl (fun c z => by cases z) (PySem.W.looks_mroIn KX SF.mro) (fun h' e1 k => ?_)
  have I1 := I.kept (t' := t) (h' := h') k
  have K1 : K.In h' := I1.kIn
  have J0 : PySem.W.InstAt h' a { cls := .ref C, dict := none, data := .fields #[.ref t1, .none, .none, .none, .bool false, .none] } C none := ⟨k _ _ ho, rfl, rfl, trivial⟩
  refine PySem.W.kxs_getMethod PySem.W.kxs_ValueError e1 (PySem.W.looks_opaque K1 SF.stat) (l₀ := .ref C :: bm) ((PySem.W.looks_clsIn K1 hcl).andThen .now) rfl K1 ?_ (J0.type.andThen (PySem.W.looks_subIn K1 SF.sub)) hxC (by decide) ?_
  · have z := SF.sup
    unfold PySem.W.ks_superIn at z
    rw [hcl] at z
    exact z
  have I2 := ClX.pin_new (t' := t + 1) (h' := h'.push (PySem.W.kxs_mw "ValueError.__init__" a)) (a := h'.objs.size) (o := PySem.W.kxs_mw "ValueError.__init__" a) I1 (fun b u q => Heap.get?_push_of_some _ q) (Nat.le_refl _) (Heap.get?_push_at rfl rfl) (fun v z => by cases z)
  rw [hs]
  refine PySem.W.kxs_callWith (i := "ValueError.__init__") (x := a) rfl ?_
  refine PySem.Calls.evalArgs_plain (?_)
  have hrun := ha.run pos _ _ σ H1 _ I2 hq
  rw [show starEach [e] (cxS CX P w K mg base N qual scope f (.ref cda) cc A outer s H E).env = _ from hs] at hrun
  refine thn hrun fun us s2 ⟨vs, H2, I3, r3, hlen, e3, hR⟩ => ?_
  obtain ⟨hp2, g2, d2, tk2, os2⟩ := s2
  obtain ⟨t2, ho2⟩ := exo_at I3.hok e3
  refine ⟨ClX.pin_at I3, ?_⟩
  refine call_sup (I3.kIn _ _ hC) ho2 (ClX.pin_at I3) (by show us.length ≤ sizeLine; rw [← Paired.length r3, sizeLine_eq]; omega) fun h3 t3 k3' hx3 => ?_
  have J := (ClX.unpin I3).write (t' := tk2) (x := a) (e := a) (o := exo a C none) (by rw [e3]; exact True.intro) (.inl rfl) k3' ⟨_, hx3⟩ (exo_ok hx3)
  have eu : upd H2 a (exo a C none) = H2 := by
    funext b
    by_cases hb : b = a
    · rw [hb, upd_same, e3]
    · rw [upd_ne hb]
  rw [eu] at J
  exact ⟨rfl, H2, J, hR⟩
/-- THE RULE: such an __init__, by its body's rest -/
theorem fn_sup {k : Nat} {sp : Sp} {e : Expr} {p0 p1 p2 pos pos' : Pos} {rest : List Stmt} {ar : Arg} (T : OexC K C) (SF : SupF P K C name qual params (.Expr (.Call (.Attribute (.Call (.Name "super" p0) [] [] p1) "__init__" p2) [e] [] pos) pos' :: rest) scope f cda cc fd) (S : SupScope N ps scope)
    (hp : (params.posonlyargs ++ params.args).head? = some ar) (hN : N[0]? = some ar.arg) (hx0 : ar.arg ∈ ps) (hm : mg "super" = none) (len : ∀ vs H Q E, sp vs H Q E → vs.length = ps.length)
    (hi : ∀ L, interactive (envS qual scope L f (.ref cda) cc) = false) (hsw : ∀ L, swapsWith (.Call (.Attribute (.Call (.Name "super" p0) [] [] p1) "__init__" p2) [e] [] pos) none pos'.line (envS qual scope L f (.ref cda) cc) = pure false)
    (hs : ∀ L, starEach [e] (envS qual scope L f (.ref cda) cc) = (false, eval e (envS qual scope L f (.ref cda) cc)) :: starEach [] (envS qual scope L f (.ref cda) cc))
    (hc : ∀ L, ∃ pl : Sem Bool, eval (.Call (.Attribute (.Call (.Name "super" p0) [] [] p1) "__init__" p2) [e] [] pos) (envS qual scope L f (.ref cda) cc) = (do
      let ov ← attributeBase (.Call (.Name "super" p0) [] [] p1) "__init__" (envS qual scope L f (.ref cda) cc) (eval (.Call (.Name "super" p0) [] [] p1) (envS qual scope L f (.ref cda) cc))
      standAt p2.atName
      let (f', first) ← holding [ov] (getMethod ov "__init__" pl)
      callWith pos f' first (backTo pos (starEach [e] (envS qual scope L f (.ref cda) cc))) []))
    (hbody : ∀ (A : Around) (outer : List Env) (s : Shared) (H : Hp) (vs : List V) (Q : VK) (E : XK), Room k (A.deeper (envS qual scope s.heap.objs.size f (.ref cda) cc)) → sp vs H Q E →
      ∃ (a : Addr) (ta : TA) (t : TS), vs[0]? = some (.ref a) ∧ H a = some (exo a C none) ∧ PA (cxS CX P w K mg base N qual scope f (.ref cda) cc A outer s H E) [e] ta ∧ PSs (cxS CX P w K mg base N qual scope f (.ref cda) cc A outer s H E) rest t ∧
        ta (L2.start N vs) H fun ws H2 => ws.length ≤ 1000 ∧ H2 a = some (exo a C none) ∧ t { nx := fun _ H' => Q .non H', rt := Q } (L2.start N vs) H2) :
    FnOk P w K mg base CX (k + 1) f fd ps sp := by
  refine ⟨len, fun A outer s H args us vs Q E hr e0 hb r hsp => ?_⟩
  have hl := len _ _ _ _ hsp
  have KX : K.In s.heap := e0.mod.kin.keeps fun b o e => (e0.bs b o e).1
  have lim : s.heap.NoLimit := e0.mod.nolimit.keeps fun b o e => (e0.bs b o e).1
  obtain ⟨oc, od, osl, lk⟩ := SF.lk
  obtain ⟨kV, doc, pm, an, ct, efd⟩ := SF.fd
  obtain ⟨cl, cld, csl, lcell⟩ := SF.cell
  obtain ⟨a, ta, t, hv0, ea, hta, ht, hq⟩ := hbody A outer s H vs Q E (hr.deeper _) hsp
  have hcell : ∃ o, base.get? cc = some o ∧ o.data = .cell (some (.ref C)) := ⟨_, e0.mod.kin _ _ lcell, rfl⟩
  have SF2 := SF
  subst efd
  refine PySem.ks_codeAny_call_defAt (binds := ps.zip us) hr.depth (KX _ _ lk) rfl lim (PySem.W.codeRec_of KX SF.code) rfl hb S.nocell (fun x hx => S.par x.1 (List.of_mem_zip hx).1) (fun h₁ hns hk₁ => ?_) S.co S.gen S.kind
  have I := inv_sup (CX := CX) (w := w) (K := K) (mg := mg) (qual := qual) (f := f) (cd := .ref cda) (E := E) (tk := s.toks + (ps.zip us).length) S hr.hd e0 hl r hcell hns hk₁
  have h0 : (L2.start N vs)[0]? = some (some (.ref a)) := by
    unfold L2.start
    cases vs with
    | nil => cases hv0
    | cons v vs' =>
      have z : v = .ref a := Option.some.inj hv0
      rw [z] <;> rfl
  obtain ⟨pl, hcp⟩ := hc s.heap.objs.size
  refine PySem.ks_wpAt_execs_cons (PySem.ks_wpAt_mono (run_super T SF2 S hp hN hx0 hm I h0 ea hta hq (hi _) (hsw _) (hs _) hcp) (fun fl s' hs' => ?_) fun e s' hs' => hs')
  obtain ⟨efl, H2, J, q⟩ := hs'
  subst efl
  show _root_.PySem.wpAt _ _ _ _ _ _ _
  refine PySem.wpAt_of_wpAny (wpAny_mono (ht.run [] s' (L2.start N vs) H2 _ J q) (fun fl s' hs => ?_) fun e s' hs => hs)
  have fin : ∀ {σ' : L2.St} {H' : Hp} {v : V} {u : Value}, Inv (cxS CX P w K mg base N qual scope f (.ref cda) cc A outer s H E) [] σ' H' s' → L2.RelV v u → Q v H' → CE outer P w H s Q u s' :=
    fun {σ' H' v u} J rv q => ⟨v, H', J.os, J.bare, J.base, J.hok, rv, q⟩
  cases fl with
  | ret u =>
    obtain ⟨v, σ', H', J, rv, q⟩ := hs
    exact fin J rv q
  | next =>
    obtain ⟨σ', H', J, q⟩ := hs
    exact fin (v := V.non) (u := Value.none) J rfl q
  | brk =>
    obtain ⟨_, _, _, q⟩ := hs
    exact False.elim q
  | cont =>
    obtain ⟨_, _, _, q⟩ := hs
    exact False.elim q
end
end RV
namespace RV
open PySem PySem.Spec PyProof.Rows L2
/-! ### what repr asks of tuples of pairs -/
theorem small_log {i : Int} (h : i.natAbs < 10 ^ 12) : i.natAbs.log2 < 1920 := by
  rcases Nat.eq_zero_or_pos i.natAbs with e | e
  · rw [e]; decide
  · have h1 : i.natAbs < 2 ^ 64 := Nat.lt_of_lt_of_le h (by decide)
    have h2 : i.natAbs.log2 < 64 := (Nat.log2_lt (by omega)).mpr h1
    omega
theorem show_ints : ∀ ns : List Int, (∀ n ∈ ns, n.natAbs < 10 ^ 12) → PyData.showableAll (ns.map PyData.int) = true
  | [], _ => by simp [PyData.showableAll]
  | n :: r, h => by
    have h1 := small_log (h n (List.mem_cons_self ..))
    have h2 := show_ints r fun m hm => h m (List.mem_cons_of_mem _ hm)
    simp [PyData.showableAll, PyData.showable, h1, h2]
theorem show_dIs : ∀ ps : List (List Int), (∀ p ∈ ps, ∀ n ∈ p, n.natAbs < 10 ^ 12) → PyData.showableAll (ps.map dI) = true
  | [], _ => by simp [PyData.showableAll]
  | p :: r, h => by
    have h1 := show_ints p (h p (List.mem_cons_self ..))
    have h2 := show_dIs r fun m hm => h m (List.mem_cons_of_mem _ hm)
    have h3 : (dI p).showable = true := by simp only [dI, PyData.showable]; exact h1
    simp [PyData.showableAll, h3, h2]
theorem short_dIs : ∀ ps : List (List Int), (∀ p ∈ ps, ∀ n ∈ p, n.natAbs < 10 ^ 12) → PyData.intsShortAll 13 (ps.map dI) = true
  | [], _ => by simp [PyData.intsShortAll]
  | p :: r, h => by
    have h1 := PyData.intsShortAll_ints p (h p (List.mem_cons_self ..))
    have h2 := short_dIs r fun m hm => h m (List.mem_cons_of_mem _ hm)
    have h3 : (dI p).intsShort 13 = true := by simp only [dI, PyData.intsShort]; exact h1
    simp [PyData.intsShortAll, h3, h2]
theorem bulk_ints : ∀ ns : List Int, PyData.bulkAll (ns.map PyData.int) = ns.length
  | [] => by simp [PyData.bulkAll]
  | n :: r => by simp [PyData.bulkAll, PyData.bulk, bulk_ints r]; omega
theorem bulk_dIs : ∀ ps : List (List Int), (∀ p ∈ ps, p.length ≤ 2) → PyData.bulkAll (ps.map dI) ≤ 3 * ps.length
  | [], _ => by simp [PyData.bulkAll]
  | p :: r, h => by
    have h1 : (dI p).bulk = p.length := by simp only [dI, PyData.bulk, bulk_ints]
    have h2 := bulk_dIs r fun m hm => h m (List.mem_cons_of_mem _ hm)
    have h3 := h p (List.mem_cons_self ..)
    simp only [List.map_cons, PyData.bulkAll, h1, List.length_cons]
    omega
/-- (ps, os), two tuples of pairs -/
def d2 (ps os : List (List Int)) : PyData := .tuple [dTT ps, dTT os]
theorem pr_small {b : Int} (hb : b ≤ 64) {ps : List (List Int)} (h : ∀ p ∈ ps, Pr b p) : ∀ p ∈ ps, ∀ n ∈ p, n.natAbs < 10 ^ 12 := fun p hp n hn => by
  obtain ⟨x, y, rfl, hx, hy⟩ := h p hp
  simp only [List.mem_cons, List.not_mem_nil, or_false] at hn
  rcases hn with rfl | rfl <;> omega
theorem pr_len {b : Int} {ps : List (List Int)} (h : ∀ p ∈ ps, Pr b p) : ∀ p ∈ ps, p.length ≤ 2 := fun p hp => by
  obtain ⟨x, y, rfl, _⟩ := h p hp
  simp
structure Reprs (ps os : List (List Int)) : Prop where
  h1 : (d2 ps os).showable = true
  h2 : (d2 ps os).hasDict = false
  h3 : (d2 ps os).depth ≤ 64
  h4 : (d2 ps os).shown.length ≤ sizeLine
theorem reprs {b c : Int} (hb : b ≤ 64) (hc : c ≤ 64) {ps os : List (List Int)} (h : ∀ p ∈ ps, Pr b p) (h' : ∀ p ∈ os, Pr c p) (l1 : ps.length ≤ 1000) (l2 : os.length ≤ 1000) : Reprs ps os := by
  have lay : (d2 ps os).canLay0 = true := by
    simp only [d2, dTT, PyData.canLay0, PyData.canLayAll0, lay_dI, Bool.and_self]
  refine ⟨?_, PyData.hasDict_of_canLay _ lay, ?_, ?_⟩
  · simp only [d2, dTT, PyData.showable, PyData.showableAll, show_dIs ps (pr_small hb h), show_dIs os (pr_small hc h'), Bool.and_self]
  · have h1 := dep_dI ps
    have h2 := dep_dI os
    simp only [d2, dTT, PyData.depth, PyData.depthAll]
    omega
  · refine PyData.shown_fits_bulk (B := 13) (by decide) (by decide) (PyData.leavesShort_of_canLay0 13 _ lay ?_) ?_
    · simp only [d2, dTT, PyData.intsShort, PyData.intsShortAll, short_dIs ps (pr_small hb h), short_dIs os (pr_small hc h'), Bool.and_self]
    · have h1 := bulk_dIs ps (pr_len h)
      have h2 := bulk_dIs os (pr_len h')
      simp only [d2, dTT, PyData.bulk, PyData.bulkAll]
      omega
theorem d2_dp {K : PySem.W.Frag} {H : Hp} {T a b : Addr} {ps os : List (List Int)} (h : H T = some (.tup [.ref a, .ref b])) (h1 : Tups K H a ps) (h2 : Tups K H b os) : Dp K H (.ref T) (d2 ps os) :=
  .tup (.inl (.inl h)) (.cons h1.dp (.cons h2.dp .nil))
end RV
namespace RV
open PySem PySem.Spec PyProof.Rows L2
/-- (ns, ps): mirrors and steps -/
def d1 (ns : List Int) (ps : List (List Int)) : PyData := .tuple [dI ns, dTT ps]
structure Shows (d : PyData) : Prop where
  h1 : d.showable = true
  h2 : d.hasDict = false
  h3 : d.depth ≤ 64
  h4 : d.shown.length ≤ sizeLine
theorem shows_d1 {b : Int} (hb : b ≤ 64) {ns : List Int} {ps : List (List Int)} (hn : ∀ n ∈ ns, n.natAbs < 10 ^ 12) (ln : ns.length ≤ 1000) (h : ∀ p ∈ ps, Pr b p) (l1 : ps.length ≤ 1000) : Shows (d1 ns ps) := by
  have lay : (d1 ns ps).canLay0 = true := by
    simp only [d1, dTT, PyData.canLay0, PyData.canLayAll0, lay_dI, dI_lay, Bool.and_self]
  have i1 : (dI ns).showable = true := by simp only [dI, PyData.showable]; exact show_ints ns hn
  have i2 : (dI ns).intsShort 13 = true := by simp only [dI, PyData.intsShort]; exact PyData.intsShortAll_ints ns hn
  have i3 : (dI ns).bulk = ns.length := by simp only [dI, PyData.bulk, bulk_ints]
  refine ⟨?_, PyData.hasDict_of_canLay _ lay, ?_, ?_⟩
  · simp only [d1, dTT, PyData.showable, PyData.showableAll, i1, show_dIs ps (pr_small hb h), Bool.and_self]
  · have h1 := dep_dI ps
    simp only [d1, dTT, PyData.depth, PyData.depthAll, dI_dep]
    omega
  · refine PyData.shown_fits_bulk (B := 13) (by decide) (by decide) (PyData.leavesShort_of_canLay0 13 _ lay ?_) ?_
    · simp only [d1, dTT, PyData.intsShort, PyData.intsShortAll, i2, short_dIs ps (pr_small hb h), Bool.and_self]
    · have h1 := bulk_dIs ps (pr_len h)
      simp only [d1, dTT, PyData.bulk, PyData.bulkAll, i3]
      omega
theorem shows_dI {ns : List Int} (hn : ∀ n ∈ ns, n.natAbs < 10 ^ 12) (ln : ns.length ≤ 1000) : Shows (dI ns) := by
  have i3 : (dI ns).bulk = ns.length := by simp only [dI, PyData.bulk, bulk_ints]
  refine ⟨by simp only [dI, PyData.showable]; exact show_ints ns hn, PyData.hasDict_of_canLay _ (dI_lay ns), by rw [dI_dep]; decide, ?_⟩
  refine PyData.shown_fits_bulk (B := 13) (by decide) (by decide) (PyData.leavesShort_of_canLay0 13 _ (dI_lay ns) ?_) (by rw [i3]; omega)
  simp only [dI, PyData.intsShort]; exact PyData.intsShortAll_ints ns hn
theorem d1_dp {K : PySem.W.Frag} {H : Hp} {T a b : Addr} {ns : List Int} {ps : List (List Int)} (h : H T = some (.tup [.ref a, .ref b])) (h1 : SqT K H a (ns.map V.int)) (h2 : Tups K H b ps) : Dp K H (.ref T) (d1 ns ps) :=
  .tup (.inl (.inl h)) (.cons (dpT h1) (.cons h2.dp .nil))
theorem shaped_d1 (ns : List Int) (ps : List (List Int)) : SeqAt.shaped (d1 ns ps) = true := by
  have h1 := dep_dI ps
  have e : (d1 ns ps).depth ≤ 64 := by simp only [d1, dTT, PyData.depth, PyData.depthAll, dI_dep]; omega
  show ((d1 ns ps).canLay0 && decide ((d1 ns ps).depth ≤ 64)) = true
  rw [decide_eq_true e, Bool.and_true]
  simp only [d1, dTT, PyData.canLay0, PyData.canLayAll0, lay_dI, dI_lay, Bool.and_self]
theorem eqv_d1 (ns ms : List Int) (ps qs : List (List Int)) : PyData.eqv (d1 ns ps) (d1 ms qs) = (decide (ns = ms) && decide (ps = qs)) := by
  simp only [d1, PyData.eqv, PyData.eqvAll, eqvI, eqvTT, Bool.and_true]
end RV
set_option maxHeartbeats 4000000
/-! a text in a tuple of texts -/
namespace RV
open PySem PySem.Spec PyProof.Rows L2
theorem lay_strs : ∀ ss : List Str, (∀ s ∈ ss, PyData.strOk s = true) → PyData.canLayAll0 (ss.map PyData.str) = true
  | [], _ => by simp [PyData.canLayAll0]
  | s :: r, h => by
    have h1 := h s List.mem_cons_self
    have h2 := lay_strs r fun x hx => h x (List.mem_cons_of_mem _ hx)
    simp only [List.map_cons, PyData.canLayAll0, PyData.canLay0, h1, h2, Bool.and_self]
theorem dpStrs {K : PySem.W.Frag} {H : Hp} : ∀ ss : List Str, DpAll K H (ss.map V.str) (ss.map PyData.str)
  | [] => .nil
  | s :: r => .cons (.str s) (dpStrs r)
theorem any_str (x : Str) : ∀ ss : List Str, (ss.map PyData.str).any (fun y => PyData.eqv y (.str x)) = ss.any (fun y => y == x)
  | [] => rfl
  | s :: r => by
    rw [List.map_cons, List.any_cons, any_str x r, List.any_cons]
    rfl
section
variable {X : Cx}
def rInTS (K : PySem.W.Frag) : R2 := fun x y H Q => ∃ (b : Addr) (s : Str) (ss : List Str), x = .str s ∧ y = .ref b ∧ SqT K H b (ss.map V.str) ∧ PyData.strOk s = true ∧ (∀ z ∈ ss, PyData.strOk z = true) ∧ Q (.bl (ss.any fun y => y == s)) H
theorem op_inTS (hu : X.A.units + 65 < cLine) : OpR X (compareOp .In) (rInTS X.K) := by
  intro pins s σ H x y v u Q I rx ry h
  obtain ⟨b, n, ns, rfl, rfl, h2, o1, o2, q⟩ := h
  obtain ⟨as, r1⟩ := Dp.reads I (.str n) (.str n) v (.str n) rx
  obtain ⟨bs, r2⟩ := Dp.reads I (.tuple (ns.map PyData.str)) (.ref b) u (.tup h2 (dpStrs ns)) ry
  refine SeqAt.in_tuple_reads (xs := ns.map PyData.str) r2 r1 (lay_strs ns o2) (by simp only [PyData.canLay0, o1]) ?_ ⟨.bl _, H, I, rfl, ?_⟩
  · have := Nat.min_le_right (PyData.depthAll (ns.map PyData.str)) (PyData.str n).depth
    have e : (PyData.str n).depth = 0 := by simp [PyData.depth]
    omega
  · rw [any_str]; exact q
end
end RV
set_option maxHeartbeats 4000000
/-! what repr tells of tuples of ints may be compared -/
namespace RV
open PySem PySem.Spec PyProof.Rows L2
theorem sk_append {a b : Str} (h1 : PyData.strOk a = true) (h2 : PyData.strOk b = true) : PyData.strOk (a ++ b) = true := by
  unfold PyData.strOk at h1 h2 ⊢
  rw [show (a ++ b).cps = a.cps ++ b.cps from rfl]
  rw [Array.all_append, h1, h2]; rfl
theorem sk_join {sep : Str} (h : PyData.strOk sep = true) : ∀ ss : List Str, (∀ s ∈ ss, PyData.strOk s = true) → PyData.strOk (Str.join sep ss) = true
  | [], _ => by simp [Str.join, Str.empty, PyData.strOk]
  | [x], hx => hx x List.mem_cons_self
  | x :: y :: r, hx => sk_append (sk_append (hx x List.mem_cons_self) h) (sk_join h (y :: r) fun s hs => hx s (List.mem_cons_of_mem _ hs))
theorem sk_of (s : String) : PyData.strOk (Str.ofString s) = true := by
  have e : Str.ofString s = Str.ofStringByList s := congrFun Str.ofString_eq_byList s
  rw [e]
  unfold PyData.strOk Str.ofStringByList
  rw [List.all_toArray]
  refine List.all_eq_true.mpr fun n hn => ?_
  obtain ⟨c, _, rfl⟩ := List.mem_map.mp hn
  have h := c.valid
  have h2 : c.toNat < 0x110000 := by
    rcases h with h | ⟨_, h⟩
    · exact Nat.lt_trans h (by decide)
    · exact h
  exact decide_eq_true h2
theorem sk_tuple {ts : List Str} (h : ∀ s ∈ ts, PyData.strOk s = true) : PyData.strOk (tupleText ts) = true := by
  unfold tupleText
  refine sk_append (sk_append (sk_of _) (sk_join (sk_of _) ts h)) ?_
  split <;> exact sk_of _
theorem sk_ints (ns : List Int) : ∀ s ∈ PyData.shownAll (ns.map PyData.int), PyData.strOk s = true := by
  induction ns with
  | nil => intro s hs; cases hs
  | cons n r ih =>
    intro s hs
    simp only [List.map_cons, PyData.shownAll, List.mem_cons] at hs
    rcases hs with rfl | hs
    · exact sk_of _
    · exact ih s hs
theorem sk_dI (ns : List Int) : PyData.strOk (dI ns).shown = true := by
  unfold dI
  simp only [PyData.shown]
  exact sk_tuple (sk_ints ns)
theorem sk_dIs (ps : List (List Int)) : ∀ s ∈ PyData.shownAll (ps.map dI), PyData.strOk s = true := by
  induction ps with
  | nil => intro s hs; cases hs
  | cons n r ih =>
    intro s hs
    simp only [List.map_cons, PyData.shownAll, List.mem_cons] at hs
    rcases hs with rfl | hs
    · exact sk_dI n
    · exact ih s hs
theorem sk_d1 (ns : List Int) (ps : List (List Int)) : PyData.strOk (d1 ns ps).shown = true := by
  unfold d1 dTT
  simp only [PyData.shown, PyData.shownAll]
  refine sk_tuple fun s hs => ?_
  rcases List.mem_cons.mp hs with rfl | hs
  · exact sk_dI ns
  · rcases List.mem_cons.mp hs with rfl | hs
    · exact sk_tuple (sk_dIs ps)
    · cases hs
/-- a list of texts as data -/
theorem shaped_strs {ss : List Str} (h : ∀ s ∈ ss, PyData.strOk s = true) : SeqAt.shaped (.list (ss.map PyData.str)) = true := by
  have h1 : (PyData.list (ss.map PyData.str)).canLay0 = true := by simp only [PyData.canLay0]; exact lay_strs ss h
  have h2 : ∀ ss : List Str, PyData.depthAll (ss.map PyData.str) ≤ 1 := by
    intro ss
    induction ss with
    | nil => simp [PyData.depthAll]
    | cons x r ih => simp only [List.map_cons, PyData.depthAll, PyData.depth]; omega
  have h3 : (PyData.list (ss.map PyData.str)).depth ≤ 64 := by
    have := h2 ss
    simp only [PyData.depth]; omega
  show ((PyData.list (ss.map PyData.str)).canLay0 && decide ((PyData.list (ss.map PyData.str)).depth ≤ 64)) = true
  rw [h1, decide_eq_true h3]; rfl
/-- repr of a list of two of these -/
theorem shows_two {x y : PyData} (hx : Shows x) (hy : Shows y) (lx : x.shown.length ≤ 1000000) (ly : y.shown.length ≤ 1000000) (dx : x.depth ≤ 10) (dy : y.depth ≤ 10) : Shows (.list [x, y]) := by
  refine ⟨?_, ?_, ?_, ?_⟩
  · simp [PyData.showable, PyData.showableAll, hx.h1, hy.h1]
  · simp [PyData.hasDict, PyData.hasDictAll, hx.h2, hy.h2]
  · simp only [PyData.depth, PyData.depthAll]; omega
  · have h := listText_len_le (PyData.shownAll [x, y])
    simp only [PyData.shown, PyData.shownAll] at h ⊢
    simp only [List.map_cons, List.map_nil, List.sum_cons, List.sum_nil, List.length_cons, List.length_nil] at h
    rw [sizeLine_eq]
    omega
end RV
set_option maxHeartbeats 4000000
/-! try: .. except X as n: suite, and what stands behind it: there the error's object is still known (it is pinned) -/
namespace RV
open PySem PySem.Spec PyProof.Rows L2
def wRest (K : PySem.W.Frag) (c : Value) (i : Nat) (ts u : Addr → Value → Option Addr → TS) (Wout : WX) (D : Ends) : WX := fun cls d σ H => ∃ b, PySem.W.exmOne K cls c = some b ∧ (b = false → Wout cls d σ H) ∧
  (b = true → ∀ a, H a = none → ts a cls d { nx := fun σ' H' => u a cls d D (σ'.set i none) H', rt := D.rt, bk := fun σ' H' => D.bk (σ'.set i none) H', ct := fun σ' H' => D.ct (σ'.set i none) H' } (σ.set i (some (.ref a))) H)
section
variable {X : Cx} {pins : List (Addr × Obj)} {σ : L2.St} {H : Hp} {s : Shared}
/-- behind the suite, the error still pinned -/
theorem pin_on {a : Addr} {q : Addr × Obj} {pn : List (Addr × Obj)} {E : Value → Shared → Prop} (I : Inv (X.suite a (q :: (X.pn ++ pins))) pn σ H s) (ok : X.Ok) : Inv (X.tr (q :: (X.pn ++ pins)) E) [] σ H s where
  ok := ok.toTry _ _
  os := I.os
  bare := I.bare
  base := I.base
  loc := I.loc
  cell := I.cell
  free := I.free
  freeC := I.freeC
  pin := fun p hp => I.pin p (by rw [List.append_nil] at hp; exact List.mem_append_left _ hp)
  hok := I.hok
  len := I.len
theorem pin_off {q : Addr × Obj} {E : Value → Shared → Prop} (I : Inv (X.tr (q :: (X.pn ++ pins)) E) [] σ H s) (ok : X.Ok) : Inv X pins σ H s where
  ok := ok
  os := I.os
  bare := I.bare
  base := I.base
  loc := I.loc
  cell := I.cell
  free := I.free
  freeC := I.freeC
  pin := fun p hp => I.pin p (List.mem_append_left _ (List.mem_cons_of_mem _ hp))
  hok := I.hok
  len := I.len
end
section
variable {X : Cx} {x n : Str} {c : Value} {i : Nat} {body suite rest : List Stmt} {b₀ : Stmt} {np pos pos' : Pos} {tb : WX → TS} {ts u : Addr → Value → Option Addr → TS} {v : TS} {Wout : WX}
theorem pss_try_rest (st : X.stack = X.env :: X.outer) (fr : X.env.frame = some X.env.locals) (nd : X.N.Nodup) (gi : X.N[i]? = some n) (kn : X.env.kindOf n = some .local) (nm : Names X x c) (tk : Takes X Wout)
    (hb : ∀ (W : WX) (pn : List (Addr × Obj)) (xe : Value → Shared → Prop), Takes (X.tr pn xe) W → PassesOwn (model X.prog X.w) X.A X.env xe → PSs (X.tr pn xe) body (tb W))
    (hsu : ∀ (a : Addr) (oe : Obj) (cls : Value) (d : Option Addr) (pn : List (Addr × Obj)), Zc cls d oe → (∃ vs, oe.data = .fields vs) → PSs (X.suite a ((a, oe) :: pn)) (b₀ :: suite) (ts a cls d))
    (hr : PSs X rest v)
    (hr' : ∀ (a : Addr) (oe : Obj) (cls : Value) (d : Option Addr) (pn : List (Addr × Obj)), Zc cls d oe → (∃ vs, oe.data = .fields vs) → PSs (X.tr ((a, oe) :: pn) X.xe) rest (u a cls d)) :
    PSs X (.Try body [.ExceptHandler (some (.Name x np)) (some n) (b₀ :: suite) pos'] [] [] pos :: rest) (fun D σ H => tb (wRest X.K c i ts u Wout D) { D with nx := v D } σ H) := by
  refine ⟨fun pins s σ H D I h => wpAny_execs_cons ?_⟩
  have ok := I.ok
  let R : Flow → Shared → Prop := fun f s' => match f with
    | .next => wpAny (model X.prog X.w) X.A (execs rest X.env) (SP X pins D) X.xe s'
    | f => SP X pins D f s'
  have goal : wpAny (model X.prog X.w) X.A (exec (.Try body [.ExceptHandler (some (.Name x np)) (some n) (b₀ :: suite) pos'] [] [] pos) X.env) R X.xe s := by
    refine wpAny_Try_except (wpAny_mono ((hb (wRest X.K c i ts u Wout D) (X.pn ++ pins) (fun e s₁ => wpAny (model X.prog X.w) X.A (noteFrame e X.env) (fun _ s₂ => wpAny (model X.prog X.w) X.A (setFlight e none) (fun _ s₃ =>
      wpAny (model X.prog X.w) X.A (handleBy e X.env [.ExceptHandler (some (.Name x np)) (some n) (b₀ :: suite) pos']) R X.xe s₃) X.xe s₂) X.xe s₁) (fun uu t xx => ?_) PassesOwn.looking).run [] s σ H { D with nx := v D } (I.toTry _) h) (fun f t hf => ?_) fun _ _ z => z)
    · -- the clause
      obtain ⟨a, B, sI, pins', σ', H', cls, d, rfl, J0, nb, up, sky, na, os, ag, b, hb1, hno, hyes⟩ := xx
      have J : Inv X pins σ' H' sI := J0.ofTry ok
      have sk : Sky B (X.env :: X.outer) a (Zc cls d) X.env.locals t.heap := st ▸ sky
      show wpAny (model X.prog X.w) X.A (noteFrame (.ref a) X.env) _ _ _
      refine Sky.land Zc.steady (by rw [ok.frames, st]) fr sk fun g fg ug => ?_
      have Jg : Inv X pins σ' H' { t with heap := g } := J.landed nb fg.1 (up.trans ug) os ag
      obtain ⟨og, vg, eg, zg, dg⟩ := fg.there
      have off : a ∉ frs (X.env :: X.outer) := fun hm => by
        obtain ⟨_, o', e', nf⟩ := fg.2.2.1.mem hm
        cases eg.symm.trans e'
        exact nf _ dg
      have offL : a ≠ X.env.locals := fun z => off (List.mem_filterMap.mpr ⟨X.env, List.mem_cons_self, by rw [fr, z]⟩)
      have offF : a ∉ X.fs := fun hm => by
        obtain ⟨e, he, q⟩ := List.mem_filterMap.mp hm
        exact off (List.mem_filterMap.mpr ⟨e, List.mem_cons_of_mem _ he, q⟩)
      have Sg := Jg.suite eg dg na offL offF
      refine wpAny_handleBy_cons (codeAny_handlers_test ?_) (fun q => nomatch q)
      have is : PySem.W.Looks (model X.prog X.w) g (typeOf (.ref a)) cls := fun _ _ _ _ k q => wpAny_typeOf_ref (k _ _ eg) (zg.1 ▸ q)
      have look := PySem.W.exm_one (M := model X.prog X.w) Jg.kIn is hb1
      have name : ∀ {Q E : Value → Shared → Prop}, Q c { t with heap := g } → wpAny (model X.prog X.w) (X.A.mark (some (.ref a))) (eval (.Name x np) X.env) Q E { t with heap := g } := fun {Q E} q => by
        obtain ⟨hg, hdb, hm | ⟨hm, hv, hn⟩⟩ := nm
        · exact ld_glob (X := X.suite a ((a, og) :: (X.pn ++ pins))) Sg hg hm q hdb
        · exact ld_blt (X := X.suite a ((a, og) :: (X.pn ++ pins))) Sg hg hm hv q hn hdb
      refine name (look.here ?_)
      cases b with
      | true =>
        refine codeAny_handlers_suite_as (HandSPX.lands_againZ fg fun k fk uk => ?_)
        have Jk : Inv X pins σ' H' { t with heap := k } := J.landed nb fk.1 ((up.trans ug).trans uk) os ag
        obtain ⟨o4, v4, e4, z4, d4⟩ := fk.there
        refine store_ok (X := X.suite a ((a, o4) :: (X.pn ++ pins))) (v := .ref a) (Jk.suite e4 d4 na offL offF) nd gi (.inl kn) rfl (fun s5 S5 => ?_) (.inr kn)
        refine wpAny_mono ((hsu a o4 cls d (X.pn ++ pins) z4 ⟨_, d4⟩).run [] s5 _ H' _ S5 (hyes rfl a na)) (fun f s6 hs => ?_) (fun _ _ z => False.elim z)
        cases f with
        | next =>
          obtain ⟨σ6, H6, S6, q6⟩ := hs
          refine gone_ok (X := X.tr ((a, o4) :: (X.pn ++ pins)) X.xe) (pins := []) (pin_on S6 ok) nd gi kn fun s7 J7 => ?_
          show wpAny (model X.prog X.w) X.A (execs rest X.env) (SP X pins D) X.xe s7
          refine wpAny_mono ((hr' a o4 cls d (X.pn ++ pins) z4 ⟨_, d4⟩).run [] s7 _ H6 D J7 q6) (fun f s8 h8 => ?_) fun _ _ z => z
          cases f with
          | next => obtain ⟨σ8, H8, J8, q8⟩ := h8; exact ⟨σ8, H8, pin_off J8 ok, q8⟩
          | brk => obtain ⟨σ8, H8, J8, q8⟩ := h8; exact ⟨σ8, H8, pin_off J8 ok, q8⟩
          | cont => obtain ⟨σ8, H8, J8, q8⟩ := h8; exact ⟨σ8, H8, pin_off J8 ok, q8⟩
          | ret _ => obtain ⟨w8, σ8, H8, J8, r8, q8⟩ := h8; exact ⟨w8, σ8, H8, pin_off J8 ok, r8, q8⟩
        | brk => obtain ⟨σ6, H6, S6, q6⟩ := hs; exact gone_ok (S6.unsuite ok) nd gi kn fun s7 J7 => ⟨_, _, J7, q6⟩
        | cont => obtain ⟨σ6, H6, S6, q6⟩ := hs; exact gone_ok (S6.unsuite ok) nd gi kn fun s7 J7 => ⟨_, _, J7, q6⟩
        | ret _ => obtain ⟨v6, σ6, H6, S6, r6, q6⟩ := hs; exact gone_ok (S6.unsuite ok) nd gi kn fun s7 J7 => ⟨_, _, _, J7, r6, q6⟩
      | false =>
        show wpAny _ X.A (handleBy (.ref a) X.env []) _ _ _
        refine wpAny_handleBy_nil ?_
        obtain ⟨_, _, _, oe, vs, T, oT, ts', he, hz, hd, h1, _⟩ := id fg
        unfold PySem.passOn
        refine wpAny_bind (wpAny_field he hd h1 ?_)
        rw [if_neg (show ¬ ((Value.ref T == Value.none) = true) by simp)]
        have fin : wpAny (model X.prog X.w) X.A (setFlight (.ref a) X.env.frame) (fun _ s4 => wpAny (model X.prog X.w) X.A (throw (.ref a) : Sem Flow) R X.xe s4) X.xe { t with heap := g } := by
          rw [fr]
          exact HandSPX.setFlight_upZ fg fun k hk uk => wpAny_throw (tk _ _ ⟨a, B, sI, pins, σ', H', cls, d, rfl, J, nb, (up.trans ug).trans uk, .inr (.inr (st.symm ▸ hk)), na, os, ag, hno rfl⟩)
        first | exact wpAny_bind (wpAny_pure (wpAny_bind fin)) | exact wpAny_bind fin
    · cases f with
      | next =>
        obtain ⟨σ', H', J, q⟩ := hf
        refine wpAny_execs_nil ?_
        exact hr.run pins t σ' H' D (J.ofTry ok) q
      | brk => obtain ⟨σ', H', J, q⟩ := hf; exact ⟨σ', H', J.ofTry ok, q⟩
      | cont => obtain ⟨σ', H', J, q⟩ := hf; exact ⟨σ', H', J.ofTry ok, q⟩
      | ret _ => obtain ⟨w, σ', H', J, r, q⟩ := hf; exact ⟨w, σ', H', J.ofTry ok, r, q⟩
  exact thn goal fun f s1 q => by cases f <;> exact q
/-- isinstance(e, c) of a pinned error -/
theorem call_isP {a D : Addr} {oe : Obj} (hm : (a, oe) ∈ X.pn) (C : ExcC X.K D) (hz : Zc (.ref D) none oe) (hf : ∃ vs, oe.data = .fields vs) : CallR X (.builtin "isinstance") (rIsE X.K D a) := by
  intro pins s σ H xs us Q I r h
  obtain ⟨t, cv, b, rfl, one, e, q⟩ := h
  match us, r with
  | [_, _], .cons rx (.cons rt .nil) =>
    cases rx
    cases one _ rt
    obtain ⟨get, _⟩ := I.pin (a, oe) (List.mem_append_left _ hm)
    obtain ⟨vs, hv⟩ := hf
    have J : PySem.W.InstAt s.heap a oe D none := by
      cases oe with
      | mk oc od oda osl =>
        obtain ⟨rfl, rfl⟩ := hz
        cases hv
        exact ⟨get, rfl, rfl, trivial⟩
    refine PySem.W.kia_one (PySem.W.handS_kitx_exc C.hg C.hk C.hs C.hd C.ha C.hn C.ht C.hm) I.kIn J e (by intro z; cases z) fun tk => ?_
    exact ⟨.bl b, H, I.kept (t' := tk) fun _ _ z => z, rfl, q⟩
/-- the same, its class told behind -/
theorem call_isP2 {K : PySem.W.Frag} {a D : Addr} {oe : Obj} {cls : Value} {d : Option Addr} (hK : X.K = K) (hm : (a, oe) ∈ X.pn) (C : ExcC K D) (hz : Zc cls d oe) (hf : ∃ vs, oe.data = .fields vs) : CallR X (.builtin "isinstance") (fun xs H Q => cls = .ref D ∧ d = none ∧ rIsE K D a xs H Q) := by
  subst hK
  intro pins s σ H xs us Q I r h
  obtain ⟨rfl, rfl, h⟩ := h
  exact call_isP hm C hz hf pins s σ H xs us Q I r h
/-- isinstance(e, (c, c')) of a pinned error -/
theorem call_isPT {a D : Addr} {oe : Obj} (hm : (a, oe) ∈ X.pn) (C : ExcC X.K D) (hz : Zc (.ref D) none oe) (hf : ∃ vs, oe.data = .fields vs) : CallR X (.builtin "isinstance") (fun xs H Q => ∃ (tp : Addr) (cs : List V) (ws : List Value) (b : Bool), xs = [.ref a, .ref tp] ∧ H tp = some (.tup cs) ∧ (∀ us, Vals cs us → us = ws) ∧ PySem.W.kitAny X.K (.ref D) ws = some b ∧ Q (.bl b) H) := by
  intro pins s σ H xs us Q I r h
  obtain ⟨tp, cs, ws, b, rfl, hT, one, e, q⟩ := h
  match us, r with
  | [_, _], .cons rx (.cons rt .nil) =>
    cases rx
    cases rt
    obtain ⟨get, _⟩ := I.pin (a, oe) (List.mem_append_left _ hm)
    obtain ⟨vs, hv⟩ := hf
    have J : PySem.W.InstAt s.heap a oe D none := by
      cases oe with
      | mk oc od oda osl =>
        obtain ⟨rfl, rfl⟩ := hz
        cases hv
        exact ⟨get, rfl, rfl, trivial⟩
    obtain ⟨_, its, rv, o, h1, h2, m, h3⟩ := (show ObjOk X.prog X.w H s.heap tp (.tup cs) from I.hok tp _ hT)
    cases one _ rv
    cases o with
    | mk oc od dt sl =>
      cases h2
      cases h3
      refine PySem.W.kia_tup (PySem.W.handS_kitx_exc C.hg C.hk C.hs C.hd C.ha C.hn C.ht C.hm) I.kIn J h1 e (by intro z; cases z) fun tk => ?_
      exact ⟨.bl b, H, I.kept (t' := tk) fun _ _ z => z, rfl, q⟩
theorem call_isPT2 {K : PySem.W.Frag} {a D : Addr} {oe : Obj} {cls : Value} {d : Option Addr} (hK : X.K = K) (hm : (a, oe) ∈ X.pn) (C : ExcC K D) (hz : Zc cls d oe) (hf : ∃ vs, oe.data = .fields vs) : CallR X (.builtin "isinstance") (fun xs H Q => cls = .ref D ∧ d = none ∧ ∃ (tp : Addr) (cs : List V) (ws : List Value) (b : Bool), xs = [.ref a, .ref tp] ∧ H tp = some (.tup cs) ∧ (∀ us, Vals cs us → us = ws) ∧ PySem.W.kitAny K (.ref D) ws = some b ∧ Q (.bl b) H) := by
  subst hK
  intro pins s σ H xs us Q I r h
  obtain ⟨rfl, rfl, h⟩ := h
  exact call_isPT hm C hz hf pins s σ H xs us Q I r h
/-- the slots at a raise are as many as ever -/
theorem takes_len {W : WX} (tk : Takes X W) : Takes X (fun cls d σ H => σ.length = X.N.length → W cls d σ H) := fun u s' ⟨a, B, sI, pins, σ, H, cls, d, e, I, nb, up, sky, na, os, ag, w⟩ => tk u s' ⟨a, B, sI, pins, σ, H, cls, d, e, I, nb, up, sky, na, os, ag, w I.len⟩
end
end RV
set_option maxHeartbeats 4000000
namespace K53
open PySem PySem.Spec PyProof.Rows L2 RV TL
/-! ### texts of small signs -/
structure Tx (n : Nat) (z : Str) : Prop where
  len : z.length ≤ n
  lo : ∀ c ∈ tl z, c < 256
theorem Tx.mono {n k : Nat} {z : Str} (h : Tx n z) (e : n ≤ k) : Tx k z := ⟨Nat.le_trans h.len e, h.lo⟩
theorem Tx.ok {n : Nat} {z : Str} (h : Tx n z) : PyData.strOk z = true := by
  unfold PyData.strOk
  rw [Array.all_eq_true_iff_forall_mem]
  intro c hc
  have := h.lo c (Array.mem_toList_iff.mpr hc)
  simp only [decide_eq_true_eq]
  omega
theorem mem_joinL2 {S : List Nat} {c : Nat} : ∀ {l : List (List Nat)} {p : List Nat}, p ∈ l → c ∈ p → c ∈ joinL S l
  | [q], p, h, hc => by rw [List.mem_singleton.mp h] at hc; exact hc
  | q :: r :: l, p, h, hc => by
    rw [joinL_cons S q (List.cons_ne_nil r l)]
    rcases List.mem_cons.mp h with rfl | h
    · exact List.mem_append_left _ hc
    · exact List.mem_append_right _ (List.mem_append_right _ (mem_joinL2 h hc))
theorem Cut.tx {y x : Str} {s n : Nat} {ws : List Str} (h : Cut y x s ws) (t : Tx n x) : ∀ w ∈ ws, Tx n w := fun w hw =>
  ⟨Nat.le_trans (h.short hw) t.len, fun c hc => t.lo c (by rw [h.join]; exact mem_joinL2 (List.mem_map_of_mem hw) hc)⟩
theorem low_n (n : Nat) : ∀ c ∈ tl (num n), c < 256 := fun c hc => by
  rw [tl_nm] at hc
  have h1 : c ≤ 57 := (numL_digits n c hc).2
  omega
theorem Tx.num {n : Nat} (h : n < 10 ^ 30) : Tx 30 (num n) := ⟨num_len h, low_n n⟩
theorem Tx.strs {n : Nat} {ws : List Str} (h : ∀ w ∈ ws, Tx n w) : SeqAt.shaped (.list (ws.map PyData.str)) = true := shaped_strs fun s hs => (h s hs).ok
theorem eqv_strs : ∀ xs ys : List Str, PyData.eqvAll (xs.map PyData.str) (ys.map PyData.str) = decide (xs = ys)
  | [], [] => by simp [PyData.eqvAll]
  | [], _ :: _ => by simp [PyData.eqvAll]
  | _ :: _, [] => by simp [PyData.eqvAll]
  | x :: xs, y :: ys => by
    have h := eqv_strs xs ys
    have e : PyData.eqv (.str x) (.str y) = decide (x = y) := by simp only [PyData.eqv]; rw [Bool.eq_iff_iff]; simp
    simp only [List.map_cons, PyData.eqvAll, e, h]
    by_cases e1 : x = y
    · subst e1; by_cases e2 : xs = ys <;> simp [e2]
    · simp [e1]
theorem eqvStrs (xs ys : List Str) : PyData.eqv (.list (xs.map PyData.str)) (.list (ys.map PyData.str)) = decide (xs = ys) := by simp only [PyData.eqv, eqv_strs]
theorem cut_last (xs : List V) : cutV xs none (some (-1)) = xs.dropLast := by
  unfold cutV
  have e1 : HT.sIx xs.length xs.length (some (-1)) = xs.length - 1 := by
    unfold HT.sIx
    show (if (-1 : Int) < 0 then (-1 + (xs.length : Int)).toNat else _) = _
    rw [if_pos (by decide)]; omega
  have e2 : HT.sIx xs.length 0 none = 0 := rfl
  rw [e1, e2, List.drop_zero, Nat.sub_zero, List.dropLast_eq_take]
/-! ### NoText -/
abbrev sNTInit : Stmt := inClass (topS 2) 0
/-- NoText, a RingError, a ValueError -/
structure NRule (P : Program) (K : PySem.W.Frag) (mg : Str → Option Value) (CN f cda cc : Addr) (fd : FuncData) : Prop where
  T : OexC K CN
  SF : SupF P K CN "__init__" "NoText.__init__" (defArgs sNTInit) (defBody sNTInit) (defScope sNTInit) f cda cc fd
  bi : Binds K fd ["self", "row"] []
  ini : PySem.W.findIn K (.ref CN) "__init__" = some (some (.ref f))
  ty : PySem.W.typeIn K (.ref f) = some (.type "function")
  no : PySem.W.findIn K (.ref CN) "row" = some none
  g : mg "NoText" = some (.ref CN)
  sup : mg "super" = none
def spNR (CN : Addr) : Sp := fun vs H Q _ => ∃ (a : Addr) (i : Nat), vs = [.ref a, .int (i : Int)] ∧ H a = some (exo a CN none) ∧ i ≤ 1000000 ∧ ∀ dx, H dx = none → dx ≠ a → Q .non (upd (upd H dx (exd dx [("row", .int (i : Int))])) a (exo a CN (some dx)))
section
variable {P : Program} {w : World} {K : PySem.W.Frag} {mg : Str → Option Value} {base : Heap} {t1 t2 t3 : Tok}
theorem scNR : SupScope ["self", "row"] ["self", "row"] (defScope sNTInit) := supScope_by (by decide +kernel)
theorem ok_nr {CX : CXT} {CN f cda cc : Addr} {fd : FuncData} (N : NRule P K mg CN f cda cc fd) : FnOk P w K mg base CX 1 f fd ["self", "row"] (spNR CN) := by
  refine fn_sup (N := ["self", "row"]) N.T N.SF scNR (by rfl) (by rfl) (by decide) N.sup (fun vs H Q E h => ?_) (fun L => by rfl) (fun L => by rfl) (fun L => by rfl) (fun L => ⟨_, by rfl⟩) (fun A outer s H vs Q E hr h => ?_)
  · obtain ⟨a, z, rfl, _⟩ := h
    rfl
  · obtain ⟨a, i, rfl, ea, hi, q⟩ := h
    refine ⟨a, _, _, rfl, ea, pa_cons (pe_joined (.cons pe_str (.cons (pe_fmt (pv 1)) .nil))) pa_nil, pss_one (ps_ost (pv 0) (pv 1)), ?_⟩
    have l1 : (Str.empty ++ Str.ofString "this can't be read: see row ").length = 28 := by rfl
    have i30 : i < 10 ^ 30 := Nat.lt_of_le_of_lt hi (by decide)
    have e1 : ((toString (i : Int) : String) : Str) = num i := num_str (Int.natCast_nonneg i)
    have l2 := num_len i30
    refine ⟨_, rfl, by rw [l1, sizeLine_eq]; omega, .int (i : Int), rfl, .inr ⟨(i : Int), rfl, num_log i30, num i, by rw [← e1], by rw [len_app, l1, sizeLine_eq]; omega, ?_⟩⟩
    refine ⟨by show 1 ≤ 1000; decide, ea, ?_⟩
    exact ⟨.int (i : Int), rfl, .ref a, rfl, a, CN, rfl, N.T, N.no, .inl ⟨ea, fun dx n1 n2 => q dx n1 n2⟩⟩
/-- refused at that row -/
def Ref (CN : Addr) (i : Nat) (H : Hp) (E : XK) : Prop := ∀ (d : Addr) (H' : Hp), Same H H' → H' d = some (.xd [("row", .int (i : Int))]) → E (.ref CN) (some d) H'
theorem Ref.same {CN : Addr} {z : Nat} {H H' : Hp} {E : XK} (r : Ref CN z H E) (s : Same H H') : Ref CN z H' E := fun d H2 s2 e => r d H2 (s.trans s2) e
theorem raised {CN : Addr} {i : Nat} {H : Hp} {E : XK} {σ : L2.St} (hz : i ≤ 1000000) (r : Ref CN i H E) :
    tMkO CN (spNR CN) [] (tCons (tC (.int (i : Int))) tNil) σ H E := by
  refine ⟨by show 1 ≤ 1000; decide, fun a na => ⟨a, i, rfl, upd_same, hz, fun dx n1 n2 => ?_⟩⟩
  have nd : H dx = none := by rw [upd_ne n2] at n1; exact n1
  refine ⟨rfl, dx, _, upd_same, by rw [upd_ne n2]; exact upd_same, nd, r dx _ (fun b o e => ?_) upd_same⟩
  have b1 : b ≠ a := ne_of_none e na
  have b2 : b ≠ dx := ne_of_none e nd
  rw [upd_ne b2, del_ne b1, upd_ne b1, upd_ne b2, upd_ne b1]
  exact e
end
end K53
set_option maxHeartbeats 4000000
/-! isinstance of a caught error, fields or not, where it is one; making of an object whose __init__ may refuse -/
namespace RV
open PySem PySem.Spec PyProof.Rows L2
section
variable {prog : Program} {w : World} {A : Around} {E : Value → Shared → Prop} {s : Shared} {K : PySem.W.Frag}
theorem isi_yes {x t c : Value} {Q : Value → Shared → Prop} (LT : ∀ M, PySem.W.Looks M s.heap (typeOf x) t) (X : K.In s.heap) (e : PySem.W.kitOne K t c = some true) (hx : x ≠ .builtin "__main__.__loader__#opaque") (h : Q (.bool true) s) : wpAny (model prog w) A (call (.builtin "isinstance") [x, c]) Q E s := by
  refine call_isinstance (S := fun _ R s' => s' = s ∧ R (.ok (.ret (.bool true))) s') (fun prog w A R s' hs => isinstance_outer ?_ hx) ⟨rfl, h⟩
  obtain ⟨es, hr⟩ := hs
  subst es
  unfold PySem.W.kitOne at e
  unfold Builtin.«isinstance.nested»
  obtain ⟨hp, g, d, tk, os⟩ := s'
  refine wpAny_bind ((LT _).at ?_)
  by_cases q : (t == c) = true
  · rw [if_pos q]
    first
      | exact wpAny_bind (wpAny_rule hr)
      | exact wpAny_bind (wpAny_rule (wpAny_pure hr))
      | ((repeat lk); exact hr)
  · rw [if_neg q] at e ⊢
    obtain ⟨c1, c2, c3⟩ := PySem.W.kit_cls (M := model prog w) X e
    refine wpAny_bind (c1.at ?_)
    rw [if_pos (by decide)]
    k_delta "plainIsInstance"
    refine wpAny_bind (wpAny_bind (c2.at ?_))
    simp only [Bool.not_true, Bool.false_eq_true, if_false]
    refine wpAny_bind ((PySem.W.Looks.andThen (LT _) c3 : PySem.W.Looks (model prog w) hp (isInstance x c) true).at ?_)
    first
      | exact wpAny_pure (wpAny_pure hr)
      | (simp only [if_true]; first | exact wpAny_pure hr | exact wpAny_pure (wpAny_pure hr) | exact wpAny_bind (wpAny_pure (wpAny_pure hr)))
end
section
variable {X : Cx} {a : Addr} {oe : Obj} {cls : Value} {d : Option Addr} {pn : List (Addr × Obj)}
/-- isinstance(e, c) that is so -/
theorem call_isY {K : PySem.W.Frag} (hK : X.K = K) (hz : Zc cls d oe) : CallR (X.suite a ((a, oe) :: pn)) (.builtin "isinstance") (fun xs H Q => ∃ (c : V) (cv : Value), xs = [.ref a, c] ∧ (∀ u, RelV c u → u = cv) ∧ PySem.W.kitOne K cls cv = some true ∧ Q (.bl true) H) := by
  subst hK
  intro pins s σ H xs us Q I r h
  obtain ⟨c, cv, rfl, one, e, q⟩ := h
  match us, r with
  | [_, _], .cons rx (.cons rt .nil) =>
    cases rx
    cases one _ rt
    obtain ⟨get, _⟩ := I.pin (a, oe) (List.mem_append_left _ List.mem_cons_self)
    refine isi_yes (K := X.K) (fun M => ?_) I.kIn e (by intro z; cases z) ⟨.bl true, H, I, rfl, q⟩
    exact fun _ _ _ _ k q => wpAny_typeOf_ref (k _ _ get) (hz.1 ▸ q)
end
/-- C(e, ..), an __init__ that may refuse: what is wanted of the refusal may speak of the slots -/
def tMakeS (C : Addr) (sp : Sp) (E : L2.St → XK) (t : TA) : TE := fun σ H Q => t σ H fun vs H1 => ∀ x dx, H1 x = none → H1 dx = none → dx ≠ x → sp (.ref x :: vs) (upd (upd H1 dx (.own x)) x (.ins C dx [])) (fun v H2 => v = .non ∧ Q (.ref x) H2) (E σ)
section
variable {X : Cx} {CX : CXT} {k : Nat} {f C : Addr} {fd : FuncData} {ps : List Str} {sp : Sp} {E : L2.St → XK} {x : Str} {p pos : Pos} {e : Expr} {es : List Expr} {t : TA}
theorem pe_makeS (M : Mk X.K C f) (F : FnOk X.prog X.w X.K X.mg X.base CX k f fd ps sp) (hr : Room (k + 1) X.A) (hg : Gl X x) (hm : X.mg x = some (.ref C)) (hb : Binds X.K fd ps []) (hx : ∀ σ, PassesAt CX X σ (E σ)) (ha : PA X (e :: es) t)
    (hdb : (x == ("__debug__" : Str)) = false := by decide) (he : starEach (e :: es) X.env = (false, eval e X.env) :: starEach es X.env := by rfl) (hpl : (backTo pos (starEach es X.env)).any (·.1) = false := by rfl) :
    PE X (.Call (.Name x p) (e :: es) [] pos) (tMakeS C sp E t) := by
  refine ⟨fun pins s σ H Q I h => wpAny_Call_Name_kw (ld_glob I hg hm ?_ hdb)⟩
  refine PySem.W.callWith_K (h₀ := X.base) I.ok.mod.kin M.kp (thn (ha.run pos pins s σ H _ I h) fun us s1 ⟨vs, H1, J, r, q⟩ => ⟨J.kIn, ?_⟩) he hpl
  have q1 := q (s1.heap.objs.size + 1) s1.heap.objs.size (J.hok.fresh (Nat.le_succ _)) (J.hok.fresh (Nat.le_refl _)) (Nat.ne_of_lt (Nat.lt_succ_self _))
  have J2 := Inv.made (C := C) J
  have rr : Vals (V.ref (s1.heap.objs.size + 1) :: vs) (Value.ref (s1.heap.objs.size + 1) :: us) := .cons rfl r
  have ln : (Value.ref (s1.heap.objs.size + 1) :: us).length = ps.length := by rw [← rr.length]; exact F.len _ _ _ _ q1
  have bb := hb _ (Value.ref (s1.heap.objs.size + 1) :: us) J2.kIn (by rw [List.append_nil]; exact ln)
  rw [List.append_nil] at bb
  refine wpAny_call (make_map (f := f) J.kIn M.makes M.init (beq_iff_eq.mp M.fn) (codeAny_mono (F.run _ X.stack _ _ ⟨_, []⟩ _ _ _ (E σ) (hr.make C us []) (J2.env0.make C us []) bb rr q1) fun res s' z => ?_))
  match res, z with
  | .error e', z => exact hx σ pins _ _ e' s' J2 z
  | .ok (.ret u), z =>
    obtain ⟨v, H', J3, rv, ev, q3⟩ := J2.after z
    subst ev
    exact ⟨rv, V.ref (s1.heap.objs.size + 1), H', J3, rfl, q3⟩
  | .ok .next, z => exact z.elim
  | .ok .brk, z => exact z.elim
  | .ok .cont, z => exact z.elim
end
end RV
set_option maxHeartbeats 4000000
namespace K53
open PySem PySem.Spec PyProof.Rows L2 RV TL
section
variable {P : Program} {w : World} {K : PySem.W.Frag} {mg : Str → Option Value} {base : Heap} {t1 t2 t3 : Tok}
/-! ### is_below, are_marks of any numbers -/
def spMarkB : Sp := fun vs H Q _ => ∃ i n : Int, vs = [.int i, .int n] ∧ Q (.bl (decide (0 ≤ i) && decide (i < n))) H
theorem ok_markB {f fW : Addr} {fd fdW : FuncData} (F : Fun K "is_below" "is_below" sMark f fd) (D : DefAt K mg "is_whole" sWhole ["thing"] fW fdW) (B : Bare mg) : FnOk P w K mg base CX0 2 f fd ["thing", "many"] spMarkB := by
  have GW : FnOk P w K mg base CX0 1 fW fdW ["thing"] spWhole := ok_whole D.fn B
  refine F.ok scMark (fun vs H Q E h => ?_) (fun cdv A outer s H vs Q E hr h => ?_)
  · obtain ⟨i, n, rfl, _⟩ := h
    rfl
  · obtain ⟨i, n, rfl, q⟩ := h
    refine ⟨_, pss_one (ps_ret (pe_and (pe_call GW hr (by rfl) D.mg D.fn.kp D.bi .nil pass0 (pa_cons (pv 0) pa_nil)) (pe_one (pe_chain op_le op_lt pe_int (pv 0) (pv 1))))), ?_⟩
    refine ⟨.int i, rfl, i, rfl, true, rfl, iteT ?_⟩
    refine ⟨.int i, rfl, 0, i, rfl, rfl, _, rfl, ?_⟩
    by_cases h1 : 0 ≤ i
    · rw [decide_eq_true h1] at q ⊢
      rw [Bool.true_and] at q
      exact iteT ⟨.int n, rfl, i, n, rfl, rfl, q⟩
    · rw [decide_eq_false h1] at q ⊢
      rw [Bool.false_and] at q
      exact iteF q
def mkB (n : Int) (ns : List Int) : Bool := decide (0 < ns.length) && ns.all fun i => decide (0 ≤ i) && decide (i < n)
def spMarksB (K : PySem.W.Frag) : Sp := fun vs H Q _ => ∃ (a : Addr) (ns : List Int) (n : Int), vs = [.ref a, .int n] ∧ SqT K H a (ns.map V.int) ∧ ns.length ≤ 1000 ∧ ∀ H', Same H H' → Q (.bl (mkB n ns)) H'
theorem ok_marksB {f fM fW : Addr} {fd fdM fdW : FuncData} (F : Fun K "are_marks" "are_marks" sMarks f fd) (DM : DefAt K mg "is_below" sMark ["thing", "many"] fM fdM) (DW : DefAt K mg "is_whole" sWhole ["thing"] fW fdW) (B : Bare mg) :
    FnOk P w K mg base CX0 3 f fd ["thing", "many"] (spMarksB K) := by
  have GM : FnOk P w K mg base CX0 2 fM fdM ["thing", "many"] spMarkB := ok_markB DM.fn DW B
  refine F.ok scMarks (fun vs H Q E h => ?_) (fun cdv A outer s H vs Q E hr h => ?_)
  · obtain ⟨a, ns, n, rfl, _⟩ := h
    rfl
  · obtain ⟨a, ns, n, rfl, hT, hm, q⟩ := h
    refine ⟨_, pss_one (ps_ret (pe_and (pe_callB call_isi (by rfl) B.isinstance (by decide +kernel) (pa_cons (pv 0) (pa_cons (pe_bltn (v := .ty "tuple") (by rfl) B.tuple (by decide +kernel) rfl) pa_nil)))
      (pe_and (pe_cmpR op_gt (pe_callB call_len_seq (by rfl) B.len PySem.boot_len (pa_cons (pv 0) pa_nil)) pe_int (nomark _))
      (pe_one (pe_callB (cr_all rfl) (by rfl) B.all (by decide +kernel) (pa_cons
        (pe_lc (own := [("mark", 2)]) (g := gName 2) (tt := tYes) rfl scMarks.nd (pi_tup (pv 0)) (blkOk_by (N := ["thing", "many", "mark"]) (sc := defScope sMarks) (by decide +kernel)) (fun _ _ _ _ _ => pg_name (i := 2) scMarks.nd rfl (Or.inl rfl)) (fun _ _ _ _ _ => pts_nil)
          (fun _ _ _ _ _ => pe_call GM hr (by rfl) DM.mg DM.fn.kp DM.bi .nil pass0 (pa_cons (pv 2) (pa_cons (pv 1) pa_nil)))) pa_nil)))))), ?_⟩
    refine ⟨.ref a, rfl, .ref a, .ty "tuple", _, _, true, rfl, .ty "tuple", tyT hT, kit_ty (by decide +kernel), true, rfl, iteT ?_⟩
    refine ⟨.ref a, rfl, a, _, rfl, .inr hT, _, _, rfl, rfl, decide (((ns.map V.int).length : Int) > 0), rfl, ?_⟩
    by_cases h0 : 0 < ns.length
    · rw [decide_eq_true (show ((ns.map V.int).length : Int) > 0 by rw [List.length_map]; omega)]
      refine iteT ⟨.ref a, rfl, a, rfl, ⟨_, hT⟩, fun D nD => ?_⟩
      refine lc_tup (K := K) (a := a) (xs := ns.map V.int) (fun i H' => Same H H' ∧ H' D = some (.lst (((ns.take i).map fun i => decide (0 ≤ i) && decide (i < n)).map V.bl))) ⟨same_upd nD, upd_same⟩ (fun i H' _ p => sqT_same p.1 hT) (fun i x H' hx p => ?_) fun H' p => ?_
      · obtain ⟨m, hm', rfl⟩ := map_at hx
        have hi : i < ns.length := (List.getElem?_eq_some_iff.mp hm').1
        refine ⟨rfl, tt_yes ⟨.int m, rfl, .int n, rfl, m, n, rfl, _, p.2, ?_, ?_, ?_⟩⟩
        · rw [List.length_map, List.length_map, List.length_take]; exact few1 (by omega)
        · exact fun b o e => by rw [upd_ne (ne_of_none e nD)]; exact p.1 b o e
        · rw [upd_same, List.take_add_one, hm', List.map_append, List.map_append]; rfl
      · rw [List.length_map, List.take_of_length_le (Nat.le_refl _)] at p
        refine ⟨D, _, rfl, lstNew p.2, ?_⟩
        rw [all_map]
        have z := q H' p.1
        unfold mkB at z
        rw [decide_eq_true h0, Bool.true_and] at z
        exact z
    · rw [decide_eq_false (show ¬ ((ns.map V.int).length : Int) > 0 by rw [List.length_map]; omega)]
      have z := q H (Same.refl H)
      unfold mkB at z
      rw [decide_eq_false h0, Bool.false_and] at z
      exact iteF z
end
end K53
set_option maxHeartbeats 4000000
namespace K53
open PySem PySem.Spec PyProof.Rows L2 RV TL
/-! ### what such texts write -/
def star : Str := Str.ofString "*"
def slash : Str := Str.ofString "/"
def dash : Str := Str.ofString "-"
def pt1 : Str := Str.ofString "."
theorem tl_star : tl star = [42] := by unfold star; rw [tl_ofString]; decide
theorem tl_slash : tl slash = [47] := by unfold slash; rw [tl_ofString]; decide
theorem tl_dash : tl dash = [45] := by unfold dash; rw [tl_ofString]; decide
theorem tl_pt : tl pt1 = [46] := by unfold pt1; rw [tl_ofString]; decide
theorem cut_star (x : Str) : Cut star x 42 (Txt.split x star) := cut_of tl_star (by decide +kernel) x
theorem cut_slash (x : Str) : Cut slash x 47 (Txt.split x slash) := cut_of tl_slash (by decide +kernel) x
theorem cut_pt (x : Str) : Cut pt1 x 46 (Txt.split x pt1) := cut_of tl_pt (by decide +kernel) x
theorem map_tl_inj : ∀ {a b : List Str}, a.map tl = b.map tl → a = b
  | [], [], _ => rfl
  | [], _ :: _, h => by cases h
  | _ :: _, [], h => by cases h
  | x :: a, y :: b, h => by
    rw [List.map_cons, List.map_cons] at h
    injection h with h1 h2
    rw [ext_tl h1, map_tl_inj h2]
/-- a text by its first star -/
theorem star_cases (w : Str) : (42 ∉ tl w ∧ Txt.split w star = [w] ∧ Txt.partition w star = (w, Str.empty, Str.empty)) ∨ ∃ a b : Str, 42 ∉ tl a ∧ tl w = tl a ++ 42 :: tl b ∧ Txt.split w star = a :: Txt.split b star ∧ Txt.partition w star = (a, star, b) := by
  have spl_ : ∀ x, (Txt.split x star).map tl = spl [42] 0 [] (tl x) := fun x => by
    have e := split_spl x star (by rw [tl_star]; simp) (kind_ok (by decide +kernel))
    rw [tl_star] at e; exact e
  by_cases h : 42 ∈ tl w
  · right
    obtain ⟨p, r, e, hp⟩ := List.eq_append_cons_of_mem h
    refine ⟨⟨p.toArray⟩, ⟨r.toArray⟩, by rw [tl_mk]; exact hp, by rw [tl_mk, tl_mk]; exact e, ?_, ?_⟩
    · refine map_tl_inj ?_
      rw [List.map_cons, spl_, spl_, e, tl_mk, tl_mk]
      have z := spl_part1 (s := 42) (S := []) (p := p) (rest := r) (acc := []) hp
      exact z
    · have ew : w = (⟨p.toArray⟩ : Str) ++ star ++ (⟨r.toArray⟩ : Str) := by
        refine ext_tl ?_
        rw [e, tl_append, tl_append, tl_star, tl_mk, tl_mk, List.append_assoc]; rfl
      rw [ew]
      exact partition_app (s := 42) (S := []) tl_star (by rw [tl_mk]; exact hp)
  · left
    refine ⟨h, map_tl_inj ?_, partition_none (s := 42) (S := []) tl_star h⟩
    rw [spl_, spl_last1 h]; rfl
theorem split_one {w : Str} (h : 42 ∉ tl w) : Txt.split w star = [w] := by
  rcases star_cases w with ⟨_, e, _⟩ | ⟨a, b, _, e, _⟩
  · exact e
  · exact absurd (by rw [e]; simp) h
theorem num_digits {c n : Nat} (h : c ∈ tl (num n)) : 48 ≤ c ∧ c ≤ 57 := by
  rw [tl_nm] at h
  exact numL_digits n c h
theorem numF_odd {w : Str} {c : Nat} (h : c ∈ tl w) (hc : c < 48 ∨ 57 < c) : numF w = none := numF_none.mpr fun n _ e => by
  rw [e] at h
  have := num_digits h
  omega
theorem numF_empty {w : Str} (h : tl w = []) : numF w = none := numF_none.mpr fun n _ e => by
  have := num_pos n
  rw [← e, len_tl, h] at this
  cases this
theorem numsF_bad {ws : List Str} {w : Str} (h : w ∈ ws) (e : numF w = none) : numsF ws = none := by
  unfold numsF
  rw [if_pos (List.any_eq_true.mpr ⟨w, h, by rw [e]; rfl⟩)]
theorem joinL_mem {S : List Nat} {c : Nat} (hS : c ∉ S) : ∀ {l : List (List Nat)}, c ∈ joinL S l → ∃ p ∈ l, c ∈ p
  | [], h => by cases h
  | [p], h => ⟨p, List.mem_singleton.mpr rfl, h⟩
  | p :: q :: r, h => by
    rw [joinL_cons S p (List.cons_ne_nil q r)] at h
    rcases List.mem_append.mp h with h | h
    · exact ⟨p, List.mem_cons_self .., h⟩
    · rcases List.mem_append.mp h with h | h
      · exact absurd h hS
      · obtain ⟨x, h1, h2⟩ := joinL_mem hS h
        exact ⟨x, List.mem_cons_of_mem _ h1, h2⟩
theorem Cut.has {y x : Str} {s c : Nat} {ws : List Str} (h : Cut y x s ws) (hc : c ∈ tl x) (n : c ≠ s) : ∃ w ∈ ws, c ∈ tl w := by
  rw [h.join] at hc
  obtain ⟨p, hp, h2⟩ := joinL_mem (by simpa using n) hc
  obtain ⟨w, hw, rfl⟩ := List.mem_map.mp hp
  exact ⟨w, hw, h2⟩
/-- where a sign stands that no number has, no numbers are written -/
theorem nums_odd {y x : Str} {s c : Nat} {ws : List Str} (h : Cut y x s ws) (hc : c ∈ tl x) (n : c ≠ s) (o : c < 48 ∨ 57 < c) : numsF ws = none := by
  obtain ⟨w, hw, h2⟩ := h.has hc n
  exact numsF_bad hw (numF_odd h2 o)
noncomputable def marksF (z : Str) : Option (List Nat) := if z = dash then some [] else numsF (Txt.split z pt1)
noncomputable def goodF (n : Option Nat) (ms : Option (List Nat)) : Option (Int × List Int) := match n, ms with
  | some n, some ms => if n ≠ 0 ∧ mkB 8 (ms.map fun (i : Nat) => (i : Int)) = true then some ((n : Int), ms.map fun (i : Nat) => (i : Int)) else none
  | _, _ => none
theorem goodF_no (n : Option Nat) : goodF n none = none := by cases n <;> rfl
/-- the run that a word writes -/
noncomputable def runF (w : Str) : Option (Int × List Int) := match Txt.split w star with
  | [a, b] => goodF (numF a) (numsF (Txt.split b pt1))
  | _ => none
theorem runF_part (w : Str) : goodF (numF (Txt.partition w star).1) (marksF (Txt.partition w star).2.2) = runF w := by
  rcases star_cases w with ⟨h, e1, e2⟩ | ⟨a, b, h, ew, e1, e2⟩
  · rw [e2]
    unfold runF
    rw [e1]
    have e3 : marksF Str.empty = none := by
      unfold marksF
      rw [if_neg (fun z => by have := congrArg tl z; rw [tl_dash] at this; cases this)]
      have c := cut_pt Str.empty
      have l0 : Str.empty.length = 0 := rfl
      have s := c.sum
      obtain ⟨p, r, e⟩ : ∃ p r, Txt.split Str.empty pt1 = p :: r := by
        cases e : Txt.split Str.empty pt1 with
        | nil => exact absurd e c.ne
        | cons p r => exact ⟨p, r, rfl⟩
      refine numsF_bad (w := p) (by rw [e]; exact List.mem_cons_self ..) (numF_empty ?_)
      rw [e] at s
      simp only [List.map_cons, List.sum_cons, List.length_cons, l0] at s
      refine List.eq_nil_of_length_eq_zero ?_
      rw [← len_tl]; omega
    show goodF (numF w) (marksF Str.empty) = none
    rw [e3, goodF_no]
  · rw [e2]
    unfold runF
    rw [e1]
    show goodF (numF a) (marksF b) = _
    by_cases hb : 42 ∈ tl b
    · have e3 : marksF b = none := by
        unfold marksF
        rw [if_neg (fun z => by rw [z, tl_dash] at hb; simp at hb)]
        exact nums_odd (cut_pt b) hb (by decide) (.inl (by decide))
      rw [e3, goodF_no]
      rcases star_cases b with ⟨n, _⟩ | ⟨c, d, _, _, e4, _⟩
      · exact absurd hb n
      · rw [e4]
        have ne := (cut_star d).ne
        cases e5 : Txt.split d star with
        | nil => exact absurd e5 ne
        | cons x r => rfl
    · rw [split_one hb]
      show _ = goodF (numF a) (numsF (Txt.split b pt1))
      unfold marksF
      by_cases hd : b = dash
      · rw [if_pos hd, nums_odd (c := 45) (cut_pt b) (by rw [hd, tl_dash]; simp) (by decide) (.inl (by decide)), goodF_no]
        unfold goodF
        cases numF a with
        | none => rfl
        | some n => exact if_neg (fun z => by have := z.2; unfold mkB at this; simp at this)
      · rw [if_neg hd]
def allSome {α : Type} : List (Option α) → Option (List α)
  | [] => some []
  | none :: _ => none
  | some a :: r => (allSome r).map (a :: ·)
theorem allSome_none {α : Type} {l : List (Option α)} : allSome l = none ↔ none ∈ l := by
  induction l with
  | nil => exact ⟨fun h => (by cases h), fun h => (by cases h)⟩
  | cons a r ih => cases a with
    | none => exact ⟨fun _ => List.mem_cons_self .., fun _ => rfl⟩
    | some a =>
      show (allSome r).map _ = none ↔ _
      rw [Option.map_eq_none_iff, ih]
      simp
theorem allSome_some {α : Type} {l : List (Option α)} {xs : List α} : allSome l = some xs ↔ l = xs.map some := by
  induction l generalizing xs with
  | nil =>
    show some [] = some xs ↔ _
    constructor
    · intro h; cases h; rfl
    · intro h; cases xs with
      | nil => rfl
      | cons _ _ => cases h
  | cons a r ih => cases a with
    | none => exact ⟨fun h => (by cases h), fun h => (by cases xs <;> cases h)⟩
    | some a =>
      show (allSome r).map _ = some xs ↔ _
      rw [Option.map_eq_some_iff]
      constructor
      · rintro ⟨ys, h1, rfl⟩
        rw [ih.mp h1]; rfl
      · intro h
        cases xs with
        | nil => cases h
        | cons y ys =>
          rw [List.map_cons] at h
          injection h with h1 h2
          injection h1 with h1
          exact ⟨ys, ih.mpr h2, by rw [h1]⟩
/-- the pair that a word writes -/
noncomputable def pairF (w : Str) : Option (List Int) := match numsF (Txt.split w slash) with
  | some ns => if ns.length = 2 then some (ns.map fun (i : Nat) => (i : Int)) else none
  | none => none
noncomputable def ringF (z : Str) : Option (List (Int × List Int)) := allSome ((Txt.split z sp1).map runF)
noncomputable def planF (z : Str) : Option (List (List Int)) := if z = dash then some [] else allSome ((Txt.split z sp1).map pairF)
/-! ### marks of one figure -/
def sOct : Str := Str.ofString "01234567"
def sTen : Str := Str.ofString "0123456789"
theorem oct_tl : tl sOct = [48, 49, 50, 51, 52, 53, 54, 55] := by unfold sOct; rw [tl_ofString]; decide
theorem oct_iff {m : Str} : m ∈ (tl sOct).map (fun c => (⟨#[c]⟩ : Str)) ↔ ∃ n, n < 8 ∧ numF m = some n := by
  constructor
  · intro h
    obtain ⟨c, hc, rfl⟩ := List.mem_map.mp h
    rw [oct_tl] at hc
    have h2 : 48 ≤ c ∧ c ≤ 55 := by
      simp only [List.mem_cons, List.not_mem_nil, or_false] at hc
      omega
    refine ⟨c - 48, by omega, numF_some.mpr ⟨Nat.lt_of_lt_of_le (show c - 48 < 8 by omega) (by decide), ext_tl ?_⟩⟩
    rw [tl_nm, numL_lt (by omega)]
    show [c] = _
    congr 1; omega
  · rintro ⟨n, hn, e⟩
    obtain ⟨_, rfl⟩ := numF_some.mp e
    refine List.mem_map.mpr ⟨48 + n, ?_, ext_tl ?_⟩
    · rw [oct_tl]
      simp only [List.mem_cons, List.not_mem_nil, or_false]
      omega
    · rw [tl_nm, numL_lt (by omega)]
end K53
set_option maxHeartbeats 4000000
/-! a law's head by a hook of my own: a part of the heap that only follows tables, functions and classes, the functions by He's facts, the rest as a list of looks. -/
namespace RV
open PySem PySem.Spec PyProof.Rows L2
/-- what a table, a function, a class names -/
def refsX (o : Obj) : List Addr := match o.data with
  | .dict es _ => es.toList.flatMap fun e => He.refV e.val
  | .func fd => He.refV fd.code
  | .cls cd => [cd.ns]
  | _ => []
def growX (g : Addr → Option Obj) (as : List Addr) : List Addr := as.flatMap fun a => match g a with
  | some o => refsX o
  | none => []
def asX (g : Addr → Option Obj) : List Addr :=
  let a1 := growX g [mainGlobals]
  let a2 := growX g a1
  let a3 := growX g a2
  let a4 := growX g a3
  mainGlobals :: (a1 ++ (a2 ++ (a3 ++ a4)))
abbrev AlX : Type := He.Al × Bool
def obsX (fa : List He.Fa) (fn : List He.FnD) (ex : List (PySem.W.Frag → Bool)) (K : PySem.W.Frag) : AlX := (He.obsE fa fn K, ex.all fun p => p K)
def valX (fn : List He.FnD) : AlX := (He.valE fn, true)
def obsXG (fa : List He.Fa) (fn : List He.FnD) (ex : List (PySem.W.Frag → Bool)) (g : Addr → Option Obj) : AlX := obsX fa fn ex (He.frG g (asX g))
structure SaysX (fa : List He.Fa) (fn : List He.FnD) (ex : List (PySem.W.Frag → Bool)) (K : PySem.W.Frag) : Prop where
  e : He.SaysE fa fn K
  x : (ex.all fun p => p K) = true
def hookX (fa : List He.Fa) (fn : List He.FnD) (ex : List (PySem.W.Frag → Bool)) : PySem.W.Hook where
  α := AlX
  obs := fun s => obsXG fa fn ex s.heap.get?
  val := fun _ => valX fn
  says := fun _ h => ∃ K : PySem.W.Frag, K.In h ∧ SaysX fa fn ex K
  of := fun _ _ e => ⟨_, He.frG_in, congrArg (fun z : AlX => z.1) e, congrArg (fun z : AlX => z.2) e⟩
  keeps := fun _ _ _ ⟨K, hK, c⟩ k => ⟨K, PySem.W.Frag.In.keeps hK k, c⟩
theorem obsXG_eq {fa : List He.Fa} {fn : List He.FnD} {ex : List (PySem.W.Frag → Bool)} {g : Addr → Option Obj} {s : Shared} (h : ∀ a, g a = s.heap.get? a) : obsXG fa fn ex g = (hookX fa fn ex).obs s := by
  have e : g = s.heap.get? := funext h
  rw [e] <;> rfl
section
variable {fa : List He.Fa} {fn : List He.FnD} {ex : List (PySem.W.Frag → Bool)} {K : PySem.W.Frag} {h : Heap} {mg : Str → Option Value}
theorem SaysX.look (c : SaysX fa fn ex K) (i : Nat) {p : PySem.W.Frag → Bool} (e : ex[i]? = some p) : p K = true := List.all_eq_true.mp c.x p (List.mem_of_getElem? e)
theorem SaysX.dec (c : SaysX fa fn ex K) (i : Nat) {P : PySem.W.Frag → Prop} [d : ∀ K, Decidable (P K)] (e : ex[i]? = some fun K => decide (P K)) : P K := of_decide_eq_true (c.look i e)
/-- the int that a name stands for -/
def intX (x : Str) (i : Int) (K : PySem.W.Frag) : Bool := match PySem.W.nsIn K mainGlobals x with
  | some (some (.int j _)) => decide (j = i)
  | _ => false
theorem intX_ok {x : Str} {i : Int} (c : intX x i K = true) : ∃ t, PySem.W.nsIn K mainGlobals x = some (some (.int i t)) := by
  unfold intX at c
  cases e : PySem.W.nsIn K mainGlobals x with
  | none =>
    rw [e] at c
    cases c
  | some o =>
    rw [e] at c
    cases o with
    | none => cases c
    | some v =>
      cases v with
      | int j t =>
        have ej : j = i := of_decide_eq_true c
        rw [ej]
        exact ⟨t, rfl⟩
      | _ => cases c
/-- a def of the top -/
theorem def_x (X : K.In h) (G : h.Ns mainGlobals mg) (c : SaysX fa fn ex K) {x : Str} {st : Stmt} {ps : List Str} (i : Nat) (hd : fn[i]? = some ⟨(x, none), x, x, defArgs st, defBody st, defScope st⟩) (hg : fa[2 * i]? = some (.glo x)) (hk : fa[2 * i + 1]? = some (.keep x))
    (hb : ∀ (kV doc pm : Value) (an : Option Addr) (cdv ct : Value) (us : List Value), us.length = ps.length → bindArgs (PySem.W.fnOf x x (defArgs st) (defBody st) (defScope st) .none kV doc pm an cdv ct) ⟨us, []⟩ = pure (ps.zip us)) :
    ∃ (f : Addr) (fd : FuncData), Fun K x x st f fd ∧ Binds K fd ps [] ∧ mg x = some (.ref f) := by
  obtain ⟨oc, od, osl, kV, doc, pm, an, cdv, ct, lk, cd⟩ := c.e.def_ i hd
  have F : Fun K x x st _ _ := fun_mk (st := st) lk cd (He.keep_ok (c.e.fact (2 * i + 1) hk))
  exact ⟨_, _, F, F.binds hb, He.glo_ok X G (c.e.fact (2 * i) hg)⟩
/-- the law -/
theorem law_x (X : K.In h) (G : h.Ns mainGlobals mg) (c : SaysX fa fn ex K) {x q : Str} {st : Stmt} (i : Nat) (hd : fn[i]? = some ⟨(x, none), x, x, defArgs st, defBody st, defScope st⟩) (hg : fa[2 * i]? = some (.glo x)) (hk : fa[2 * i + 1]? = some (.keep x))
    (hb : ∀ (kV doc pm : Value) (an : Option Addr) (cdv ct : Value) (s : Shared) (v : Value), BindsTo s (PySem.W.fnOf x x (defArgs st) (defBody st) (defScope st) .none kV doc pm an cdv ct) ⟨[v], []⟩ [(q, v)]) :
    ∃ (f : Addr) (fd : FuncData), Fun K x x st f fd ∧ (∀ (s : Shared) (v : Value), BindsTo s fd ⟨[v], []⟩ [(q, v)]) ∧ mg x = some (.ref f) := by
  obtain ⟨oc, od, osl, kV, doc, pm, an, cdv, ct, lk, cd⟩ := c.e.def_ i hd
  have F : Fun K x x st _ _ := fun_mk (st := st) lk cd (He.keep_ok (c.e.fact (2 * i + 1) hk))
  exact ⟨_, _, F, hb kV doc pm an cdv ct, He.glo_ok X G (c.e.fact (2 * i) hg)⟩
/-- a method -/
theorem meth_x (c : SaysX fa fn ex K) {C : Addr} {x m q : Str} {st : Stmt} {ps : List Str} (hC : He.ga K x = C) (i j : Nat) (hd : fn[i]? = some ⟨(x, some m), m, q, defArgs st, defBody st, defScope st⟩) (hm : fa[j]? = some (.meth x m))
    (hb : ∀ (kV doc pm : Value) (an : Option Addr) (cdv ct : Value) (us : List Value), us.length = ps.length → bindArgs (PySem.W.fnOf m q (defArgs st) (defBody st) (defScope st) .none kV doc pm an cdv ct) ⟨us, []⟩ = pure (ps.zip us)) :
    ∃ (f : Addr) (fd : FuncData), Fun K m q st f fd ∧ Binds K fd ps [] ∧ PySem.W.findIn K (.ref C) m = some (some (.ref f)) ∧ PySem.W.isFn K (.ref f) = true ∧ PySem.W.keepIn K (.ref f) = true := by
  subst hC
  obtain ⟨oc, od, osl, kV, doc, pm, an, cdv, ct, lk, cd⟩ := c.e.def_ i hd
  have hf := c.e.fact j hm
  obtain ⟨h1, h2⟩ := He.ba hf
  obtain ⟨h3, h4⟩ := He.ba h2
  have F : Fun K m q st _ _ := fun_mk (st := st) lk cd h4
  exact ⟨_, _, F, F.binds hb, He.eqO_ok h1, h3, h4⟩
end
theorem walk_GE {l : PySem.W.OpenLaw} {n k : Nat} {q : Program} {loose : List Str} {XP : (Str → Option Value) → Heap → Prop} {YP : World → Heap → Prop} {d : DefRec} {x : Str}
    (hn : l.most = some n) (hn2 : n ≤ sizeLine) (hdf : d.params.defaults = []) (hr : Room k callerA)
    (F : ∀ (w : World) (mg : Str → Option Value) (fa : Addr) (h : Heap), YP w h → h.Ns mainGlobals mg → mg d.name = some (.ref fa) →
      ∃ (K : PySem.W.Frag) (fd : FuncData) (sp : Sp), K.In h ∧ (∀ (s : Shared) (u : Value), BindsTo s fd ⟨[u], []⟩ [(x, u)]) ∧
        (∀ (H : Hp) (a : Addr) (ns : List Int), ns.length ≤ n → Only H → SqL K H a (ns.map V.int) → sp [.ref a] H (fun v _ => v = .bl true) fun _ _ _ => False) ∧
        ∀ base : Heap, K.In base → base.Ns mainGlobals mg → FnG l.prog w K mg base CX0 k fa fd [x] sp) :
    PySem.W.WalkO q loose XP YP l.row.toRowW d [] (fun f vs => PySem.call f vs) := by
  refine Att.attach_call hn hdf fun w s₀ st mg mb fa o pm cd doc a vs ns G Y ho hd hcd hmg hobj hints hlen hg => ?_
  obtain ⟨K, fd, sp, KX, hb, hsp, hF⟩ := F w mg fa _ Y G.T.g hmg
  exact law_callG KX G.T.g G.T.b G.T.builtins G.T.nolimit hg hobj hints (Nat.le_trans hlen hn2) hr hF hb fun H hO hS => hsp H a ns hlen hO hS
end RV
set_option maxHeartbeats 4000000
/-! a law's head, where own exceptions have an __init__ with super() in it: cells are followed too. -/
namespace RV
open PySem PySem.Spec PyProof.Rows L2
def refsS (o : Obj) : List Addr := match o.data with
  | .dict es _ => es.toList.flatMap fun e => He.refV e.val
  | .func fd => He.refV fd.code ++ fd.closure.map (·.2)
  | .cls cd => [cd.ns]
  | _ => []
def growS (g : Addr → Option Obj) (as : List Addr) : List Addr := as.flatMap fun a => match g a with
  | some o => refsS o
  | none => []
def asS (g : Addr → Option Obj) : List Addr :=
  let a1 := growS g [mainGlobals]
  let a2 := growS g a1
  let a3 := growS g a2
  let a4 := growS g a3
  mainGlobals :: cStatics :: sysModules :: (a1 ++ (a2 ++ (a3 ++ a4)))
/-- a function without its cells -/
abbrev FnSV : Type := Option (Str × Str × Arguments × FuncBody × Scope × Addr × Value × Addr)
def fnObsS (K : PySem.W.Frag) (p : Str × Option Str) : FnSV := match K.lookup (He.fAd K p) with
  | some ⟨_, _, .func fd, _⟩ => some (fd.name, fd.qualname, fd.params, fd.body, fd.scope, fd.globals, fd.defaults, fd.builtins)
  | _ => none
def valOf (d : He.FnD) : FnSV := some (d.name, d.qual, d.params, .stmts d.body, d.scope, mainGlobals, .none, builtinsNs)
abbrev AlS : Type := (He.Al × Bool) × List FnSV
def obsS (fa : List He.Fa) (fn : List He.FnD) (ex : List (PySem.W.Frag → Bool)) (sn : List He.FnD) (K : PySem.W.Frag) : AlS := (obsX fa fn ex K, sn.map fun d => fnObsS K d.at_)
def valS (fn sn : List He.FnD) : AlS := (valX fn, sn.map valOf)
def obsSG (fa : List He.Fa) (fn : List He.FnD) (ex : List (PySem.W.Frag → Bool)) (sn : List He.FnD) (g : Addr → Option Obj) : AlS := obsS fa fn ex sn (He.frG g (asS g))
structure SaysS (fa : List He.Fa) (fn : List He.FnD) (ex : List (PySem.W.Frag → Bool)) (sn : List He.FnD) (K : PySem.W.Frag) : Prop where
  x : SaysX fa fn ex K
  s : (sn.map fun d => fnObsS K d.at_) = sn.map valOf
def hookS (fa : List He.Fa) (fn : List He.FnD) (ex : List (PySem.W.Frag → Bool)) (sn : List He.FnD) : PySem.W.Hook where
  α := AlS
  obs := fun s => obsSG fa fn ex sn s.heap.get?
  val := fun _ => valS fn sn
  says := fun _ h => ∃ K : PySem.W.Frag, K.In h ∧ SaysS fa fn ex sn K
  of := fun _ _ e => ⟨_, He.frG_in, ⟨congrArg (fun z : AlS => z.1.1) e, congrArg (fun z : AlS => z.1.2) e⟩, congrArg (fun z : AlS => z.2) e⟩
  keeps := fun _ _ _ ⟨K, hK, c⟩ k => ⟨K, PySem.W.Frag.In.keeps hK k, c⟩
theorem obsSG_eq {fa : List He.Fa} {fn sn : List He.FnD} {ex : List (PySem.W.Frag → Bool)} {g : Addr → Option Obj} {s : Shared} (h : ∀ a, g a = s.heap.get? a) : obsSG fa fn ex sn g = (hookS fa fn ex sn).obs s := by
  have e : g = s.heap.get? := funext h
  rw [e] <;> rfl
/-- what is looked at of such an __init__: its one cell holds the class, its code lies in the file -/
def cellB (K : PySem.W.Frag) (cc C : Addr) : Bool := match K.lookup cc with
  | some ⟨_, _, .cell (some (.ref D)), _⟩ => decide (D = C)
  | _ => false
def fileB (K : PySem.W.Frag) (cda : Addr) (file : Str) : Bool := match K.lookup cda with
  | some ⟨_, _, .fields vs, _⟩ => (match (vs[2]? : Option Value) with
    | some (Value.str g _) => decide (g = file)
    | _ => false)
  | _ => false
def supB (file q x : Str) (K : PySem.W.Frag) : Bool :=
  He.eqO (PySem.W.findIn K (.ref (He.ga K x)) "__init__") (some (some (.ref (He.ma K (He.ga K x) "__init__")))) && (decide (PySem.W.typeIn K (.ref (He.ma K (He.ga K x) "__init__")) = some (.type "function")) &&
  (match K.lookup (He.ma K (He.ga K x) "__init__") with
    | some ⟨_, _, .func fd, _⟩ => (match fd.closure, fd.code with
      | [(n, cc)], .ref cda => decide (n = ("__class__" : Str)) && (cellB K cc (He.ga K x) && (fileB K cda file && PySem.W.codeIn K (.ref cda) q))
      | _, _ => false)
    | _ => false))
theorem cellB_ok {K : PySem.W.Frag} {cc C : Addr} (h : cellB K cc C = true) : ∃ cl cld csl, K.lookup cc = some ⟨cl, cld, .cell (some (.ref C)), csl⟩ := by
  unfold cellB at h
  split at h
  · rename_i D _ e
    have := of_decide_eq_true h
    subst this
    exact ⟨_, _, _, e⟩
  · cases h
theorem fileB_ok {K : PySem.W.Frag} {cda : Addr} {file : Str} (h : fileB K cda file = true) : ∃ ccl cdd vs ccs tf, K.lookup cda = some ⟨ccl, cdd, .fields vs, ccs⟩ ∧ vs[2]? = some (.str file tf) := by
  unfold fileB at h
  split at h
  · rename_i vs _ e
    split at h
    · rename_i g tf e2
      have := of_decide_eq_true h
      subst this
      exact ⟨_, _, _, _, _, e, e2⟩
    · cases h
  · cases h
section
variable {fa : List He.Fa} {fn sn : List He.FnD} {ex : List (PySem.W.Frag → Bool)} {K : PySem.W.Frag}
theorem sup_x (c : SaysS fa fn ex sn K) {C : Addr} {file q x : Str} {st : Stmt} {ps : List Str} (hC : He.ga K x = C) (i j : Nat) (hd : sn[i]? = some ⟨(x, some "__init__"), "__init__", q, defArgs st, defBody st, defScope st⟩) (hs : ex[j]? = some (supB file q x))
    (hb : ∀ (kV doc pm : Value) (an : Option Addr) (cdv ct : Value) (cc : Addr) (us : List Value), us.length = ps.length → bindArgs (PySem.W.fnX "__init__" q (defArgs st) (defBody st) (defScope st) [("__class__", cc)] .none kV doc pm an cdv ct) ⟨us, []⟩ = pure (ps.zip us)) :
    ∃ (f cda cc : Addr) (fd : FuncData), (∃ oc od osl, K.lookup f = some ⟨oc, od, .func fd, osl⟩) ∧ (∃ kV doc pm an ct, fd = PySem.W.ksFn "__init__" q (defArgs st) (defBody st) (defScope st) .none kV doc pm an (.ref cda) ct cc) ∧ PySem.W.codeIn K (.ref cda) q = true ∧
      (∃ ccl cdd vs ccs tf, K.lookup cda = some ⟨ccl, cdd, .fields vs, ccs⟩ ∧ vs[2]? = some (.str file tf)) ∧ (∃ cl cld csl, K.lookup cc = some ⟨cl, cld, .cell (some (.ref C)), csl⟩) ∧ Binds K fd ps [] ∧ PySem.W.findIn K (.ref C) "__init__" = some (some (.ref f)) ∧ PySem.W.typeIn K (.ref f) = some (.type "function") := by
  subst hC
  have h := c.x.look j hs
  unfold supB at h
  obtain ⟨h1, h⟩ := He.ba h
  obtain ⟨h2, h⟩ := He.ba h
  have e2 : (sn.map fun d => fnObsS K d.at_)[i]? = (sn.map valOf)[i]? := by rw [c.s]
  rw [List.getElem?_map, List.getElem?_map, hd] at e2
  have e3 : fnObsS K (x, some "__init__") = valOf ⟨(x, some "__init__"), "__init__", q, defArgs st, defBody st, defScope st⟩ := Option.some.inj e2
  unfold fnObsS at e3
  have ead : He.fAd K (x, some "__init__") = He.ma K (He.ga K x) "__init__" := rfl
  rw [ead] at e3
  generalize He.ma K (He.ga K x) "__init__" = f at h h1 h2 e3
  cases lk : K.lookup f with
  | none => rw [lk] at h; cases h
  | some o =>
    obtain ⟨oc, od, dt, osl⟩ := o
    rw [lk] at h e3
    cases dt with
    | func fd =>
      obtain ⟨n1, n2, n3, n4, n5, n6, n7, n8, n9, n10, n11, n12, n13, n14, n15⟩ := fd
      have e4 : (some (n1, n2, n3, n4, n5, n6, n8, n15) : FnSV) = (some (("__init__" : Str), q, defArgs st, FuncBody.stmts (defBody st), defScope st, mainGlobals, Value.none, builtinsNs) : FnSV) := e3
      simp only [Option.some.injEq, Prod.mk.injEq] at e4
      obtain ⟨g1, g2, g3, g4, g5, g6, g7, g8⟩ := e4
      subst g1 g2 g3 g4 g5 g6 g7 g8
      dsimp only at h
      split at h
      · rename_i n cc cda
        obtain ⟨k1, h⟩ := He.ba h
        obtain ⟨k2, h⟩ := He.ba h
        obtain ⟨k3, k4⟩ := He.ba h
        have := of_decide_eq_true k1
        subst this
        refine ⟨f, cda, cc, _, ⟨oc, od, osl, lk⟩, ⟨n9, n10, n11, n12, n14, rfl⟩, k4, fileB_ok k3, cellB_ok k2, ?_, He.eqO_ok h1, of_decide_eq_true h2⟩
        exact Binds.all (hb n9 n10 n11 n12 (.ref cda) n14 cc)
      · cases h
    | _ => cases h
end
end RV
set_option maxHeartbeats 4000000
/-! an own class over ValueError, looked at in the head -/
namespace RV
open PySem PySem.Spec PyProof.Rows L2
def oexB (C : Addr) (K : PySem.W.Frag) : Bool := match K.lookup C with
  | some ⟨.type "type", _, .cls cd, sl⟩ => (match cd.mro, sl.toList with
    | .ref C' :: bm, [_, _, _, _, some (.builtin n), _] => decide (C' = C) && (decide (n = "ValueError.__new__") && (!cd.hasDel && (cd.hasDict && PySem.HandSPX.refsVE bm)))
    | _, _ => false)
  | _ => false
theorem oexB_ok {C : Addr} {K : PySem.W.Frag} (h : oexB C K = true) : ∃ nm q N bs bm sn sub ab col dd k0 k1 k2 k3 k5, K.lookup C = some (excClassObj nm q C N bs bm true sn sub ab col dd k0 k1 k2 k3 k5 "ValueError.__new__") ∧ PySem.HandSPX.refsVE bm = true := by
  unfold oexB at h
  split at h
  · rename_i dd cd sl e
    obtain ⟨nm, bs, mro, ns, qn, hd, sn, sb, ab, col, dl⟩ := cd
    obtain ⟨sl⟩ := sl
    dsimp only at h
    split at h
    · rename_i C' bm k0 k1 k2 k3 n k5
      obtain ⟨h1, h⟩ := He.ba h
      obtain ⟨h2, h⟩ := He.ba h
      obtain ⟨h3, h⟩ := He.ba h
      obtain ⟨h4, h5⟩ := He.ba h
      have e1 := of_decide_eq_true h1
      have e2 := of_decide_eq_true h2
      have e3 : dl = false := by simpa using h3
      have e4 : hd = true := h4
      subst e1 e2 e3 e4
      exact ⟨_, _, _, _, _, _, _, _, _, _, _, _, _, _, _, e, h5⟩
    · cases h
  · cases h
end RV
set_option maxHeartbeats 4000000
/-! a global that holds a text, at the head -/
namespace RV
open PySem PySem.Spec PyProof.Rows
def strX (x : Str) (y : Str) (K : PySem.W.Frag) : Bool := match PySem.W.nsIn K mainGlobals x with
  | some (some (.str z _)) => decide (z = y)
  | _ => false
theorem strX_ok {K : PySem.W.Frag} {x : Str} {y : Str} (c : strX x y K = true) : ∃ t, PySem.W.nsIn K mainGlobals x = some (some (.str y t)) := by
  unfold strX at c
  cases e : PySem.W.nsIn K mainGlobals x with
  | none =>
    rw [e] at c
    cases c
  | some o =>
    rw [e] at c
    cases o with
    | none => cases c
    | some v =>
      cases v with
      | str z t =>
        have ej : z = y := of_decide_eq_true c
        rw [ej]
        exact ⟨t, rfl⟩
      | _ => cases c
end RV
set_option maxHeartbeats 4000000
namespace K53
open PySem PySem.Spec PyProof.Rows L2 RV
def hdFn1 : List He.FnD := [⟨("is_whole", none), "is_whole", "is_whole", defArgs sWhole, defBody sWhole, defScope sWhole⟩, ⟨("is_below", none), "is_below", "is_below", defArgs sMark, defBody sMark, defScope sMark⟩, ⟨("are_marks", none), "are_marks", "are_marks", defArgs sMarks, defBody sMarks, defScope sMarks⟩, ⟨("number_in", none), "number_in", "number_in", defArgs sNumIn, defBody sNumIn, defScope sNumIn⟩, ⟨("numbers_in", none), "numbers_in", "numbers_in", defArgs sNumsIn, defBody sNumsIn, defScope sNumsIn⟩, ⟨("marks_in", none), "marks_in", "marks_in", defArgs sMarksIn, defBody sMarksIn, defScope sMarksIn⟩, ⟨("read_ring", none), "read_ring", "read_ring", defArgs sReadRing, defBody sReadRing, defScope sReadRing⟩, ⟨("run_in", none), "run_in", "run_in", defArgs sRunIn, defBody sRunIn, defScope sRunIn⟩, ⟨("read_plan", none), "read_plan", "read_plan", defArgs sReadPlan, defBody sReadPlan, defScope sReadPlan⟩, ⟨("_law_pail", none), "_law_pail", "_law_pail", defArgs sPail, defBody sPail, defScope sPail⟩, ⟨("_law_draw", none), "_law_draw", "_law_draw", defArgs sDraw, defBody sDraw, defScope sDraw⟩, ⟨("_law_of", none), "_law_of", "_law_of", defArgs sOf, defBody sOf, defScope sOf⟩, ⟨("_law_number", none), "_law_number", "_law_number", defArgs sLNumber, defBody sLNumber, defScope sLNumber⟩, ⟨("_law_figures", none), "_law_figures", "_law_figures", defArgs sFigures, defBody sFigures, defScope sFigures⟩, ⟨("_law_read_ring", none), "_law_read_ring", "_law_read_ring", defArgs sLReadRing, defBody sLReadRing, defScope sLReadRing⟩, ⟨("_law_read_plan", none), "_law_read_plan", "_law_read_plan", defArgs sLReadPlan, defBody sLReadPlan, defScope sLReadPlan⟩, ⟨("_law_told", none), "_law_told", "_law_told", defArgs sLTold, defBody sLTold, defScope sLTold⟩, ⟨("_law_bent", none), "_law_bent", "_law_bent", defArgs sBent, defBody sBent, defScope sBent⟩, ⟨("_law_texts", none), "_law_texts", "_law_texts", defArgs sTexts, defBody sTexts, defScope sTexts⟩, ⟨("law", none), "law", "law", defArgs sLaw, defBody sLaw, defScope sLaw⟩]
def hdFn : List He.FnD := hdFn1
def hdFa1 : List He.Fa := [.glo "is_whole", .keep "is_whole", .glo "is_below", .keep "is_below", .glo "are_marks", .keep "are_marks", .glo "number_in", .keep "number_in", .glo "numbers_in", .keep "numbers_in", .glo "marks_in", .keep "marks_in", .glo "read_ring", .keep "read_ring", .glo "run_in", .keep "run_in", .glo "read_plan", .keep "read_plan", .glo "_law_pail", .keep "_law_pail", .glo "_law_draw", .keep "_law_draw", .glo "_law_of", .keep "_law_of", .glo "_law_number", .keep "_law_number", .glo "_law_figures", .keep "_law_figures", .glo "_law_read_ring", .keep "_law_read_ring"]
def hdFa2 : List He.Fa := [.glo "_law_read_plan", .keep "_law_read_plan", .glo "_law_told", .keep "_law_told", .glo "_law_bent", .keep "_law_bent", .glo "_law_texts", .keep "_law_texts", .glo "law", .keep "law"]
def hdFa : List He.Fa := hdFa1 ++ (hdFa2)
def hdEx1 : List (PySem.W.Frag → Bool) := [RV.strX "NOTHING" dash, RV.strX "FIGURES" sFig, RV.intX "MOST_FIGURES" (30), RV.intX "MOST_MARKS" (8), fun K => decide (PySem.W.ks_superIn K (He.ga K "NoText") (He.ga K "NoText") "__init__" = some (some (.builtin "ValueError.__init__"))), fun K => decide (PySem.W.subIn K (.ref (He.ga K "NoText")) (.type "ValueError") = some true), fun K => decide (PySem.W.mroIn K (He.ga K "NoText") (.ref (He.ga K "NoText")) = some true), fun K => decide (PySem.W.nsIn K cStatics "thirdparty.any" = some none), fun K => decide (PySem.W.subIn K (.ref (He.ga K "NoText")) (.type "BaseException") = some true), fun K => decide (PySem.W.findIn K (.ref (He.ga K "NoText")) "__setattr__" = some (some (.builtin "object.__setattr__"))), fun K => decide (PySem.W.typeIn K (.ref (He.ga K "NoText")) = some (.type "type")), fun K => decide (PySem.W.keepIn K (.ref (He.ga K "NoText")) = true), fun K => decide (PySem.W.findIn K (.ref (He.ga K "NoText")) "row" = some none), fun K => decide (PySem.W.exmOne K (.ref (He.ga K "NoText")) (.ref (He.ga K "NoText")) = some true), fun K => decide (PySem.W.kitOne K (.ref (He.ga K "NoText")) (.ref (He.ga K "RingError")) = some true), fun K => decide (PySem.W.kitOne K (.ref (He.ga K "NoText")) (.type "ValueError") = some true), fun K => decide (PySem.W.nsIn K mainGlobals "super" = some none), fun K => decide (PySem.W.nsIn K mainGlobals "ValueError" = some none), fun K => decide (PySem.W.nsIn K mainGlobals "len" = some none), fun K => decide (PySem.W.nsIn K mainGlobals "isinstance" = some none), fun K => decide (PySem.W.nsIn K mainGlobals "int" = some none), fun K => decide (PySem.W.nsIn K mainGlobals "bool" = some none), fun K => decide (PySem.W.nsIn K mainGlobals "tuple" = some none), fun K => decide (PySem.W.nsIn K mainGlobals "all" = some none), fun K => decide (PySem.W.nsIn K mainGlobals "enumerate" = some none), fun K => decide (PySem.W.nsIn K mainGlobals "zip" = some none), fun K => decide (PySem.W.nsIn K mainGlobals "range" = some none), fun K => decide (PySem.W.nsIn K mainGlobals "list" = some none), fun K => decide (PySem.W.nsIn K mainGlobals "set" = some none), fun K => decide (PySem.W.nsIn K mainGlobals "sorted" = some none)]
def hdEx2 : List (PySem.W.Frag → Bool) := [fun K => decide (PySem.W.nsIn K mainGlobals "abs" = some none), fun K => decide (PySem.W.nsIn K mainGlobals "max" = some none), fun K => decide (PySem.W.nsIn K mainGlobals "min" = some none), fun K => decide (PySem.W.nsIn K mainGlobals "repr" = some none), fun K => decide (PySem.W.nsIn K mainGlobals "dict" = some none), fun K => decide (PySem.W.nsIn K mainGlobals "any" = some none), fun K => decide (PySem.W.nsIn K mainGlobals "str" = some none), fun K => decide (PySem.W.nsIn K mainGlobals "NoText" = some (some (.ref (He.ga K "NoText")))), fun K => decide (PySem.W.nsIn K mainGlobals "RingError" = some (some (.ref (He.ga K "RingError")))), RV.supB "/claim/cut.py" "NoText.__init__" "NoText", fun K => RV.oexB (He.ga K "NoText") K, fun K => xfB K (He.ga K "NoText")]
def hdEx : List (PySem.W.Frag → Bool) := hdEx1 ++ (hdEx2)
def hdSn1 : List He.FnD := [⟨("NoText", some "__init__"), "__init__", "NoText.__init__", defArgs sNTInit, defBody sNTInit, defScope sNTInit⟩]
def hdSn : List He.FnD := hdSn1
def hdLoose1 : List Str := ["RingError", "ValueError", "NoText", "is_whole", "is_below", "are_marks", "MOST_MARKS", "NOTHING", "FIGURES", "MOST_FIGURES", "number_in", "numbers_in", "marks_in", "read_ring", "run_in", "read_plan", "_law_pail", "_law_draw", "_law_of", "_law_number", "_law_figures", "_law_read_ring", "_law_read_plan", "_law_told", "_law_bent", "_law_texts"]
def hdLoose : List Str := hdLoose1
abbrev hdR : PySem.W.OpenRow := PySem.W.OpenLaw.row PySem.Challenge.rw_ringvouch_k53_texts_of_rings_and_plans_b
abbrev hdV : Program := PySem.W.view hdR.prog [29]
abbrev hdK : PySem.W.Hook := RV.hookS hdFa hdFn hdEx hdSn
def hdOb (s : PySem.W.SharedT) : RV.AlS := RV.obsSG hdFa hdFn hdEx hdSn (HandSHeadRun.getT s)
theorem hdOb_eq (s : PySem.W.SharedT) : hdOb s = hdK.obs s.abs := RV.obsSG_eq (HandSHeadRun.getT_eq s)
set_option maxHeartbeats 0 in
theorem hdRun (w : World) : HandSHeadRun.RunEq hdR hdV hdK hdOb 20000 hdLoose w := by
  intro os
  kernel_rfl
end K53
section
open PySem PySem.W PySem.Calls PyProof.Rows
set_option maxRecDepth 100000 in
set_option maxHeartbeats 0 in
theorem K53.hdHolds (hc : PySem.W.WalkO K53.hdV K53.hdLoose (XL K53.hdV []) K53.hdK.says K53.hdR.toRowW (HandSHeadRun.topDef K53.hdR.prog 29) [] fun f vs => PySem.call f vs) : PySem.Challenge.rw_ringvouch_k53_texts_of_rings_and_plans_b.Holds := by
  w_on; o_law
  refine HandSHeadRun.head_any (r := K53.hdR) (q := K53.hdV) (H := K53.hdK) (ob := K53.hdOb) (M := 20000) (loose := K53.hdLoose) (d := HandSHeadRun.topDef K53.hdR.prog 29) (kwd := []) K53.hdOb_eq
    (by kernel_rfl) (fun s => by kernel_rfl) K53.hdRun (by kernel_rfl) (by kernel_rfl) (by kernel_rfl) (by rfl) (by first | assumption | decide +kernel) (by decide +kernel) ⟨rfl, rfl, rfl, rfl, rfl, by decide +kernel⟩ ?hw hc
  case hw => w_witness2
theorem K53.hdName : (HandSHeadRun.topDef K53.hdR.prog 29).name = ("law" : PySem.Str) := by kernel_rfl
end
set_option maxHeartbeats 4000000
namespace K53
open PySem PySem.Spec PyProof.Rows L2 RV TL
abbrev Rk := Addr × Addr × Int × List Int
def valR (k : Rk) : Int × List Int := (k.2.2.1, k.2.2.2)
def RunOk (K : PySem.W.Frag) (H : Hp) (k : Rk) : Prop := SqT K H k.1 [.int k.2.2.1, .ref k.2.1] ∧ SqT K H k.2.1 (k.2.2.2.map V.int)
theorem RunOk.same {K : PySem.W.Frag} {H H' : Hp} {k : Rk} (h : RunOk K H k) (s : Same H H') : RunOk K H' k := ⟨sqT_same s h.1, sqT_same s h.2⟩
def RingAt (K : PySem.W.Frag) (H : Hp) (a : Addr) (rs : List (Int × List Int)) : Prop := ∃ ks : List Rk, ks.map valR = rs ∧ SqT K H a (ks.map fun k => V.ref k.1) ∧ ∀ k ∈ ks, RunOk K H k
theorem RingAt.same {K : PySem.W.Frag} {H H' : Hp} {a : Addr} {rs : List (Int × List Int)} (h : RingAt K H a rs) (s : Same H H') : RingAt K H' a rs := by
  obtain ⟨ks, h1, h2, h3⟩ := h
  exact ⟨ks, h1, sqT_same s h2, fun k hk => (h3 k hk).same s⟩
/-- a run, or none -/
def OptR (K : PySem.W.Frag) (H : Hp) (v : V) (r : Option (Int × List Int)) : Prop := (v = .non ∧ r = none) ∨ ∃ k : Rk, v = .ref k.1 ∧ r = some (valR k) ∧ RunOk K H k
theorem OptR.same {K : PySem.W.Frag} {H H' : Hp} {v : V} {r : Option (Int × List Int)} (h : OptR K H v r) (s : Same H H') : OptR K H' v r := h.imp id fun ⟨k, e1, e2, h⟩ => ⟨k, e1, e2, h.same s⟩
theorem numsF_len {ws : List Str} {ns : List Nat} (h : numsF ws = some ns) : ns.length ≤ ws.length ∧ ∀ n ∈ ns, n < 10 ^ 30 := by
  rcases numsF_cases ws with ⟨_, e⟩ | ⟨_, e⟩
  · rw [e] at h; cases h
  · rw [e] at h
    cases h
    refine ⟨List.length_filterMap_le _ _, fun n hn => ?_⟩
    obtain ⟨w, _, e⟩ := List.mem_filterMap.mp hn
    exact (numF_some.mp e).1
section
variable {P : Program} {w : World} {K : PySem.W.Frag} {mg : Str → Option Value} {base : Heap} {t1 t2 t3 t4 : Tok}
structure RD (K : PySem.W.Frag) (mg : Str → Option Value) (fNI fNs fMI fRI fA fM fW : Addr) (dNI dNs dMI dRI dA dM dW : FuncData) : Prop where
  ni : DefAt K mg "number_in" sNumIn ["word"] fNI dNI
  ns : DefAt K mg "numbers_in" sNumsIn ["words"] fNs dNs
  mi : DefAt K mg "marks_in" sMarksIn ["word"] fMI dMI
  ri : DefAt K mg "run_in" sRunIn ["word"] fRI dRI
  am : DefAt K mg "are_marks" sMarks ["thing", "many"] fA dA
  bl : DefAt K mg "is_below" sMark ["thing", "many"] fM dM
  wh : DefAt K mg "is_whole" sWhole ["thing"] fW dW
structure RG (mg : Str → Option Value) (t1 t2 t3 t4 : Tok) : Prop where
  mN : mg "NOTHING" = some (.str dash t1)
  mS : mg "FIGURES" = some (.str sFig t2)
  mF : mg "MOST_FIGURES" = some (.int 30 t3)
  mM : mg "MOST_MARKS" = some (.int 8 t4)
variable {fNI fNs fMI fRI fA fM fW : Addr} {dNI dNs dMI dRI dA dM dW : FuncData}
/-! ### are_marks of none -/
theorem ok_marksN (R : RD K mg fNI fNs fMI fRI fA fM fW dNI dNs dMI dRI dA dM dW) (B : Bare mg) :
    FnOk P w K mg base CX0 3 fA dA ["thing", "many"] (fun vs H Q _ => ∃ v : V, vs = [v, .int 8] ∧ ∃ r : Option (List Nat), PairV K H v r ∧ (∀ ns, r = some ns → ns.length ≤ 1000) ∧ ∀ H', Same H H' → Q (.bl (match r with | none => false | some ns => mkB 8 (ns.map fun (i : Nat) => (i : Int)))) H') := by
  have G : FnOk P w K mg base CX0 3 fA dA ["thing", "many"] (spMarksB K) := ok_marksB R.am.fn R.bl R.wh B
  have GM : FnOk P w K mg base CX0 2 fM dM ["thing", "many"] spMarkB := ok_markB R.bl.fn R.wh B
  refine R.am.fn.ok scMarks (fun vs H Q E h => ?_) (fun cdv A outer s H vs Q E hr h => ?_)
  · obtain ⟨v, rfl, _⟩ := h
    rfl
  · obtain ⟨v, rfl, r, hv, hl, q⟩ := h
    refine ⟨_, pss_one (ps_ret (pe_and (pe_callB call_isi (by rfl) B.isinstance (by decide +kernel) (pa_cons (pv 0) (pa_cons (pe_bltn (v := .ty "tuple") (by rfl) B.tuple (by decide +kernel) rfl) pa_nil)))
      (pe_and (pe_cmpR op_gt (pe_callB call_len_seq (by rfl) B.len PySem.boot_len (pa_cons (pv 0) pa_nil)) pe_int (nomark _))
      (pe_one (pe_callB (cr_all rfl) (by rfl) B.all (by decide +kernel) (pa_cons
        (pe_lc (own := [("mark", 2)]) (g := gName 2) (tt := tYes) rfl scMarks.nd (pi_tup (pv 0)) (blkOk_by (N := ["thing", "many", "mark"]) (sc := defScope sMarks) (by decide +kernel)) (fun _ _ _ _ _ => pg_name (i := 2) scMarks.nd rfl (Or.inl rfl)) (fun _ _ _ _ _ => pts_nil)
          (fun _ _ _ _ _ => pe_call GM hr (by rfl) R.bl.mg R.bl.fn.kp R.bl.bi .nil pass0 (pa_cons (pv 2) (pa_cons (pv 1) pa_nil)))) pa_nil)))))), ?_⟩
    rcases hv with ⟨rfl, rfl⟩ | ⟨a, ns, rfl, rfl, hT⟩
    · exact ⟨.non, rfl, .non, .ty "tuple", _, _, false, rfl, .ty "tuple", .base .non, kit_ty (by decide +kernel), false, rfl, iteF (q H (Same.refl H))⟩
    have hm := hl ns rfl
    have q : ∀ H', Same H H' → Q (.bl (mkB 8 (ns.map fun (i : Nat) => (i : Int)))) H' := q
    have hm : (ns.map fun (i : Nat) => (i : Int)).length ≤ 1000 := by rw [List.length_map]; exact hm
    generalize (ns.map fun (i : Nat) => (i : Int)) = ns at hT q hm
    refine ⟨.ref a, rfl, .ref a, .ty "tuple", _, _, true, rfl, .ty "tuple", tyT hT, kit_ty (by decide +kernel), true, rfl, iteT ?_⟩
    refine ⟨.ref a, rfl, a, _, rfl, .inr hT, _, _, rfl, rfl, decide (((ns.map V.int).length : Int) > 0), rfl, ?_⟩
    by_cases h0 : 0 < ns.length
    · rw [decide_eq_true (show ((ns.map V.int).length : Int) > 0 by rw [List.length_map]; omega)]
      refine iteT ⟨.ref a, rfl, a, rfl, ⟨_, hT⟩, fun D nD => ?_⟩
      refine lc_tup (K := K) (a := a) (xs := ns.map V.int) (fun i H' => Same H H' ∧ H' D = some (.lst (((ns.take i).map fun i => decide (0 ≤ i) && decide (i < 8)).map V.bl))) ⟨same_upd nD, upd_same⟩ (fun i H' _ p => sqT_same p.1 hT) (fun i x H' hx p => ?_) fun H' p => ?_
      · obtain ⟨m, hm', rfl⟩ := map_at hx
        have hi : i < ns.length := (List.getElem?_eq_some_iff.mp hm').1
        refine ⟨rfl, tt_yes ⟨.int m, rfl, .int 8, rfl, m, 8, rfl, _, p.2, ?_, ?_, ?_⟩⟩
        · rw [List.length_map, List.length_map, List.length_take]; exact few1 (by omega)
        · exact fun b o e => by rw [upd_ne (ne_of_none e nD)]; exact p.1 b o e
        · rw [upd_same, List.take_add_one, hm', List.map_append, List.map_append]; rfl
      · rw [List.length_map, List.take_of_length_le (Nat.le_refl _)] at p
        refine ⟨D, _, rfl, lstNew p.2, ?_⟩
        rw [all_map]
        have z := q H' p.1
        unfold mkB at z
        rw [decide_eq_true h0, Bool.true_and] at z
        exact z
    · rw [decide_eq_false (show ¬ ((ns.map V.int).length : Int) > 0 by rw [List.length_map]; omega)]
      have z := q H (Same.refl H)
      unfold mkB at z
      rw [decide_eq_false h0, Bool.false_and] at z
      exact iteF z
/-! ### marks_in of any word -/
theorem scMI : FnScope ["word"] ["word"] (defScope sMarksIn) := ⟨rfl, rfl, rfl, by decide +kernel, rfl, by decide +kernel, by decide +kernel⟩
def spMIA (K : PySem.W.Frag) : Sp := fun vs H Q _ => ∃ z : Str, vs = [.str z] ∧ z.length ≤ 900 ∧ ∀ v H', Same H H' → PairV K H' v (marksF z) → Q v H'
theorem ok_mia (R : RD K mg fNI fNs fMI fRI fA fM fW dNI dNs dMI dRI dA dM dW) (B : Bare mg) (G : RG mg t1 t2 t3 t4) : FnOk P w K mg base CX0 3 fMI dMI ["word"] (spMIA K) := by
  have GN : FnOk P w K mg base CX0 2 fNs dNs ["words"] (spNsA K) := ok_nsa R.ns.fn R.ni B G.mS G.mF
  refine R.mi.fn.ok scMI (fun vs H Q E h => ?_) (fun cdv A outer s H vs Q E hr h => ?_)
  · obtain ⟨z, rfl, _⟩ := h
    rfl
  · obtain ⟨z, rfl, hz, q⟩ := h
    refine ⟨_, pss_cons (ps_if (pt_cmpR op_eq (pv 0) (pe_glob (v := .str dash) rfl G.mN ⟨_, rfl⟩) (nomark _)) (pss_one (ps_ret (pe_tup pa_nil))) pss_nil)
      (pss_one (ps_ret (pe_call GN hr (by rfl) R.ns.mg R.ns.fn.kp R.ns.bi .nil pass0 (pa_cons (pe_split (pv 0) pe_str) pa_nil)))), ?_⟩
    have zz : sizeLine ≥ 100000 := by rw [sizeLine_eq]; decide
    refine ⟨.str z, rfl, rfl, _, rfl, ?_⟩
    by_cases e : z = dash
    · rw [decide_eq_true (congrArg V.str e)]
      refine iteT ⟨by show 0 ≤ sizeLine; omega, fun c nc => q (.ref c) _ (same_upd nc) (.inr ⟨c, [], rfl, ?_, tupNew upd_same⟩)⟩
      unfold marksF
      rw [if_pos e]
    · rw [decide_eq_false (fun y => e (V.str.inj y))]
      refine iteF ?_
      unfold tNext
      dsimp only
      have c := cut_pt z
      refine ⟨.str z, rfl, ⟨_, rfl⟩, z, pt1, rfl, rfl, by decide +kernel, by omega, fun A nA => ?_⟩
      have sA := same_upd (o := .lst ((Txt.split z pt1).map V.str)) nA
      refine ⟨A, _, rfl, lstNew upd_same, by have := c.len; omega, fun y hy => by have := c.short hy; omega, fun v H1 s1 hv => q v H1 (sA.trans s1) ?_⟩
      unfold marksF
      rw [if_neg e]
      exact hv
/-! ### run_in of any word -/
abbrev nRI : List Str := ["word", "first", "star", "rest", "times", "marks"]
theorem scRI : FnScope nRI ["word"] (defScope sRunIn) := ⟨rfl, rfl, rfl, by decide +kernel, rfl, by decide +kernel, by decide +kernel⟩
def spRIA (K : PySem.W.Frag) : Sp := fun vs H Q _ => ∃ z : Str, vs = [.str z] ∧ z.length ≤ 900 ∧ ∀ v H', Same H H' → OptR K H' v (runF z) → Q v H'
theorem part_short (z : Str) : (Txt.partition z star).1.length ≤ z.length ∧ (Txt.partition z star).2.2.length ≤ z.length := by
  rcases star_cases z with ⟨_, _, e⟩ | ⟨a, b, _, ew, _, e⟩
  · rw [e]; exact ⟨Nat.le_refl _, Nat.zero_le _⟩
  · rw [e]
    have : z.length = a.length + (b.length + 1) := by rw [len_tl, ew, List.length_append, List.length_cons, ← len_tl, ← len_tl]
    exact ⟨by show a.length ≤ _; omega, by show b.length ≤ _; omega⟩
theorem marksF_len {z : Str} {ns : List Nat} (h : marksF z = some ns) : ns.length ≤ z.length + 1 := by
  unfold marksF at h
  split at h
  · cases h; exact Nat.zero_le _
  · have := (numsF_len h).1
    have := (cut_pt z).len
    omega
theorem ok_ria (R : RD K mg fNI fNs fMI fRI fA fM fW dNI dNs dMI dRI dA dM dW) (B : Bare mg) (G : RG mg t1 t2 t3 t4) : FnOk P w K mg base CX0 4 fRI dRI ["word"] (spRIA K) := by
  have GN : FnOk P w K mg base CX0 1 fNI dNI ["word"] spNIA := ok_nia R.ni.fn B G.mS G.mF
  have GM : FnOk P w K mg base CX0 3 fMI dMI ["word"] (spMIA K) := ok_mia R B G
  have GA := ok_marksN (P := P) (w := w) (base := base) R B
  refine R.ri.fn.ok scRI (fun vs H Q E h => ?_) (fun cdv A outer s H vs Q E hr h => ?_)
  · obtain ⟨r, rfl, _⟩ := h
    rfl
  · obtain ⟨z, rfl, hz, q⟩ := h
    refine ⟨_, pss_cons (ps_asg (pe_partition (pv 0) pe_str) (pg_tup rfl (pgs_cons (pg_name (i := 1) scRI.nd rfl (Or.inl rfl)) (pgs_cons (pg_name (i := 2) scRI.nd rfl (Or.inl rfl)) (pgs_cons (pg_name (i := 3) scRI.nd rfl (Or.inl rfl)) pgs_nil)))))
      (pss_cons (ps_set (i := 4) scRI.nd rfl (Or.inl rfl) (pe_call GN (hr.mono (by decide)) (by rfl) R.ni.mg R.ni.fn.kp R.ni.bi .nil pass0 (pa_cons (pv 1) pa_nil)))
      (pss_cons (ps_set (i := 5) scRI.nd rfl (Or.inl rfl) (pe_call GM hr (by rfl) R.mi.mg R.mi.fn.kp R.mi.bi .nil pass0 (pa_cons (pv 3) pa_nil)))
      (pss_cons (ps_if (PW.pt (pw_or (pt_cmpR op_isN (pv 4) pe_non (nomark _)) (pw_or (pt_cmpR op_eq (pv 4) pe_int (nomark _)) (pw_or1 (pt_not (pt_val (pe_call GA hr (by rfl) R.am.mg R.am.fn.kp R.am.bi .nil pass0 (pa_cons (pv 5) (pa_cons (pe_glob (v := .int 8) rfl G.mM ⟨_, rfl⟩) pa_nil))))))))) (pss_one (ps_ret pe_non)) pss_nil)
      (pss_one (ps_ret (pe_tup (pa_cons (pv 4) (pa_cons (pv 5) pa_nil)))))))), ?_⟩
    have zz : sizeLine ≥ 100000 := by rw [sizeLine_eq]; decide
    have er := runF_part z
    obtain ⟨l1, l2⟩ := part_short z
    refine ⟨.str z, rfl, ⟨_, rfl⟩, z, star, rfl, rfl, by decide +kernel, by omega, fun p np => ?_⟩
    generalize (Txt.partition z star).1 = a at er l1 ⊢
    generalize (Txt.partition z star).2.2 = b at er l2 ⊢
    generalize (Txt.partition z star).2.1 = sg
    have sp := same_upd (o := .tup [.str a, .str sg, .str b]) np
    refine ⟨p, _, rfl, tupNew upd_same, rfl, _, _, rfl, _, _, rfl, _, _, rfl, rfl, ?_⟩
    generalize upd H p (.tup [.str a, .str sg, .str b]) = H1 at sp ⊢
    dsimp only
    refine ⟨.str a, rfl, a, rfl, by omega, fun H2 s2 => ?_⟩
    refine nx_step ?_
    dsimp only
    refine ⟨.str b, rfl, b, rfl, by omega, fun v H3 s3 hv => ?_⟩
    refine nx_step ?_
    dsimp only
    have s03 := (sp.trans s2).trans s3
    refine ⟨optV a, rfl, rfl, _, rfl, ?_⟩
    rw [optV_none]
    cases ea : numF a with
    | none =>
      refine iteT (q .non H3 s03 (.inl ⟨rfl, ?_⟩))
      rw [← er, ea]; rfl
    | some n =>
      have ev : optV a = .int (n : Int) := by unfold optV; rw [ea]
      rw [ev]
      refine iteF ⟨.int (n : Int), rfl, rfl, _, rfl, ?_⟩
      by_cases n0 : n = 0
      · rw [decide_eq_true (by rw [n0]; rfl)]
        refine iteT (q .non H3 s03 (.inl ⟨rfl, ?_⟩))
        rw [← er, ea]
        cases marksF b with
        | none => rfl
        | some ms => exact if_neg (fun y => y.1 n0)
      · rw [decide_eq_false (fun y => n0 (by have := V.int.inj y; omega))]
        refine iteF ⟨v, rfl, v, rfl, marksF b, hv, fun ns e => by have := marksF_len e; omega, fun H4 s4 => ?_⟩
        have hv4 := hv.same s4
        rcases hv4 with ⟨rfl, e2⟩ | ⟨t, ns, rfl, e2, hT⟩
        · rw [e2]
          refine ⟨false, rfl, iteT (q .non H4 (s03.trans s4) (.inl ⟨rfl, ?_⟩))⟩
          rw [← er, ea, e2]; rfl
        · rw [e2]
          dsimp only
          refine ⟨_, rfl, ?_⟩
          cases e3 : mkB 8 (ns.map fun (i : Nat) => (i : Int)) with
          | false =>
            refine iteT (q .non H4 (s03.trans s4) (.inl ⟨rfl, ?_⟩))
            rw [← er, ea, e2]
            exact if_neg (fun y => by rw [e3] at y; cases y.2)
          | true =>
            refine iteF ?_
            unfold tNext
            dsimp only
            refine ⟨.int (n : Int), rfl, .ref t, rfl, by show 2 ≤ sizeLine; omega, fun T nT => ?_⟩
            have sT := same_upd (o := .tup [.int (n : Int), .ref t]) nT
            refine q (.ref T) _ ((s03.trans s4).trans sT) (.inr ⟨(T, t, (n : Int), ns.map fun (i : Nat) => (i : Int)), rfl, ?_, tupNew upd_same, sqT_same sT hT⟩)
            rw [← er, ea, e2]
            exact if_pos ⟨n0, e3⟩
end
end K53
namespace RV
/-! ### rings: runs of marks, by the list of all their marks -/
/-- so many times the word -/
def rp (n : Nat) (w : List Int) : List Int := (List.replicate n w).flatten
theorem rp_zero (w : List Int) : rp 0 w = [] := rfl
theorem rp_succ (n : Nat) (w : List Int) : rp (n + 1) w = w ++ rp n w := by unfold rp; rw [List.replicate_succ, List.flatten_cons]
theorem rp_one (w : List Int) : rp 1 w = w := by rw [rp_succ, rp_zero, List.append_nil]
theorem rp_add (a b : Nat) (w : List Int) : rp (a + b) w = rp a w ++ rp b w := by unfold rp; rw [← List.replicate_append_replicate, List.flatten_append]
theorem rp_len : ∀ (n : Nat) (w : List Int), (rp n w).length = n * w.length
  | 0, w => by rw [rp_zero, Nat.zero_mul]; rfl
  | n + 1, w => by rw [rp_succ, List.length_append, rp_len n w, Nat.succ_mul, Nat.add_comm]
theorem rp_get : ∀ (n : Nat) (w : List Int) (i : Nat), i < n * w.length → (rp n w)[i]? = w[i % w.length]?
  | 0, w, i, h => by rw [Nat.zero_mul] at h; omega
  | n + 1, w, i, h => by
    rw [rp_succ]
    rcases Nat.lt_or_ge i w.length with z | z
    · rw [List.getElem?_append_left z, Nat.mod_eq_of_lt z]
    · rw [List.getElem?_append_right z, rp_get n w _ (by rw [Nat.succ_mul] at h; omega), Nat.mod_eq_sub_mod z]
theorem rp_rev : ∀ (n : Nat) (w : List Int), (rp n w).reverse = rp n w.reverse
  | 0, w => rfl
  | n + 1, w => by rw [rp_succ, List.reverse_append, rp_rev n w, show n + 1 = n + 1 from rfl, rp_add, rp_one]
theorem rp_map (f : Int → Int) : ∀ (n : Nat) (w : List Int), (rp n w).map f = rp n (w.map f)
  | 0, w => rfl
  | n + 1, w => by rw [rp_succ, List.map_append, rp_map f n w, rp_succ]
/-- all marks of the runs -/
def mk : List (Int × List Int) → List Int
  | [] => []
  | r :: rs => rp r.1.toNat r.2 ++ mk rs
theorem mk_app : ∀ (a b : List (Int × List Int)), mk (a ++ b) = mk a ++ mk b
  | [], b => rfl
  | r :: a, b => by show rp r.1.toNat r.2 ++ mk (a ++ b) = rp r.1.toNat r.2 ++ mk a ++ mk b; rw [mk_app a b, List.append_assoc]
theorem mk_one (t : Int) (w : List Int) : mk [(t, w)] = rp t.toNat w := by show rp t.toNat w ++ [] = _; rw [List.append_nil]
/-- how many places a run takes -/
def rl (r : Int × List Int) : Int := r.1 * (r.2.length : Int)
def pl (rs : List (Int × List Int)) : Int := (rs.map rl).sum
theorem pl_cons (r : Int × List Int) (rs : List (Int × List Int)) : pl (r :: rs) = rl r + pl rs := by unfold pl; rw [List.map_cons, List.sum_cons]
theorem pl_app (a b : List (Int × List Int)) : pl (a ++ b) = pl a + pl b := by unfold pl; rw [List.map_append, List.sum_append_int]
/-- runs as rings have them -/
def Rn (rs : List (Int × List Int)) : Prop := ∀ r ∈ rs, 1 ≤ r.1 ∧ r.2 ≠ []
theorem rl_pos {r : Int × List Int} (h : 1 ≤ r.1 ∧ r.2 ≠ []) : 0 < rl r := Int.mul_pos (by omega) (by have := List.length_pos_iff.mpr h.2; omega)
theorem rl_nat {r : Int × List Int} (h : 0 ≤ r.1) : ((r.1.toNat * r.2.length : Nat) : Int) = rl r := by
  unfold rl; rw [Int.natCast_mul, Int.toNat_of_nonneg h]
theorem mk_len : ∀ {rs : List (Int × List Int)}, (∀ r ∈ rs, 0 ≤ r.1) → ((mk rs).length : Int) = pl rs
  | [], _ => rfl
  | r :: rs, h => by
    show (((rp r.1.toNat r.2 ++ mk rs).length : Nat) : Int) = _
    rw [List.length_append, Int.natCast_add, mk_len fun q hq => h q (List.mem_cons_of_mem _ hq), pl_cons, rp_len, rl_nat (h r (List.mem_cons_self ..))]
theorem Rn.nn {rs : List (Int × List Int)} (h : Rn rs) : ∀ r ∈ rs, 0 ≤ r.1 := fun r hr => by have := (h r hr).1; omega
theorem Rn.sub {rs qs : List (Int × List Int)} (h : Rn rs) (s : ∀ q ∈ qs, q ∈ rs) : Rn qs := fun q hq => h q (s q hq)
theorem Rn.pos {rs : List (Int × List Int)} (h : Rn rs) (n : rs ≠ []) : 0 < pl rs := by
  cases rs with
  | nil => exact absurd rfl n
  | cons r rs =>
    have h1 := rl_pos (h r (List.mem_cons_self ..))
    have h2 : 0 ≤ pl rs := by rw [← mk_len (Rn.nn (h.sub fun q hq => List.mem_cons_of_mem _ hq))]; omega
    rw [pl_cons]; omega
theorem pl_nn {rs : List (Int × List Int)} (h : ∀ r ∈ rs, 0 ≤ r.1) : 0 ≤ pl rs := by rw [← mk_len h]; omega
theorem split_at {α : Type} {rs : List α} {a : Nat} {r : α} (h : rs[a]? = some r) : rs = rs.take a ++ r :: rs.drop (a + 1) := by
  have hl := (List.getElem?_eq_some_iff.mp h)
  obtain ⟨hl, e⟩ := hl
  conv => lhs; rw [← List.take_append_drop a rs]
  rw [List.drop_eq_getElem_cons hl, e]
theorem mk_at {rs : List (Int × List Int)} (hn : ∀ r ∈ rs, 0 ≤ r.1) {a : Nat} {r : Int × List Int} (h : rs[a]? = some r) {i : Nat} (hi : (i : Int) < rl r) : (mk rs)[(pl (rs.take a)).toNat + i]? = r.2[i % r.2.length]? := by
  have e := split_at h
  have n1 : ∀ q ∈ rs.take a, 0 ≤ q.1 := fun q hq => hn q (List.mem_of_mem_take hq)
  have l1 := mk_len n1
  have hr0 : 0 ≤ r.1 := hn r (List.mem_of_getElem? h)
  have ln : i < r.1.toNat * r.2.length := by have z := rl_nat (r := r) hr0; omega
  have key : (mk (rs.take a ++ r :: rs.drop (a + 1)))[(pl (rs.take a)).toNat + i]? = r.2[i % r.2.length]? := by
   rw [mk_app]
   show (mk (rs.take a) ++ (rp r.1.toNat r.2 ++ mk (rs.drop (a + 1))))[_]? = _
   rw [List.getElem?_append_right (by omega), show (pl (rs.take a)).toNat + i - (mk (rs.take a)).length = i by omega, List.getElem?_append_left (by rw [rp_len]; exact ln), rp_get _ _ _ ln]
  rw [← e] at key; exact key
/-- the mark at a place, counted on round the ring -/
def mP (l : List Int) (p : Int) : Int := l.getD (p % (l.length : Int)).toNat 0
theorem mP_get {l : List Int} {i : Nat} (h : i < l.length) : mP l (i : Int) = l.getD i 0 := by
  unfold mP; rw [Int.emod_eq_of_lt (by omega) (by omega), Int.toNat_natCast]
theorem mP_mod (l : List Int) (p q : Int) (h : (p - q) % (l.length : Int) = 0) : mP l p = mP l q := by
  unfold mP
  rw [Int.emod_emod_of_dvd p (Int.dvd_refl _) |>.symm, (Int.emod_eq_emod_iff_emod_sub_eq_zero).mpr h, Int.emod_emod_of_dvd q (Int.dvd_refl _)]
theorem mP_add (l : List Int) (p : Int) (k : Int) : mP l (p + (l.length : Int) * k) = mP l p := by
  apply mP_mod
  rw [show p + (l.length : Int) * k - p = (l.length : Int) * k by omega, Int.mul_emod_right]
theorem mP_rest (l : List Int) (p : Int) : mP l (p % (l.length : Int)) = mP l p := by
  apply mP_mod
  rw [Int.sub_emod, Int.emod_emod_of_dvd p (Int.dvd_refl _), Int.sub_self, Int.zero_emod]
/-- a place within: nonneg rest -/
theorem rest_in {l : List Int} (h : l ≠ []) (p : Int) : 0 ≤ p % (l.length : Int) ∧ p % (l.length : Int) < (l.length : Int) := by
  have := List.length_pos_iff.mpr h
  exact ⟨Int.emod_nonneg _ (by omega), Int.emod_lt_of_pos _ (by omega)⟩
theorem mP_rot {A B : List Int} (h : A ++ B ≠ []) (p : Int) : mP (B ++ A) p = mP (A ++ B) (p + (A.length : Int)) := by
  have hl : ((B ++ A).length : Int) = ((A ++ B).length : Int) := by rw [List.length_append, List.length_append]; omega
  have hN : ((A ++ B).length : Int) = (A.length : Int) + (B.length : Int) := by rw [List.length_append]; omega
  have h' : B ++ A ≠ [] := fun z => h (by rw [List.append_eq_nil_iff] at z ⊢; exact ⟨z.2, z.1⟩)
  obtain ⟨i, hi⟩ : ∃ i : Nat, (i : Int) = p % ((B ++ A).length : Int) := ⟨(p % ((B ++ A).length : Int)).toNat, by have := (rest_in h' p).1; omega⟩
  have b := (rest_in h' p).2
  have e1 : mP (B ++ A) p = (B ++ A).getD i 0 := by rw [← mP_rest, ← hi, mP_get (by omega)]
  rw [e1]
  have hm : (p - (i : Int)) % ((A ++ B).length : Int) = 0 := by
    rw [hi, hl, Int.sub_emod, Int.emod_emod_of_dvd p (Int.dvd_refl _), Int.sub_self, Int.zero_emod]
  have e2 : mP (A ++ B) (p + (A.length : Int)) = mP (A ++ B) ((i : Int) + (A.length : Int)) := mP_mod _ _ _ (by rw [show p + (A.length : Int) - ((i : Int) + (A.length : Int)) = p - (i : Int) by omega]; exact hm)
  rw [e2]
  rcases Nat.lt_or_ge i B.length with z | z
  · rw [show (i : Int) + (A.length : Int) = ((A.length + i : Nat) : Int) by omega, mP_get (by rw [List.length_append]; omega), List.getD_eq_getElem?_getD, List.getD_eq_getElem?_getD, List.getElem?_append_left z, List.getElem?_append_right (by omega), show A.length + i - A.length = i by omega]
  · have e3 : mP (A ++ B) ((i : Int) + (A.length : Int)) = mP (A ++ B) ((i - B.length : Nat) : Int) := mP_mod _ _ _ (by
      rw [show (i : Int) + (A.length : Int) - ((i - B.length : Nat) : Int) = ((A ++ B).length : Int) * 1 by omega, Int.mul_emod_right])
    rw [← hi, hl, hN] at b
    rw [e3, mP_get (by rw [List.length_append]; omega), List.getD_eq_getElem?_getD, List.getD_eq_getElem?_getD, List.getElem?_append_right z, List.getElem?_append_left (by omega)]
theorem mP_back {l : List Int} (h : l ≠ []) (f : Int → Int) (p : Int) : mP (l.reverse.map f) p = f (mP l ((l.length : Int) - 1 - p)) := by
  have hl : ((l.reverse.map f).length : Int) = (l.length : Int) := by rw [List.length_map, List.length_reverse]
  obtain ⟨i, hi⟩ : ∃ i : Nat, (i : Int) = p % (l.length : Int) := ⟨(p % (l.length : Int)).toNat, by have := (rest_in h p).1; omega⟩
  have b := (rest_in h p).2
  rw [← hi] at b
  have il : i < l.length := by omega
  have e1 : mP (l.reverse.map f) p = (l.reverse.map f).getD i 0 := by rw [← mP_rest, hl, ← hi, mP_get (by omega)]
  have e2 : mP l ((l.length : Int) - 1 - p) = mP l ((l.length - 1 - i : Nat) : Int) := mP_mod _ _ _ (by
    rw [show (l.length : Int) - 1 - p - ((l.length - 1 - i : Nat) : Int) = (i : Int) - p by omega, hi, Int.sub_emod, Int.emod_emod_of_dvd p (Int.dvd_refl _), Int.sub_self, Int.zero_emod])
  rw [e1, e2, mP_get (by omega), List.getD_eq_getElem?_getD, List.getD_eq_getElem?_getD, List.getElem?_map, List.getElem?_reverse il]
  rw [List.getElem?_eq_getElem (show l.length - 1 - i < l.length by omega)]; rfl
/-! ### closed round -/
/-- each mark may stand behind the one ahead of it, all round -/
def Cyc (ps : List (List Int)) (l : List Int) : Prop := ∀ p : Int, [mP l p, mP l (p + 1)] ∈ ps
theorem Cyc.rot {ps : List (List Int)} {A B : List Int} (h : A ++ B ≠ []) (c : Cyc ps (A ++ B)) : Cyc ps (B ++ A) := fun p => by
  rw [mP_rot h, mP_rot h, show p + 1 + (A.length : Int) = p + (A.length : Int) + 1 by omega]; exact c _
theorem Cyc.back {ps : List (List Int)} {l : List Int} {f : Int → Int} (h : l ≠ []) (hf : ∀ a b, a ∈ l → b ∈ l → [a, b] ∈ ps → [f b, f a] ∈ ps) (hm : ∀ p, mP l p ∈ l) (c : Cyc ps l) : Cyc ps (l.reverse.map f) := fun p => by
  rw [mP_back h, mP_back h]
  have := c ((l.length : Int) - 1 - (p + 1))
  rw [show (l.length : Int) - 1 - (p + 1) + 1 = (l.length : Int) - 1 - p by omega] at this
  exact hf _ _ (hm _) (hm _) this
theorem mP_mem {l : List Int} (h : l ≠ []) (p : Int) : mP l p ∈ l := by
  have b := rest_in h p
  unfold mP
  rw [List.getD_eq_getElem?_getD, List.getElem?_eq_getElem (show (p % (l.length : Int)).toNat < l.length by omega)]
  exact List.getElem_mem _
/-- a walk from the mark x round and back to it -/
def Loop (ps : List (List Int)) (x : Int) (l : List Int) : Prop := (∀ y, l[0]? = some y → y = x) ∧ (∀ i a b, l[i]? = some a → (l ++ [x])[i + 1]? = some b → [a, b] ∈ ps)
theorem Loop.nil (ps : List (List Int)) (x : Int) : Loop ps x [] := ⟨(fun _ h => nomatch h), fun _ _ _ h => nomatch h⟩
theorem Loop.app {ps : List (List Int)} {x : Int} {u v : List Int} (hu : Loop ps x u) (hv : Loop ps x v) : Loop ps x (u ++ v) := by
  constructor
  · intro y hy
    cases u with
    | nil => exact hv.1 y hy
    | cons a u => exact hu.1 y hy
  · intro i a b ha hb
    rcases Nat.lt_or_ge i u.length with z | z
    · rw [List.getElem?_append_left z] at ha
      refine hu.2 i a b ha ?_
      rcases Nat.lt_or_ge (i + 1) u.length with z2 | z2
      · rw [List.append_assoc, List.getElem?_append_left z2] at hb
        rw [List.getElem?_append_left z2]; exact hb
      · rw [List.append_assoc, List.getElem?_append_right z2] at hb
        rw [List.getElem?_append_right z2]
        rw [show i + 1 - u.length = 0 by omega] at hb ⊢
        cases v with
        | nil => exact hb
        | cons c v =>
          rw [show ((c :: v) ++ [x])[0]? = some c from rfl] at hb
          cases hb
          rw [hv.1 _ rfl]; rfl
    · rw [List.getElem?_append_right z] at ha
      rw [List.append_assoc, List.getElem?_append_right (by omega), show i + 1 - u.length = i - u.length + 1 by omega] at hb
      exact hv.2 _ a b ha hb
theorem Loop.rp {ps : List (List Int)} {x : Int} {w : List Int} (h : Loop ps x w) : ∀ n, Loop ps x (rp n w)
  | 0 => Loop.nil ps x
  | n + 1 => by rw [rp_succ]; exact h.app (Loop.rp h n)
theorem Loop.cyc {ps : List (List Int)} {x : Int} {l : List Int} (h : Loop ps x l) (n : l ≠ []) : Cyc ps l := fun p => by
  obtain ⟨i, hi⟩ : ∃ i : Nat, (i : Int) = p % (l.length : Int) := ⟨(p % (l.length : Int)).toNat, by have := (rest_in n p).1; omega⟩
  have b := (rest_in n p).2
  rw [← hi] at b
  have il : i < l.length := by omega
  have e1 : mP l p = mP l (i : Int) := by rw [hi, mP_rest]
  have e2 : mP l (p + 1) = mP l ((i : Int) + 1) := mP_mod _ _ _ (by rw [show p + 1 - ((i : Int) + 1) = p - i by omega, hi, Int.sub_emod, Int.emod_emod_of_dvd p (Int.dvd_refl _), Int.sub_self, Int.zero_emod])
  rw [e1, e2, mP_get il]
  refine h.2 i _ _ (by rw [List.getD_eq_getElem?_getD, List.getElem?_eq_getElem il]; rfl) ?_
  rcases Nat.lt_or_ge (i + 1) l.length with z | z
  · rw [List.getElem?_append_left z, show (i : Int) + 1 = ((i + 1 : Nat) : Int) by omega, mP_get z, List.getD_eq_getElem?_getD, List.getElem?_eq_getElem z]; rfl
  · rw [List.getElem?_append_right z, show i + 1 - l.length = 0 by omega]
    have e3 : mP l ((i : Int) + 1) = mP l ((0 : Nat) : Int) := mP_mod _ _ _ (by rw [show (i : Int) + 1 - ((0 : Nat) : Int) = (l.length : Int) * 1 by omega, Int.mul_emod_right])
    have l0 : 0 < l.length := by omega
    rw [e3, mP_get l0, List.getD_eq_getElem?_getD, List.getElem?_eq_getElem l0]
    rw [h.1 l[0] (List.getElem?_eq_getElem l0)]; rfl
end RV
namespace RV
open PySem PySem.Spec PyProof.Rows L2
/-! ### what repr asks of rings: runs of marks, times to forty figures -/
theorem log_big {i : Int} (h : i.natAbs < 10 ^ 40) : i.natAbs.log2 < 1920 := by
  rcases Nat.eq_zero_or_pos i.natAbs with e | e
  · rw [e]; decide
  · have h1 : i.natAbs < 2 ^ 133 := Nat.lt_of_lt_of_le h (by decide)
    have h2 : i.natAbs.log2 < 133 := (Nat.log2_lt (by omega)).mpr h1
    omega
theorem len_big {i : Int} (h : i.natAbs < 10 ^ 40) : (PyData.shown (.int i)).length ≤ 41 := by
  have e := int_text_length_le10 (k := 40) (by decide) h
  show (Str.ofString (toString i)).length ≤ 41
  rw [PySem.ofString_length]
  exact e
theorem shows_of {d : PyData} (lay : d.canLay0 = true) (sh : d.showable = true) (si : d.intsShort 41 = true) (dep : d.depth ≤ 64) (bk : d.bulk ≤ 200000) : Shows d := by
  refine ⟨sh, PyData.hasDict_of_canLay _ lay, dep, ?_⟩
  have z := PyData.shown_le_bulk 41 (by decide) d (PyData.leavesShort_of_canLay0 41 _ lay si)
  have z2 : (41 + 2) * d.bulk ≤ 43 * 200000 := Nat.mul_le_mul_left 43 bk
  rw [sizeLine_eq]; omega
theorem show_bigs : ∀ ns : List Int, (∀ n ∈ ns, n.natAbs < 10 ^ 40) → PyData.showableAll (ns.map PyData.int) = true ∧ PyData.intsShortAll 41 (ns.map PyData.int) = true
  | [], _ => ⟨by simp [PyData.showableAll], by simp [PyData.intsShortAll]⟩
  | n :: r, h => by
    have h1 := h n (List.mem_cons_self ..)
    have h2 := show_bigs r fun m hm => h m (List.mem_cons_of_mem _ hm)
    exact ⟨by simp [PyData.showableAll, PyData.showable, log_big h1, h2.1], by simp [PyData.intsShortAll, PyData.intsShort, len_big h1, h2.2]⟩
def dRun (r : Int × List Int) : PyData := .tuple [.int r.1, dI r.2]
def dRg (rs : List (Int × List Int)) : PyData := .tuple (rs.map dRun)
theorem lay_runs : ∀ rs : List (Int × List Int), PyData.canLayAll0 (rs.map dRun) = true
  | [] => by simp [PyData.canLayAll0]
  | r :: rs => by simp [PyData.canLayAll0, dRun, PyData.canLay0, dI_lay, lay_runs rs]
theorem dep_runs : ∀ rs : List (Int × List Int), PyData.depthAll (rs.map dRun) ≤ 2
  | [] => by simp [PyData.depthAll]
  | r :: rs => by
    have h := dep_runs rs
    have h1 : (dRun r).depth = 2 := by simp [dRun, PyData.depth, PyData.depthAll, dI_dep]
    simp only [List.map_cons, PyData.depthAll, h1]; omega
theorem show_runs : ∀ rs : List (Int × List Int), (∀ r ∈ rs, r.1.natAbs < 10 ^ 40 ∧ ∀ n ∈ r.2, n.natAbs < 10 ^ 40) → PyData.showableAll (rs.map dRun) = true ∧ PyData.intsShortAll 41 (rs.map dRun) = true
  | [], _ => ⟨by simp [PyData.showableAll], by simp [PyData.intsShortAll]⟩
  | r :: rs, h => by
    obtain ⟨h1, h2⟩ := h r (List.mem_cons_self ..)
    have h3 := show_runs rs fun q hq => h q (List.mem_cons_of_mem _ hq)
    have h4 := show_bigs r.2 h2
    have a1 : (dI r.2).showable = true := by simp only [dI, PyData.showable]; exact h4.1
    have a2 : (dI r.2).intsShort 41 = true := by simp only [dI, PyData.intsShort]; exact h4.2
    exact ⟨by simp [PyData.showableAll, dRun, PyData.showable, log_big h1, a1, h3.1], by simp [PyData.intsShortAll, dRun, PyData.intsShort, len_big h1, a2, h3.2]⟩
theorem bulk_runs : ∀ (rs : List (Int × List Int)) (k : Nat), (∀ r ∈ rs, r.2.length ≤ k) → PyData.bulkAll (rs.map dRun) ≤ (k + 3) * rs.length
  | [], _, _ => by simp [PyData.bulkAll]
  | r :: rs, k, h => by
    have h1 : (dI r.2).bulk = r.2.length := by simp only [dI, PyData.bulk, bulk_ints]
    have h2 := bulk_runs rs k fun q hq => h q (List.mem_cons_of_mem _ hq)
    have h3 := h r (List.mem_cons_self ..)
    have h4 : (dRun r).bulk ≤ r.2.length + 2 := by simp only [dRun, PyData.bulk, PyData.bulkAll, h1]; omega
    simp only [List.map_cons, PyData.bulkAll, List.length_cons, Nat.mul_succ]; omega
theorem shows_dRg {rs : List (Int × List Int)} (h : ∀ r ∈ rs, r.1.natAbs < 10 ^ 40 ∧ ∀ n ∈ r.2, n.natAbs < 10 ^ 40) (hw : ∀ r ∈ rs, r.2.length ≤ 1000) (hl : rs.length ≤ 100) : Shows (dRg rs) := by
  have h1 := show_runs rs h
  have h2 := dep_runs rs
  have h3 := bulk_runs rs 1000 hw
  have h4 : (1000 + 3) * rs.length ≤ 1003 * 100 := Nat.mul_le_mul_left _ hl
  refine shows_of ?_ ?_ ?_ ?_ ?_
  · simp only [dRg, PyData.canLay0]; exact lay_runs rs
  · simp only [dRg, PyData.showable]; exact h1.1
  · simp only [dRg, PyData.intsShort]; exact h1.2
  · simp only [dRg, PyData.depth]; omega
  · simp only [dRg, PyData.bulk]; omega
end RV
set_option maxHeartbeats 4000000
/-! things of any kind, as data -/
namespace RV
open PySem PySem.Spec PyProof.Rows L2
mutual
theorem Dp.same {K : PySem.W.Frag} {H H' : Hp} (s : Same H H') : ∀ {v : V} {d : PyData}, Dp K H v d → Dp K H' v d
  | _, _, .non => .non
  | _, _, .bl b => .bl b
  | _, _, .int i => .int i
  | _, _, .str x => .str x
  | _, _, .lst h1 h2 => .lst (sqL_same s h1) (DpAll.same s h2)
  | _, _, .tup h1 h2 => .tup (sqT_same s h1) (DpAll.same s h2)
theorem DpAll.same {K : PySem.W.Frag} {H H' : Hp} (s : Same H H') : ∀ {vs : List V} {ds : List PyData}, DpAll K H vs ds → DpAll K H' vs ds
  | _, _, .nil => .nil
  | _, _, .cons h1 h2 => .cons (Dp.same s h1) (DpAll.same s h2)
end
section
variable {K : PySem.W.Frag} {H H' : Hp}
theorem DpAll.len : ∀ {vs : List V} {ds : List PyData}, DpAll K H vs ds → vs.length = ds.length
  | _, _, .nil => rfl
  | _, _, .cons _ h => by rw [List.length_cons, List.length_cons, DpAll.len h]
theorem DpAll.at : ∀ {vs : List V} {ds : List PyData}, DpAll K H vs ds → ∀ {i : Nat} {v : V}, vs[i]? = some v → ∃ d, ds[i]? = some d ∧ Dp K H v d
  | _, _, .nil, _, _, e => by cases e
  | _, _, .cons h1 h2, 0, _, e => by cases e; exact ⟨_, rfl, h1⟩
  | _, _, .cons h1 h2, i + 1, _, e => DpAll.at h2 (i := i) e
theorem DpAll.app : ∀ {vs us : List V} {ds es : List PyData}, DpAll K H vs ds → DpAll K H us es → DpAll K H (vs ++ us) (ds ++ es)
  | _, _, _, _, .nil, h => h
  | _, _, _, _, .cons h1 h2, h => .cons h1 (DpAll.app h2 h)
theorem DpAll.take : ∀ {vs : List V} {ds : List PyData} (n : Nat), DpAll K H vs ds → DpAll K H (vs.take n) (ds.take n)
  | _, _, 0, _ => .nil
  | _, _, n + 1, .nil => .nil
  | _, _, n + 1, .cons h1 h2 => .cons h1 (DpAll.take n h2)
theorem DpAll.drop : ∀ {vs : List V} {ds : List PyData} (n : Nat), DpAll K H vs ds → DpAll K H (vs.drop n) (ds.drop n)
  | _, _, 0, h => h
  | _, _, n + 1, .nil => .nil
  | _, _, n + 1, .cons h1 h2 => DpAll.drop n h2
theorem DpAll.rev : ∀ {vs : List V} {ds : List PyData}, DpAll K H vs ds → DpAll K H vs.reverse ds.reverse
  | _, _, .nil => .nil
  | _, _, .cons h1 h2 => by
    rw [List.reverse_cons, List.reverse_cons]
    exact DpAll.app (DpAll.rev h2) (.cons h1 .nil)
theorem DpAll.put : ∀ {vs : List V} {ds : List PyData}, DpAll K H vs ds → ∀ {v : V} {d : PyData}, Dp K H v d → DpAll K H (vs ++ [v]) (ds ++ [d]) := fun h _ _ g => DpAll.app h (.cons g .nil)
/-- its type's name -/
def tnD : PyData → String
  | .none => "NoneType"
  | .bool _ => "bool"
  | .int _ => "int"
  | .str _ => "str"
  | .list _ => "list"
  | .tuple _ => "tuple"
  | .dict _ => "dict"
theorem tyL {a : Addr} {xs : List V} (h : SqL K H a xs) : TyX K H (.ref a) (.type "list") := by
  rcases h with (h | ⟨o, h⟩) | ⟨o, its, n, h1, h2, _⟩
  · exact .base (.lst h)
  · exact .base (.frz h)
  · exact .kList h1 h2
theorem tyD {v : V} {d : PyData} (h : Dp K H v d) : TyX K H v (.type (tnD d)) := by
  cases h with
  | non => exact .base .non
  | bl b => exact .base (.bl b)
  | int i => exact .base (.int i)
  | str x => exact .base (.str x)
  | lst h1 h2 => exact tyL h1
  | tup h1 h2 => exact tyT h1
/-- what isinstance(x, t) tells of data -/
def isiD (d : PyData) (t : String) : Bool := tnD d == t || (tnD d == "bool" && t == "int")
theorem kit_N : ∀ a ∈ ["NoneType", "bool", "int", "str", "list", "tuple", "dict"], ∀ b ∈ ["int", "bool", "tuple", "str"], kitB a b = some (a == b || (a == "bool" && b == "int")) := by decide +kernel
theorem tn_in (d : PyData) : tnD d ∈ ["NoneType", "bool", "int", "str", "list", "tuple", "dict"] := by cases d <;> simp [tnD]
theorem kit_D {d : PyData} {t : String} (ht : t = "int" ∨ t = "bool" ∨ t = "tuple" ∨ t = "str") : PySem.W.kitOne K (Value.type (tnD d)) (Value.type t) = some (isiD d t) := by
  exact kit_ty (kit_N _ (tn_in d) t (by rcases ht with rfl | rfl | rfl | rfl <;> simp))
theorem isi_D {v : V} {d : PyData} {t : String} {Q : VK} (h : Dp K H v d) (ht : t = "int" ∨ t = "bool" ∨ t = "tuple" ∨ t = "str") (q : Q (.bl (isiD d t)) H) : rIsi K [v, .ty t] H Q :=
  ⟨v, .ty t, .type (tnD d), .type t, isiD d t, rfl, .ty t, tyD h, kit_D ht, q⟩
end
/-! ### all of a list's things -/
theorem lay_all : ∀ {ds : List PyData}, PyData.canLayAll0 ds = true ↔ ∀ e ∈ ds, e.canLay0 = true
  | [] => by simp [PyData.canLayAll0]
  | d :: ds => by simp [PyData.canLayAll0, lay_all (ds := ds)]
theorem show_all : ∀ {ds : List PyData}, PyData.showableAll ds = true ↔ ∀ e ∈ ds, e.showable = true
  | [] => by simp [PyData.showableAll]
  | d :: ds => by simp [PyData.showableAll, show_all (ds := ds)]
theorem short_all : ∀ {ds : List PyData}, PyData.intsShortAll 41 ds = true ↔ ∀ e ∈ ds, e.intsShort 41 = true
  | [] => by simp [PyData.intsShortAll]
  | d :: ds => by simp [PyData.intsShortAll, short_all (ds := ds)]
theorem depth_all {n : Nat} : ∀ {ds : List PyData}, PyData.depthAll ds ≤ n ↔ ∀ e ∈ ds, e.depth ≤ n
  | [] => by simp [PyData.depthAll]
  | d :: ds => by simp only [PyData.depthAll, List.mem_cons, forall_eq_or_imp, ← depth_all (ds := ds)]; omega
theorem bulk_app : ∀ (ds es : List PyData), PyData.bulkAll (ds ++ es) = PyData.bulkAll ds + PyData.bulkAll es
  | [], es => by simp [PyData.bulkAll]
  | d :: ds, es => by rw [List.cons_append]; simp only [PyData.bulkAll, bulk_app ds es]; omega
theorem bulk_one (d : PyData) : PyData.bulkAll [d] = d.bulk + 1 := by simp [PyData.bulkAll]
theorem bulk_len : ∀ ds : List PyData, ds.length ≤ PyData.bulkAll ds
  | [] => Nat.zero_le _
  | d :: ds => by have := bulk_len ds; simp only [PyData.bulkAll, List.length_cons]; omega
theorem bulk_mem : ∀ {ds : List PyData} {e : PyData}, e ∈ ds → e.bulk ≤ PyData.bulkAll ds
  | d :: ds, e, h => by
    rcases List.mem_cons.mp h with z | z
    · subst z; simp only [PyData.bulkAll]; omega
    · have := bulk_mem z; simp only [PyData.bulkAll]; omega
theorem bulk_rev (ds : List PyData) : PyData.bulkAll ds.reverse = PyData.bulkAll ds := by
  induction ds with
  | nil => rfl
  | cons d ds ih => rw [List.reverse_cons, bulk_app, ih, bulk_one]; simp only [PyData.bulkAll]; omega
theorem bulk_take (n : Nat) (ds : List PyData) : PyData.bulkAll (ds.take n) + PyData.bulkAll (ds.drop n) = PyData.bulkAll ds := by
  rw [← bulk_app, List.take_append_drop]
/-- data that may be shown and compared: so deep, so much -/
structure Gd (d : PyData) (n m : Nat) : Prop where
  lay : d.canLay0 = true
  sh : d.showable = true
  si : d.intsShort 41 = true
  dep : d.depth ≤ n
  bk : d.bulk ≤ m
theorem Gd.up {d : PyData} {n m n' m' : Nat} (h : Gd d n m) (h1 : n ≤ n') (h2 : m ≤ m') : Gd d n' m' := ⟨h.lay, h.sh, h.si, Nat.le_trans h.dep h1, Nat.le_trans h.bk h2⟩
theorem Gd.shows {d : PyData} {n m : Nat} (h : Gd d n m) (hn : n ≤ 64) (hm : m ≤ 200000) : Shows d := shows_of h.lay h.sh h.si (by have := h.dep; omega) (by have := h.bk; omega)
theorem Gd.shaped {d : PyData} {n m : Nat} (h : Gd d n m) (hn : n ≤ 64) : SeqAt.shaped d = true := by
  show (d.canLay0 && decide (d.depth ≤ 64)) = true
  rw [h.lay, decide_eq_true (Nat.le_trans h.dep hn)]; rfl
theorem gd_int {n : Int} (h : n.natAbs < 10 ^ 40) : Gd (.int n) 0 0 :=
  ⟨by simp [PyData.canLay0], by simp [PyData.showable, log_big h], by simp [PyData.intsShort, len_big h], by simp [PyData.depth], by simp [PyData.bulk]⟩
theorem gd_bool (b : Bool) : Gd (.bool b) 0 0 := ⟨by simp [PyData.canLay0], by simp [PyData.showable], by simp [PyData.intsShort], by simp [PyData.depth], by simp [PyData.bulk]⟩
theorem gd_none : Gd .none 0 0 := ⟨by simp [PyData.canLay0], by simp [PyData.showable], by simp [PyData.intsShort], by simp [PyData.depth], by simp [PyData.bulk]⟩
theorem gd_tup {ds : List PyData} {n m : Nat} : Gd (.tuple ds) (n + 1) m ↔ (∀ e ∈ ds, Gd e n m) ∧ PyData.bulkAll ds ≤ m := by
  constructor
  · intro h
    have h1 := h.lay
    have h2 := h.sh
    have h3 := h.si
    have h4 := h.dep
    have h5 := h.bk
    simp only [PyData.canLay0] at h1
    simp only [PyData.showable] at h2
    simp only [PyData.intsShort] at h3
    simp only [PyData.depth] at h4
    simp only [PyData.bulk] at h5
    exact ⟨fun e he => ⟨lay_all.mp h1 e he, show_all.mp h2 e he, short_all.mp h3 e he, depth_all.mp (by omega) e he, Nat.le_trans (bulk_mem he) h5⟩, h5⟩
  · rintro ⟨h, hb⟩
    refine ⟨?_, ?_, ?_, ?_, ?_⟩
    · simp only [PyData.canLay0]; exact lay_all.mpr fun e he => (h e he).lay
    · simp only [PyData.showable]; exact show_all.mpr fun e he => (h e he).sh
    · simp only [PyData.intsShort]; exact short_all.mpr fun e he => (h e he).si
    · have := depth_all.mpr fun e he => (h e he).dep
      simp only [PyData.depth]; omega
    · simp only [PyData.bulk]; exact hb
theorem gd_lst {ds : List PyData} {n m : Nat} : Gd (.list ds) (n + 1) m ↔ (∀ e ∈ ds, Gd e n m) ∧ PyData.bulkAll ds ≤ m := by
  constructor
  · intro h
    have h1 := h.lay
    have h2 := h.sh
    have h3 := h.si
    have h4 := h.dep
    have h5 := h.bk
    simp only [PyData.canLay0] at h1
    simp only [PyData.showable] at h2
    simp only [PyData.intsShort] at h3
    simp only [PyData.depth] at h4
    simp only [PyData.bulk] at h5
    exact ⟨fun e he => ⟨lay_all.mp h1 e he, show_all.mp h2 e he, short_all.mp h3 e he, depth_all.mp (by omega) e he, Nat.le_trans (bulk_mem he) h5⟩, h5⟩
  · rintro ⟨h, hb⟩
    refine ⟨?_, ?_, ?_, ?_, ?_⟩
    · simp only [PyData.canLay0]; exact lay_all.mpr fun e he => (h e he).lay
    · simp only [PyData.showable]; exact show_all.mpr fun e he => (h e he).sh
    · simp only [PyData.intsShort]; exact short_all.mpr fun e he => (h e he).si
    · have := depth_all.mpr fun e he => (h e he).dep
      simp only [PyData.depth]; omega
    · simp only [PyData.bulk]; exact hb
end RV
namespace RV
open PySem
theorem isi_int (d : PyData) : isiD d "int" = (match d with | .int _ => true | .bool _ => true | _ => false) := by cases d <;> simp [isiD, tnD]
theorem isi_bool (d : PyData) : isiD d "bool" = (match d with | .bool _ => true | _ => false) := by cases d <;> simp [isiD, tnD]
theorem isi_tup (d : PyData) : isiD d "tuple" = (match d with | .tuple _ => true | _ => false) := by cases d <;> simp [isiD, tnD]
def wholeD : PyData → Bool
  | .int _ => true
  | _ => false
def belowD (n : Int) : PyData → Bool
  | .int i => decide (0 ≤ i) && decide (i < n)
  | _ => false
def marksD (n : Int) : PyData → Bool
  | .tuple ds => decide (0 < ds.length) && ds.all (belowD n)
  | _ => false
def timesD : PyData → Bool
  | .int i => decide (1 ≤ i)
  | _ => false
def runD (n : Int) : PyData → Bool
  | .tuple [t, m] => timesD t && marksD n m
  | _ => false
def formD (n : Int) : PyData → Bool
  | .tuple ds => decide (0 < ds.length) && ds.all (runD n)
  | _ => false
end RV
namespace RV
open PySem PySem.Spec PyProof.Rows L2
/-- the numbers of a tuple, the runs of a ring, read out of data -/
def intD : PyData → Int
  | .int i => i
  | _ => 0
def intsD : PyData → List Int
  | .tuple ds => ds.map intD
  | _ => []
def oneD : PyData → Int × List Int
  | .tuple [t, m] => (intD t, intsD m)
  | _ => (0, [])
def rsD : PyData → List (Int × List Int)
  | .tuple ds => ds.map oneD
  | _ => []
theorem below_int {n : Int} {d : PyData} (h : belowD n d = true) : d = .int (intD d) ∧ 0 ≤ intD d ∧ intD d < n := by
  cases d with
  | int i =>
    have h : (decide (0 ≤ i) && decide (i < n)) = true := h
    rw [Bool.and_eq_true, decide_eq_true_iff, decide_eq_true_iff] at h
    exact ⟨rfl, h⟩
  | none => cases h
  | bool b => cases h
  | str x => cases h
  | list ds => cases h
  | tuple ds => cases h
  | dict ds => cases h
theorem map_id_of {α : Type} {f : α → α} : ∀ {l : List α}, (∀ x ∈ l, f x = x) → l.map f = l
  | [], _ => rfl
  | x :: l, h => by rw [List.map_cons, h x (List.mem_cons_self ..), map_id_of fun y hy => h y (List.mem_cons_of_mem _ hy)]
theorem marks_ints {n : Int} {d : PyData} (h : marksD n d = true) : d = dI (intsD d) ∧ intsD d ≠ [] ∧ ∀ x ∈ intsD d, 0 ≤ x ∧ x < n := by
  cases d with
  | tuple ds =>
    have h : (decide (0 < ds.length) && ds.all (belowD n)) = true := h
    rw [Bool.and_eq_true, decide_eq_true_iff, List.all_eq_true] at h
    refine ⟨?_, fun z => ?_, fun x hx => ?_⟩
    · show PyData.tuple ds = .tuple ((ds.map intD).map PyData.int)
      rw [List.map_map, map_id_of (f := PyData.int ∘ intD) fun x hx => (below_int (h.2 x hx)).1.symm]
    · have z : ds.map intD = [] := z
      rw [List.map_eq_nil_iff] at z
      rw [z] at h
      exact absurd h.1 (Nat.lt_irrefl _)
    · obtain ⟨e, he, rfl⟩ := List.mem_map.mp (show x ∈ ds.map intD from hx)
      exact (below_int (h.2 e he)).2
  | none => cases h
  | bool b => cases h
  | str x => cases h
  | list ds => cases h
  | int ds => cases h
  | dict ds => cases h
theorem run_two {n : Int} {d : PyData} (h : runD n d = true) : ∃ t m, d = .tuple [t, m] ∧ timesD t = true ∧ marksD n m = true := by
  cases d with
  | tuple ds =>
    match ds, h with
    | [t, m], h =>
      have h : (timesD t && marksD n m) = true := h
      rw [Bool.and_eq_true] at h
      exact ⟨t, m, rfl, h⟩
    | [], h => cases h
    | [_], h => cases h
    | _ :: _ :: _ :: _, h => cases h
  | none => cases h
  | bool b => cases h
  | str x => cases h
  | list ds => cases h
  | int ds => cases h
  | dict ds => cases h
theorem times_int {d : PyData} (h : timesD d = true) : d = .int (intD d) ∧ 1 ≤ intD d := by
  cases d with
  | int i => exact ⟨rfl, of_decide_eq_true h⟩
  | none => cases h
  | bool b => cases h
  | str x => cases h
  | list ds => cases h
  | tuple ds => cases h
  | dict ds => cases h
theorem run_is {n : Int} {d : PyData} (h : runD n d = true) : d = dRun (oneD d) ∧ 1 ≤ (oneD d).1 ∧ (oneD d).2 ≠ [] ∧ ∀ x ∈ (oneD d).2, 0 ≤ x ∧ x < n := by
  obtain ⟨t, m, rfl, h1, h2⟩ := run_two h
  have e1 := times_int h1
  have e2 := marks_ints h2
  refine ⟨?_, e1.2, e2.2⟩
  show PyData.tuple [t, m] = .tuple [.int (intD t), dI (intsD m)]
  rw [← e1.1, ← e2.1]
theorem form_tup {n : Int} {d : PyData} (h : formD n d = true) : ∃ ds, d = .tuple ds ∧ 0 < ds.length ∧ ∀ e ∈ ds, runD n e = true := by
  cases d with
  | tuple ds =>
    have h : (decide (0 < ds.length) && ds.all (runD n)) = true := h
    rw [Bool.and_eq_true, decide_eq_true_iff, List.all_eq_true] at h
    exact ⟨ds, rfl, h⟩
  | none => cases h
  | bool b => cases h
  | str x => cases h
  | list ds => cases h
  | int ds => cases h
  | dict ds => cases h
theorem form_is {n : Int} {d : PyData} (h : formD n d = true) : d = dRg (rsD d) ∧ rsD d ≠ [] ∧ ∀ r ∈ rsD d, 1 ≤ r.1 ∧ r.2 ≠ [] ∧ ∀ x ∈ r.2, 0 ≤ x ∧ x < n := by
  obtain ⟨ds, rfl, h1, h2⟩ := form_tup h
  refine ⟨?_, fun z => ?_, fun r hr => ?_⟩
  · show PyData.tuple ds = .tuple ((ds.map oneD).map dRun)
    rw [List.map_map, map_id_of (f := dRun ∘ oneD) fun x hx => (run_is (h2 x hx)).1.symm]
  · have z : ds.map oneD = [] := z
    rw [List.map_eq_nil_iff] at z
    rw [z] at h1
    exact absurd h1 (Nat.lt_irrefl _)
  · obtain ⟨e, he, rfl⟩ := List.mem_map.mp (show r ∈ ds.map oneD from hr)
    exact (run_is (h2 e he)).2
/-- how much: runs and words are no longer -/
theorem run_bulk {rs : List (Int × List Int)} {m : Nat} (h : (dRg rs).bulk ≤ m) : rs.length ≤ m ∧ ∀ r ∈ rs, r.2.length ≤ m := by
  have h : PyData.bulkAll (rs.map dRun) ≤ m := by simpa only [dRg, PyData.bulk] using h
  refine ⟨?_, fun r hr => ?_⟩
  · have := bulk_len (rs.map dRun)
    rw [List.length_map] at this; omega
  · have z := bulk_mem (List.mem_map_of_mem (f := dRun) hr)
    have z2 : (dRun r).bulk = PyData.bulkAll [.int r.1, dI r.2] := by simp only [dRun, PyData.bulk]
    have z3 := bulk_mem (ds := [.int r.1, dI r.2]) (e := dI r.2) (List.mem_cons_of_mem _ (List.mem_cons_self ..))
    have z4 := bulk_len (r.2.map PyData.int)
    have z5 : (dI r.2).bulk = PyData.bulkAll (r.2.map PyData.int) := by simp only [dI, PyData.bulk]
    rw [List.length_map] at z4
    omega
end RV
set_option maxHeartbeats 4000000
namespace RV
open PySem PySem.Spec PyProof.Rows L2
section
variable {X : Cx}
/-- ts.index(t), tuples of ints in a tuple -/
def rIndexTs (K : PySem.W.Frag) : V → List V → Hp → VK → Prop := fun x xs H Q => ∃ (a b : Addr) (ps : List (List Int)) (p : List Int) (j : Nat), x = V.ref a ∧ xs = [V.ref b] ∧ Tups K H a ps ∧ SqT K H b (p.map V.int) ∧ ps[j]? = some p ∧ (∀ m, m < j → ps[m]? ≠ some p) ∧ Q (.int (j : Nat)) H
theorem mt_indexTs (hu : X.A.units + 65 < cLine) : MtR X "tuple.index" (rIndexTs X.K) := by
  intro pins s σ H x xs v us Q I rx rxs h
  obtain ⟨a, b, ps, p, j, rfl, rfl, hT, hb, hj, hno, q⟩ := h
  cases rx
  obtain ⟨u, rfl, ru⟩ := vals1 rxs
  cases ru
  obtain ⟨bs, r1⟩ := Dp.reads I (dI p) (.ref b) (.ref b) (dpT hb) rfl
  have lay := lay_dI ps
  have room : X.A.units + 1 + min (PyData.depthAll (ps.map dI)) (dI p).depth < cLine := by
    have := Nat.min_le_right (PyData.depthAll (ps.map dI)) (dI p).depth
    have e := dI_dep p
    omega
  obtain ⟨ks, rfl, hs, hks⟩ := hT
  obtain ⟨its, rv, ⟨⟨cls, dd, dat, sls⟩, ho, hc, n, hd⟩, hlen⟩ := I.tuple hs
  simp only at hc hd
  subst hc hd
  obtain ⟨as, rall⟩ := Dp.readsAll I ((ks.map (·.2)).map dI) _ its (dpTs ks hks) rv
  have ln : its.length = ((ks.map (·.2)).map dI).length := SeqAt.ReadsAll.length _ its as rall
  have mp : its.map (SeqAt.readOf s.heap) = (ks.map (·.2)).map dI := SeqAt.readsAll_map _ its as lay rall
  have jl : j < its.toArray.size := by
    have := (List.getElem?_eq_some_iff.mp hj).1
    rw [List.size_toArray, ln, List.length_map]; exact this
  have at_ : ∀ (m : Nat) (hm : m < its.toArray.size), ∃ z, (ks.map (·.2))[m]? = some z ∧ SeqAt.readOf s.heap its.toArray[m] = dI z := fun m hm => by
    have hm2 : m < (ks.map (·.2)).length := by rw [List.size_toArray, ln, List.length_map] at hm; exact hm
    refine ⟨_, List.getElem?_eq_getElem hm2, ?_⟩
    have e : (its.map (SeqAt.readOf s.heap))[m]? = some (dI (ks.map (·.2))[m]) := by rw [mp, List.getElem?_map, List.getElem?_eq_getElem hm2]; rfl
    have hml : m < its.length := by simpa using hm
    rw [List.getElem?_map, List.getElem?_eq_getElem hml] at e
    have e' := Option.some.inj e
    simpa using e'
  refine call_meets PySem.F.slot_tuple_index ⟨_, ho, rfl⟩ PySem.F.entry_tuple_index (PySem.F.args_tuple_index_2 _ _) (TI.tuple_indexAt a its.toArray n dd sls (.ref b) (fun y => PyData.eqv (SeqAt.readOf s.heap y) (dI p)) j jl ?_ ?_)
    ⟨ho, SeqAt.items_eqAt (vs := its.toArray) (show ReadsAll s.heap its.toArray.toList _ as from rall) r1 lay (dI_lay p) room, ⟨.int (j : Nat), H, I.tok _, ⟨_, rfl⟩, q⟩⟩
  · obtain ⟨z, e1, e2⟩ := at_ j jl
    rw [hj] at e1
    cases e1
    show PyData.eqv (SeqAt.readOf s.heap its.toArray[j]) (dI p) = true
    rw [e2, eqvI]
    exact decide_eq_true rfl
  · intro m hm hmj
    obtain ⟨z, e1, e2⟩ := at_ m hm
    show PyData.eqv (SeqAt.readOf s.heap its.toArray[m]) (dI p) = false
    rw [e2, eqvI]
    exact decide_eq_false fun e => hno m hmj (by rw [e1, e])
/-- repr(None), repr of a whole number -/
def rReprO : List V → Hp → VK → Prop := fun xs H Q => (∃ i : Int, xs = [.int i] ∧ i.natAbs.log2 < 1920 ∧ Q (.str (toString i)) H) ∨ (xs = [.non] ∧ Q (.str "None") H)
theorem call_reprO : CallR X (.builtin "repr") rReprO := by
  intro pins s σ H xs us Q I r h
  rcases h with h | ⟨rfl, q⟩
  · exact SkE.call_repr_int pins s σ H xs us Q I r h
  · obtain ⟨u, rfl, rx⟩ := vals1 r
    cases (show u = Value.none from rx)
    exact PySem.P.repr_of_none ⟨.str "None", H, I.tok _, ⟨_, rfl⟩, q⟩
theorem op_neDK {K : PySem.W.Frag} (h : X.K = K) (hu : X.A.units + 64 < cLine) : OpR X (compareOp .NotEq) (rNeD K) := h ▸ op_neD hu
end
theorem bulk_any : ∀ (ps : List (List Int)) (k : Nat), (∀ p ∈ ps, p.length ≤ k) → PyData.bulkAll (ps.map dI) ≤ (k + 1) * ps.length
  | [], k, _ => by simp [PyData.bulkAll]
  | p :: r, k, h => by
    have h1 : (dI p).bulk = p.length := by simp only [dI, PyData.bulk, bulk_ints]
    have h2 := bulk_any r k fun m hm => h m (List.mem_cons_of_mem _ hm)
    have h3 := h p (List.mem_cons_self ..)
    simp only [List.map_cons, PyData.bulkAll, h1, List.length_cons, Nat.mul_succ]
    omega
theorem shows_dTT {ps : List (List Int)} (hn : ∀ p ∈ ps, ∀ n ∈ p, n.natAbs < 10 ^ 12) (h1 : ∀ p ∈ ps, p.length ≤ 8) (h2 : ps.length ≤ 64) : Shows (dTT ps) := by
  have lay : (dTT ps).canLay0 = true := by simp only [dTT, PyData.canLay0]; exact lay_dI ps
  refine ⟨by simp only [dTT, PyData.showable]; exact show_dIs ps hn, PyData.hasDict_of_canLay _ lay, ?_, ?_⟩
  · have h := dep_dI ps
    simp only [dTT, PyData.depth]; omega
  · refine PyData.shown_fits_bulk (B := 13) (by decide) (by decide) (PyData.leavesShort_of_canLay0 13 _ lay ?_) ?_
    · simp only [dTT, PyData.intsShort]; exact short_dIs ps hn
    · have b := bulk_any ps 8 h1
      simp only [dTT, PyData.bulk]
      omega
/-! ### lots in order -/
end RV
set_option maxHeartbeats 4000000
/-! repr(x), x data of any kind, an empty dict too -/
namespace RV
open PySem PySem.Spec PyProof.Rows L2
/-- a thing of any kind, an empty dict too -/
def Dz (K : PySem.W.Frag) (H : Hp) (v : V) (d : PyData) : Prop := Dp K H v d ∨ ∃ a, v = .ref a ∧ H a = some (.dK []) ∧ d = .dict []
theorem Dz.same {K : PySem.W.Frag} {H H' : Hp} {v : V} {d : PyData} (h : Dz K H v d) (s : Same H H') : Dz K H' v d := by
  rcases h with h | ⟨a, h1, h2, h3⟩
  · exact .inl (Dp.same s h)
  · exact .inr ⟨a, h1, s _ _ h2, h3⟩
theorem Dz.ty {K : PySem.W.Frag} {H : Hp} {v : V} {d : PyData} (h : Dz K H v d) : TyX K H v (.type (tnD d)) := by
  rcases h with h | ⟨a, rfl, h2, rfl⟩
  · exact tyD h
  · exact .base (.dK h2)
/-- its text -/
def tvD : PyData → Str
  | .int i => (toString i : String)
  | .none => ("None" : String)
  | .bool b => (if b then Str.ofString "True" else Str.ofString "False")
  | .str x => reprText x
  | d => d.shown
/-- what repr can write -/
def TopS : PyData → Prop
  | .int i => i.natAbs.log2 < 1920
  | .str x => (reprText x).length ≤ sizeLine
  | .list ds => Shows (.list ds)
  | .tuple ds => Shows (.tuple ds)
  | _ => True
theorem shown_nil : (PyData.dict []).shown.length ≤ sizeLine ∧ (PyData.dict []).showable = true ∧ (PyData.dict []).depth ≤ 1 := by
  refine ⟨?_, ?_, ?_⟩
  · simp only [PyData.shown]
    rw [sizeLine_eq]
    decide
  · simp [PyData.showable, PyData.showableKv]
  · simp [PyData.depth, PyData.depthKv]
section
variable {X : Cx}
theorem call_bool : CallR X (.builtin "repr") (fun xs H Q => ∃ b : Bool, xs = [.bl b] ∧ Q (.str (if b then Str.ofString "True" else Str.ofString "False")) H) := by
  intro pins s σ H xs us Q I r h
  obtain ⟨b, rfl, q⟩ := h
  obtain ⟨u, rfl, rx⟩ := vals1 r
  cases (show u = Value.bool b from rx)
  exact PySem.P.repr_of_bool ⟨.str _, H, I.tok _, ⟨_, rfl⟩, q⟩
def rReprZ (K : PySem.W.Frag) : List V → Hp → VK → Prop := fun xs H Q => ∃ (v : V) (d : PyData), xs = [v] ∧ Dz K H v d ∧ TopS d ∧ Q (.str (tvD d)) H
theorem call_reprZ (gd : X.A.guards = some []) (hu : X.A.units + 65 < cLine) : CallR X (.builtin "repr") (rReprZ X.K) := by
  intro pins s σ H xs us Q I r h
  obtain ⟨v, d, rfl, hz, hs, q⟩ := h
  rcases hz with hd | ⟨a, rfl, h2, rfl⟩
  · cases hd with
    | non => exact call_reprO pins s σ H _ us Q I r (.inr ⟨rfl, q⟩)
    | int i => exact call_reprO pins s σ H _ us Q I r (.inl ⟨i, rfl, hs, q⟩)
    | bl b => exact call_bool pins s σ H _ us Q I r ⟨b, rfl, q⟩
    | str x =>
      obtain ⟨u, rfl, rx⟩ := vals1 r
      obtain ⟨t, rfl⟩ := (show ∃ t, u = Value.str x t from rx)
      exact PySem.P.repr_of_str ⟨.str _, H, I.tok _, ⟨_, rfl⟩, q⟩ hs
    | tup h1 h2 => exact call_reprD gd hu pins s σ H _ us Q I r ⟨_, _, rfl, .tup h1 h2, hs.h1, hs.h2, hs.h3, hs.h4, q⟩
    | lst h1 h2 => exact call_reprD gd hu pins s σ H _ us Q I r ⟨_, _, rfl, .lst h1 h2, hs.h1, hs.h2, hs.h3, hs.h4, q⟩
  · obtain ⟨u, rfl, ru⟩ := vals1 r
    cases ru
    have ok := I.hok a _ h2
    unfold ObjOk at ok
    obtain ⟨_, hm, vs, kv, o, es, ep, g1, g2, g3, g4, g5, g6⟩ := ok
    have ev : vs = [] := by cases kv; rfl
    subst ev
    have ee : es.toList = [] := by
      cases h : es.toList with
      | nil => rfl
      | cons e r => rw [h] at g5; cases g5
    have rd : Reads s.heap (.ref a) (.dict []) (a :: [] ++ []) := .dict (kvs := []) (as := []) (bs := []) g1 g2.1 g3 (by rw [ee]; exact .nil) (by rw [ee]; exact .nil)
    obtain ⟨n1, n2, n3⟩ := shown_nil
    refine repr_of_reads' rd n2 (fun _ z => ?_) gd (by omega) (fun _ _ z => z) (fun h' uu tk k => ?_) n1
    · have z : sysModules ∈ [a] := z
      rw [← List.mem_singleton.mp z] at hm
      simp at hm
    · exact ⟨.str _, H, I.kept k, ⟨uu, rfl⟩, q⟩
end
end RV
set_option maxHeartbeats 4000000
/-! things of any kind, dicts among them, as data; their text -/
namespace RV
open PySem PySem.Spec PyProof.Rows L2
/-- the dicts that laws write: {}, {0: 0} -/
inductive Dct : List (Key × V) → List (PyData × PyData) → Prop
  | nil : Dct [] []
  | one (i j : Int) : Dct [(Sum.inl i, V.int j)] [(PyData.int i, PyData.int j)]
mutual
inductive Dq (K : PySem.W.Frag) (H : Hp) : V → PyData → Prop
  | non : Dq K H .non .none
  | bl (b : Bool) : Dq K H (.bl b) (.bool b)
  | int (i : Int) : Dq K H (.int i) (.int i)
  | str (x : Str) : Dq K H (.str x) (.str x)
  | lst {a : Addr} {xs : List V} {ds : List PyData} : H a = some (.lst xs) → DqAll K H xs ds → Dq K H (.ref a) (.list ds)
  | tup {a : Addr} {xs : List V} {ds : List PyData} : SqT K H a xs → DqAll K H xs ds → Dq K H (.ref a) (.tuple ds)
  | dct {a : Addr} {kvs : List (Key × V)} {es : List (PyData × PyData)} : H a = some (.dK kvs) → Dct kvs es → Dq K H (.ref a) (.dict es)
inductive DqAll (K : PySem.W.Frag) (H : Hp) : List V → List PyData → Prop
  | nil : DqAll K H [] []
  | cons {v : V} {vs : List V} {d : PyData} {ds : List PyData} : Dq K H v d → DqAll K H vs ds → DqAll K H (v :: vs) (d :: ds)
end
mutual
theorem Dq.same {K : PySem.W.Frag} {H H' : Hp} (s : Same H H') : ∀ {v : V} {d : PyData}, Dq K H v d → Dq K H' v d
  | _, _, .non => .non
  | _, _, .bl b => .bl b
  | _, _, .int i => .int i
  | _, _, .str x => .str x
  | _, _, .lst h1 h2 => .lst (s _ _ h1) (DqAll.same s h2)
  | _, _, .tup h1 h2 => .tup (sqT_same s h1) (DqAll.same s h2)
  | _, _, .dct h1 h2 => .dct (s _ _ h1) h2
theorem DqAll.same {K : PySem.W.Frag} {H H' : Hp} (s : Same H H') : ∀ {vs : List V} {ds : List PyData}, DqAll K H vs ds → DqAll K H' vs ds
  | _, _, .nil => .nil
  | _, _, .cons h1 h2 => .cons (Dq.same s h1) (DqAll.same s h2)
end
section
variable {K : PySem.W.Frag} {H H' : Hp}
theorem DqAll.len : ∀ {vs : List V} {ds : List PyData}, DqAll K H vs ds → vs.length = ds.length
  | _, _, .nil => rfl
  | _, _, .cons _ h => by rw [List.length_cons, List.length_cons, DqAll.len h]
theorem DqAll.at : ∀ {vs : List V} {ds : List PyData}, DqAll K H vs ds → ∀ {i : Nat} {v : V}, vs[i]? = some v → ∃ d, ds[i]? = some d ∧ Dq K H v d
  | _, _, .nil, _, _, e => by cases e
  | _, _, .cons h1 h2, 0, _, e => by cases e; exact ⟨_, rfl, h1⟩
  | _, _, .cons h1 h2, i + 1, _, e => DqAll.at h2 (i := i) e
theorem DqAll.app : ∀ {vs us : List V} {ds es : List PyData}, DqAll K H vs ds → DqAll K H us es → DqAll K H (vs ++ us) (ds ++ es)
  | _, _, _, _, .nil, h => h
  | _, _, _, _, .cons h1 h2, h => .cons h1 (DqAll.app h2 h)
theorem DqAll.take : ∀ {vs : List V} {ds : List PyData} (n : Nat), DqAll K H vs ds → DqAll K H (vs.take n) (ds.take n)
  | _, _, 0, _ => .nil
  | _, _, n + 1, .nil => .nil
  | _, _, n + 1, .cons h1 h2 => .cons h1 (DqAll.take n h2)
theorem DqAll.drop : ∀ {vs : List V} {ds : List PyData} (n : Nat), DqAll K H vs ds → DqAll K H (vs.drop n) (ds.drop n)
  | _, _, 0, h => h
  | _, _, n + 1, .nil => .nil
  | _, _, n + 1, .cons h1 h2 => DqAll.drop n h2
theorem DqAll.rev : ∀ {vs : List V} {ds : List PyData}, DqAll K H vs ds → DqAll K H vs.reverse ds.reverse
  | _, _, .nil => .nil
  | _, _, .cons h1 h2 => by
    rw [List.reverse_cons, List.reverse_cons]
    exact DqAll.app (DqAll.rev h2) (.cons h1 .nil)
theorem DqAll.put : ∀ {vs : List V} {ds : List PyData}, DqAll K H vs ds → ∀ {v : V} {d : PyData}, Dq K H v d → DqAll K H (vs ++ [v]) (ds ++ [d]) := fun h _ _ g => DqAll.app h (.cons g .nil)
theorem tyQ {v : V} {d : PyData} (h : Dq K H v d) : TyX K H v (.type (tnD d)) := by
  cases h with
  | non => exact .base .non
  | bl b => exact .base (.bl b)
  | int i => exact .base (.int i)
  | str x => exact .base (.str x)
  | lst h1 h2 => exact .base (.lst h1)
  | tup h1 h2 => exact tyT h1
  | dct h1 h2 => exact .base (.dK h1)
end
/-- what is told of a text that data has: so deep, so much -/
structure Gq (d : PyData) (n m : Nat) : Prop where
  sh : d.showable = true
  lv : d.leavesShort 41 = true
  dep : d.depth ≤ n
  bk : d.bulk ≤ m
theorem Gq.up {d : PyData} {n m n' m' : Nat} (h : Gq d n m) (h1 : n ≤ n') (h2 : m ≤ m') : Gq d n' m' := ⟨h.sh, h.lv, Nat.le_trans h.dep h1, Nat.le_trans h.bk h2⟩
theorem gq_int {n : Int} (h : n.natAbs < 10 ^ 40) : Gq (.int n) 0 0 := ⟨by simp [PyData.showable, log_big h], by simp [PyData.leavesShort, len_big h], by simp [PyData.depth], by simp [PyData.bulk]⟩
theorem gq_bool (b : Bool) : Gq (.bool b) 0 0 := ⟨by simp [PyData.showable], by simp [PyData.leavesShort], by simp [PyData.depth], by simp [PyData.bulk]⟩
theorem gq_none : Gq .none 0 0 := ⟨by simp [PyData.showable], by simp [PyData.leavesShort], by simp [PyData.depth], by simp [PyData.bulk]⟩
theorem gq_nil : Gq (.dict []) 1 0 := ⟨by simp [PyData.showable, PyData.showableKv], by simp [PyData.leavesShort, PyData.leavesShortKv], by simp [PyData.depth, PyData.depthKv], by simp [PyData.bulk, PyData.bulkKv]⟩
theorem gq_zero : Gq (.dict [(.int 0, .int 0)]) 1 2 := by
  have h1 := gq_int (n := 0) (by decide)
  refine ⟨by simp [PyData.showable, PyData.showableKv, h1.sh], ?_, by simp [PyData.depth, PyData.depthKv], by simp [PyData.bulk, PyData.bulkKv]⟩
  simp only [PyData.leavesShort, PyData.leavesShortKv, Bool.and_true, Bool.and_self]
  simpa [PyData.leavesShort] using h1.lv
theorem lv_all : ∀ {ds : List PyData}, PyData.leavesShortAll 41 ds = true ↔ ∀ e ∈ ds, e.leavesShort 41 = true
  | [] => by simp [PyData.leavesShortAll]
  | d :: ds => by simp [PyData.leavesShortAll, lv_all (ds := ds)]
theorem gq_tup {ds : List PyData} {n m : Nat} : Gq (.tuple ds) (n + 1) m ↔ (∀ e ∈ ds, Gq e n m) ∧ PyData.bulkAll ds ≤ m := by
  constructor
  · intro h
    have h2 := h.sh
    have h3 := h.lv
    have h4 := h.dep
    have h5 := h.bk
    simp only [PyData.showable] at h2
    simp only [PyData.leavesShort] at h3
    simp only [PyData.depth] at h4
    simp only [PyData.bulk] at h5
    exact ⟨fun e he => ⟨show_all.mp h2 e he, lv_all.mp h3 e he, depth_all.mp (by omega) e he, Nat.le_trans (bulk_mem he) h5⟩, h5⟩
  · rintro ⟨h, hb⟩
    refine ⟨?_, ?_, ?_, ?_⟩
    · simp only [PyData.showable]; exact show_all.mpr fun e he => (h e he).sh
    · simp only [PyData.leavesShort]; exact lv_all.mpr fun e he => (h e he).lv
    · have := depth_all.mpr fun e he => (h e he).dep
      simp only [PyData.depth]; omega
    · simp only [PyData.bulk]; exact hb
theorem gq_lst {ds : List PyData} {n m : Nat} : Gq (.list ds) (n + 1) m ↔ (∀ e ∈ ds, Gq e n m) ∧ PyData.bulkAll ds ≤ m := by
  have e1 : (PyData.list ds).showable = (PyData.tuple ds).showable := by simp only [PyData.showable]
  have e2 : (PyData.list ds).leavesShort 41 = (PyData.tuple ds).leavesShort 41 := by simp only [PyData.leavesShort]
  have e3 : (PyData.list ds).depth = (PyData.tuple ds).depth := by simp only [PyData.depth]
  have e4 : (PyData.list ds).bulk = (PyData.tuple ds).bulk := by simp only [PyData.bulk]
  constructor
  · rintro ⟨a, b, c, d⟩
    exact gq_tup.mp ⟨e1 ▸ a, e2 ▸ b, e3 ▸ c, e4 ▸ d⟩
  · intro h
    obtain ⟨a, b, c, d⟩ := gq_tup.mpr h
    exact ⟨e1 ▸ a, e2 ▸ b, e3 ▸ c, e4 ▸ d⟩
/-- what repr may write -/
structure ShowsQ (d : PyData) : Prop where
  h1 : d.showable = true
  h3 : d.depth ≤ 64
  h4 : d.shown.length ≤ sizeLine
theorem Gq.shows {d : PyData} {n m : Nat} (h : Gq d n m) (hn : n ≤ 64) (hm : m ≤ 200000) : ShowsQ d := by
  refine ⟨h.sh, Nat.le_trans h.dep hn, ?_⟩
  have z := PyData.shown_le_bulk 41 (by decide) d h.lv
  have z2 : (41 + 2) * d.bulk ≤ 43 * 200000 := Nat.mul_le_mul_left 43 (Nat.le_trans h.bk hm)
  rw [sizeLine_eq]; omega
section
variable {X : Cx} {pins : List (Addr × Obj)} {σ : L2.St} {H : Hp} {s : Shared}
theorem sys_none (I : Inv X pins σ H s) (S : ∃ o, X.K.lookup sysModules = some o) : H sysModules = none := by
  obtain ⟨o, e⟩ := S
  exact (I.bs _ _ (I.ok.mod.kin _ _ e)).2
theorem dct_reads {a : Addr} {kvs : List (Key × V)} {es : List (PyData × PyData)} (I : Inv X pins σ H s) (h : H a = some (.dK kvs)) (c : Dct kvs es) : ∃ as, Reads s.heap (.ref a) (.dict es) as ∧ sysModules ∉ as := by
  have ok := I.hok a _ h
  unfold ObjOk at ok
  obtain ⟨_, hm, vs, kv, o, en, ep, g1, g2, g3, g4, g5, g6⟩ := ok
  have na : a ≠ sysModules := fun z => by rw [z] at hm; simp at hm
  cases c with
  | nil =>
    have ev : vs = [] := by cases kv; rfl
    subst ev
    have ee : en.toList = [] := by
      generalize hx : en.toList = l at g5
      cases g5; rfl
    refine ⟨a :: [] ++ [], .dict (kvs := []) (as := []) (bs := []) g1 g2.1 g3 (by rw [ee]; exact .nil) (by rw [ee]; exact .nil), ?_⟩
    intro z
    exact na (List.mem_singleton.mp z).symm
  | one i j =>
    obtain ⟨k', v', ev, ek, rv⟩ : ∃ k' v', vs = [(k', v')] ∧ Sum.inl i = k' ∧ RelV (V.int j) v' := by
      cases kv with
      | cons r rest =>
        cases rest
        exact ⟨_, _, rfl, r.1, r.2⟩
    subst ev
    subst ek
    obtain ⟨t, rfl⟩ := rv
    obtain ⟨e1, ee, ke, ve⟩ : ∃ e1 : DictEntry, en.toList = [e1] ∧ keyIs (Sum.inl i) e1.key = true ∧ e1.val = Value.int j t := by
      generalize hx : en.toList = l at g5
      cases g5 with
      | cons r1 r2 rest =>
        cases rest
        exact ⟨_, rfl, r1, r2⟩
    obtain ⟨t2, kk⟩ : ∃ t2, e1.key = Value.int i t2 := by
      rcases keyIs_shape ke with ⟨i', t', z1, z2⟩ | ⟨x, t', z1, z2⟩
      · cases z1
        exact ⟨t', z2⟩
      · cases z1
    refine ⟨a :: ([] ++ []) ++ ([] ++ []), .dict (kvs := [(PyData.int i, PyData.int j)]) (as := [] ++ []) (bs := [] ++ []) g1 g2.1 g3 ?_ ?_, ?_⟩
    · rw [ee]
      show ReadsAll s.heap [e1.key] [PyData.int i] _
      rw [kk]
      exact .cons (.int i t2) .nil
    · rw [ee]
      show ReadsAll s.heap [e1.val] [PyData.int j] _
      rw [ve]
      exact .cons (.int j t) .nil
    · intro z
      exact na (List.mem_singleton.mp z).symm
mutual
theorem Dq.reads (I : Inv X pins σ H s) (S : ∃ o, X.K.lookup sysModules = some o) : ∀ (d : PyData) (v : V) (u : Value), Dq X.K H v d → RelV v u → ∃ as, Reads s.heap u d as ∧ sysModules ∉ as
  | .none, _, _, h, r => by
    cases h
    cases r
    exact ⟨_, Reads.none, by simp⟩
  | .bool b, _, _, h, r => by
    cases h
    cases r
    exact ⟨_, Reads.bool b, by simp⟩
  | .int i, _, _, h, r => by
    cases h
    obtain ⟨t, rfl⟩ := r
    exact ⟨_, Reads.int i t, by simp⟩
  | .str x, _, _, h, r => by
    cases h
    obtain ⟨t, rfl⟩ := r
    exact ⟨_, Reads.str x t, by simp⟩
  | .list ds, _, _, h, r => by
    cases h with
    | lst hs ha =>
      cases r
      have na : sysModules ≠ _ := fun z => by
        have q := sys_none I S
        rw [z, hs] at q
        cases q
      obtain ⟨its, rv, ⟨o, n, ho, hc, _, hd⟩, _⟩ := I.list (.inl (.inl hs))
      obtain ⟨as, hr, hn⟩ := Dq.readsAll I S ds _ its ha rv
      exact ⟨_, Reads.list ho hc hd hr, fun z => (List.mem_cons.mp z).elim na hn⟩
  | .tuple ds, _, _, h, r => by
    cases h with
    | tup hs ha =>
      cases r
      obtain ⟨its, rv, ⟨o, ho, hc, n, hd⟩, _⟩ := I.tuple hs
      obtain ⟨as, hr, hn⟩ := Dq.readsAll I S ds _ its ha rv
      exact ⟨_, Reads.tuple ho hc hd hr, hn⟩
  | .dict _, _, _, h, r => by
    cases h with
    | dct h1 h2 =>
      cases r
      exact dct_reads I h1 h2
theorem Dq.readsAll (I : Inv X pins σ H s) (S : ∃ o, X.K.lookup sysModules = some o) : ∀ (ds : List PyData) (vs : List V) (us : List Value), DqAll X.K H vs ds → Vals vs us → ∃ as, ReadsAll s.heap us ds as ∧ sysModules ∉ as
  | [], _, _, h, r => by
    cases h
    cases r
    exact ⟨_, ReadsAll.nil, by simp⟩
  | d :: ds, _, _, h, r => by
    cases h with
    | cons h1 h2 =>
      cases r with
      | cons r1 r2 =>
        obtain ⟨as, q1, n1⟩ := Dq.reads I S d _ _ h1 r1
        obtain ⟨bs, q2, n2⟩ := Dq.readsAll I S ds _ _ h2 r2
        exact ⟨_, ReadsAll.cons q1 q2, fun z => (List.mem_append.mp z).elim n1 n2⟩
end
/-- repr(x), x an object read as data, dicts among it -/
theorem call_reprQ (S : ∃ o, X.K.lookup sysModules = some o) (gd : X.A.guards = some []) (hu : X.A.units + 65 < cLine) : CallR X (.builtin "repr") (fun xs H Q => ∃ (a : Addr) (d : PyData), xs = [.ref a] ∧ Dq X.K H (.ref a) d ∧ ShowsQ d ∧ Q (.str d.shown) H) := by
  intro pins s σ H xs us Q I r h
  obtain ⟨a, d, rfl, hd, h1, q⟩ := h
  obtain ⟨u, rfl, ru⟩ := vals1 r
  cases ru
  obtain ⟨as, rd, hn⟩ := Dq.reads I S d (.ref a) (.ref a) hd rfl
  refine repr_of_reads' rd h1.h1 (fun _ => hn) gd (by have := h1.h3; omega) (fun _ _ z => z) (fun h' uu tk k => ?_) h1.h4
  exact ⟨.str d.shown, H, I.kept k, ⟨uu, rfl⟩, q⟩
end
end RV
set_option maxHeartbeats 4000000
namespace RV
open PySem PySem.Spec PyProof.Rows L2
/-- a list of tuples of ints, one that is written -/
def TLp (K : PySem.W.Frag) (H : Hp) (F : Addr) (Ls : List (List Int)) : Prop := ∃ ks : List (Addr × List Int), ks.map (·.2) = Ls ∧ H F = some (.lst (ks.map fun q => V.ref q.1)) ∧ ∀ q ∈ ks, SqT K H q.1 (q.2.map V.int)
theorem sqT_over {K : PySem.W.Frag} {H : Hp} {D : Addr} {vs : List V} {o' : HO} (e : H D = some (.lst vs)) {a : Addr} {xs : List V} (h : SqT K H a xs) : SqT K (upd H D o') a xs := by
  rcases h with (h | ⟨o, h⟩) | h
  · exact .inl (.inl (by rw [upd_ne (fun z => by rw [z, e] at h; cases h)]; exact h))
  · exact .inl (.inr ⟨o, by rw [upd_ne (fun z => by rw [z, e] at h; cases h)]; exact h⟩)
  · exact .inr h
theorem TLp.same {K : PySem.W.Frag} {H H' : Hp} {F : Addr} {Ls : List (List Int)} (h : TLp K H F Ls) (s : Same H H') : TLp K H' F Ls := by
  obtain ⟨ks, h1, h2, h3⟩ := h
  exact ⟨ks, h1, s _ _ h2, fun q hq => sqT_same s (h3 q hq)⟩
theorem TLp.nil {K : PySem.W.Frag} {H : Hp} {F : Addr} (h : H F = some (.lst [])) : TLp K H F [] := ⟨[], rfl, h, fun _ z => nomatch z⟩
theorem TLp.put {K : PySem.W.Frag} {H : Hp} {F t : Addr} {ks : List (Addr × List Int)} {w : List Int} (h2 : H F = some (.lst (ks.map fun q => V.ref q.1))) (h3 : ∀ q ∈ ks, SqT K H q.1 (q.2.map V.int)) (ht : SqT K H t (w.map V.int)) :
    TLp K (upd H F (.lst ((ks.map fun q => V.ref q.1) ++ [.ref t]))) F (ks.map (·.2) ++ [w]) := by
  refine ⟨ks ++ [(t, w)], by rw [List.map_append]; rfl, by rw [upd_same, List.map_append]; rfl, fun q hq => sqT_over h2 ?_⟩
  rcases List.mem_append.mp hq with z | z
  · exact h3 q z
  · rcases List.mem_singleton.mp z with rfl
    exact ht
theorem TLp.over {K : PySem.W.Frag} {H : Hp} {F D : Addr} {vs : List V} {o' : HO} {Ls : List (List Int)} (h : TLp K H F Ls) (e : H D = some (.lst vs)) (ne : F ≠ D) : TLp K (upd H D o') F Ls := by
  obtain ⟨ks, h1, h2, h3⟩ := h
  exact ⟨ks, h1, by rw [upd_ne ne]; exact h2, fun q hq => sqT_over e (h3 q hq)⟩
theorem TLp.len {K : PySem.W.Frag} {H : Hp} {F : Addr} {Ls : List (List Int)} (h : TLp K H F Ls) : ∃ xs : List V, H F = some (.lst xs) ∧ xs.length = Ls.length := by
  obtain ⟨ks, h1, h2, h3⟩ := h
  exact ⟨_, h2, by rw [← h1, List.length_map, List.length_map]⟩
theorem TLp.tups {K : PySem.W.Frag} {H : Hp} {F b : Addr} {Ls : List (List Int)} (h : TLp K H F Ls) (n : H b = none) : ∃ xs : List V, H F = some (.lst xs) ∧ Tups K (upd H b (.tup xs)) b Ls := by
  obtain ⟨ks, h1, h2, h3⟩ := h
  exact ⟨_, h2, ks, h1, tupNew upd_same, fun q hq => sqT_same (same_upd n) (h3 q hq)⟩
theorem dpAll_refs {K : PySem.W.Frag} {H : Hp} : ∀ ks : List (Addr × List Int), (∀ q ∈ ks, SqT K H q.1 (q.2.map V.int)) → DpAll K H (ks.map fun q => V.ref q.1) ((ks.map (·.2)).map dI)
  | [], _ => .nil
  | q :: r, h => .cons (dpT (h q (List.mem_cons_self ..))) (dpAll_refs r fun z hz => h z (List.mem_cons_of_mem _ hz))
theorem TLp.dp {K : PySem.W.Frag} {H : Hp} {F : Addr} {Ls : List (List Int)} (h : TLp K H F Ls) : Dp K H (.ref F) (.list (Ls.map dI)) := by
  obtain ⟨ks, h1, h2, h3⟩ := h
  subst h1
  exact .lst (lstNew h2) (dpAll_refs ks h3)
/-- [x for t in l for x in t] -/
theorem lc_flat {K : PySem.W.Frag} {σ : L2.St} {H1 : Hp} {a D : Addr} {vc vm : Nat} {ps : List (List Int)} {Qd : Hp → Prop} (hT : TLp K H1 a ps) (hl : ps.length ≤ 1000) (hp : ∀ p ∈ ps, p.length ≤ 100) (nD : H1 D = none) (lc : vc < σ.length) (lm : vm < σ.length) (ne : vc ≠ vm)
    (hd : ∀ H', Same H1 H' → H' D = some (.lst (ps.flatten.map V.int)) → Qd H') :
    ∃ W : Nat → Nat → Hp → Prop, (∃ m, W 0 m (upd H1 D (.lst []))) ∧ ∀ i m H, W i m H →
      ((Itl K a).stop i H ∧ Qd H) ∨ ((Itl K a).go i H ∧ ∃ Nx : Hp → Prop, (∀ H', Nx H' → ∃ m', m' < m ∧ W (i + 1) m' H') ∧ ∀ x H', (Itl K a).yld i H x H' → gName vc x (wipe σ [vc, vm]) H' fun σ2 H2 => wipe σ2 [vc, vm] = wipe σ [vc, vm] ∧ tYes σ2 H2 fun b H3 =>
        if b = true then iTup K (tVar vc) σ2 H3 fun J1 H4 => ∃ W1 : Nat → Nat → Hp → Prop, (∃ m, W1 0 m H4) ∧ ∀ j k H, W1 j k H →
          (J1.stop j H ∧ Nx H) ∨ (J1.go j H ∧ ∃ Nx1 : Hp → Prop, (∀ H', Nx1 H' → ∃ k', k' < k ∧ W1 (j + 1) k' H') ∧ ∀ x H', J1.yld j H x H' → gName vm x (wipe σ2 [vm]) H' fun σ3 H5 => wipe σ3 [vm] = wipe σ2 [vm] ∧ tYes σ3 H5 fun b H6 =>
            if b = true then tVar vm σ3 H6 fun y H7 => ∃ acc, H7 D = some (.lst acc) ∧ acc.length < sizeLine ∧ Nx1 (upd H7 D (.lst (acc ++ [y]))) else Nx1 H6)
        else Nx H3) := by
  obtain ⟨ks, rfl, h2, h3⟩ := hT
  rw [List.length_map] at hl
  have short : ∀ l : List (Addr × List Int), (∀ q ∈ l, q.2.length ≤ 100) → ((l.map (·.2)).flatten).length ≤ l.length * 100 := by
    intro l
    induction l with
    | nil => intro _; simp
    | cons q r ih =>
      intro h
      have h1 := h q (List.mem_cons_self ..)
      have h2 := ih fun z hz => h z (List.mem_cons_of_mem _ hz)
      simp only [List.map_cons, List.flatten_cons, List.length_append, List.length_cons]
      omega
  have hq : ∀ q ∈ ks, q.2.length ≤ 100 := fun q z => hp q.2 (List.mem_map.mpr ⟨q, z, rfl⟩)
  have hL : ∀ H', Same H1 H' → SqL K H' a (ks.map fun q => V.ref q.1) := fun H' s => lstNew (s _ _ h2)
  refine ⟨fun i m H => m = ks.length - i ∧ i ≤ ks.length ∧ Same H1 H ∧ H D = some (.lst ((((ks.take i).map (·.2)).flatten).map V.int)), ⟨ks.length, by simp, Nat.zero_le _, same_upd nD, upd_same⟩, ?_⟩
  rintro i m H ⟨rfl, hi, s1, e1⟩
  by_cases hlt : i < ks.length
  · have eg : ks[i]? = some ks[i] := List.getElem?_eq_getElem hlt
    refine .inr ⟨⟨_, V.ref ks[i].1, hL H s1, by rw [List.getElem?_map, eg]; rfl⟩, fun H' => Same H1 H' ∧ H' D = some (.lst ((((ks.take (i + 1)).map (·.2)).flatten).map V.int)), fun H' p => ⟨ks.length - (i + 1), by omega, rfl, hlt, p.1, p.2⟩, fun x H' y => ?_⟩
    obtain ⟨rfl, y⟩ := y
    have ex := y _ (hL _ s1)
    rw [List.getElem?_map, eg] at ex
    cases ex
    refine nx_step ?_
    have hT1 : SqT K H' ks[i].1 (ks[i].2.map V.int) := sqT_same s1 (h3 _ (List.getElem_mem hlt))
    refine ⟨?_, tt_yes ⟨.ref ks[i].1, ?_, ks[i].1, rfl, ⟨_, hT1⟩, ?_⟩⟩
    · simp [wipe, List.set_set, List.set_comm, ne]
    · simp [wipe, lc, lm, ne, ne.symm]
    have e2 : (((ks.take (i + 1)).map (·.2)).flatten) = ((ks.take i).map (·.2)).flatten ++ ks[i].2 := by
      rw [List.take_add_one, eg, List.map_append, List.flatten_append]
      simp
    have hlen : (((ks.take i).map (·.2)).flatten).length ≤ 100000 := by
      have := short (ks.take i) fun q z => hq q (List.mem_of_mem_take z)
      have h4 : (ks.take i).length ≤ 1000 := by rw [List.length_take]; omega
      omega
    have hlen2 := hq _ (List.getElem_mem hlt)
    refine ⟨fun j k H2 => k = ks[i].2.length - j ∧ j ≤ ks[i].2.length ∧ Same H1 H2 ∧ H2 D = some (.lst ((((ks.take i).map (·.2)).flatten ++ ks[i].2.take j).map V.int)), ⟨_, rfl, Nat.zero_le _, s1, by rw [List.take_zero, List.append_nil]; exact e1⟩, ?_⟩
    rintro j k H2 ⟨rfl, hj, s2, f1⟩
    have hT2 : SqT K H2 ks[i].1 (ks[i].2.map V.int) := sqT_same s2 (h3 _ (List.getElem_mem hlt))
    by_cases hjt : j < ks[i].2.length
    · have ej : ks[i].2[j]? = some ks[i].2[j] := List.getElem?_eq_getElem hjt
      refine .inr ⟨⟨_, V.int ks[i].2[j], hT2, by rw [List.getElem?_map, ej]; rfl⟩, fun H' => Same H1 H' ∧ H' D = some (.lst ((((ks.take i).map (·.2)).flatten ++ ks[i].2.take (j + 1)).map V.int)), fun H' p => ⟨_, by omega, rfl, hjt, p.1, p.2⟩, fun x H3 y => ?_⟩
      obtain ⟨rfl, y⟩ := y
      have ex := y _ hT2
      rw [List.getElem?_map, ej] at ex
      cases ex
      refine nx_step ?_
      refine ⟨by simp [wipe, List.set_set], tt_yes ⟨.int ks[i].2[j], ?_, _, f1, ?_, fun b o z => ?_, ?_⟩⟩
      · simp [wipe, lc, lm, ne, ne.symm]
      · rw [List.length_map, List.length_append, List.length_take, sizeLine_eq]; omega
      · rw [upd_ne (ne_of_none z nD)]; exact s2 b o z
      · rw [upd_same, List.take_add_one, ej, ← List.append_assoc, List.map_append (l₁ := _ ++ _)]; rfl
    · have e3 : ks[i].2.take j = ks[i].2 := List.take_of_length_le (Nat.le_of_not_lt hjt)
      refine .inl ⟨⟨_, hT2, by rw [List.length_map]; exact Nat.le_of_not_lt hjt⟩, s2, ?_⟩
      rw [e2, f1, e3]
  · have e : i = ks.length := by omega
    subst e
    refine .inl ⟨⟨_, hL H s1, by rw [List.length_map]; exact Nat.le_refl _⟩, hd H s1 ?_⟩
    rw [e1, List.take_of_length_le (Nat.le_refl _)]
/-! ### tuples of two, compared -/
theorem le_pair {u v x y : Int} (h : HT.lexLt [u, v] [x, y] = true) : Ob.lexAt (fun j => decide ([x, y].getD j 0 = [u, v].getD j 0)) (fun j => decide ([x, y].getD j 0 ≤ [u, v].getD j 0)) (decide ([x, y].length ≤ [u, v].length)) 0 (min [x, y].length [u, v].length) = false := by
  have h1 : (if u = x then (if v = y then false else decide (v < y)) else decide (u < x)) = true := h
  show (if decide (x = u) = true then (if decide (y = v) = true then _ else decide (y ≤ v)) else decide (x ≤ u)) = false
  by_cases e : u = x
  · subst e
    rw [if_pos rfl] at h1
    by_cases e2 : v = y
    · rw [if_pos e2] at h1; cases h1
    · rw [if_neg e2] at h1
      have h2 := of_decide_eq_true h1
      rw [if_pos (by simp), if_neg (by simp; omega)]
      simp; omega
  · rw [if_neg e] at h1
    have h2 := of_decide_eq_true h1
    rw [if_neg (by simp; omega)]
    simp; omega
end RV
set_option maxHeartbeats 4000000
namespace K53
open PySem PySem.Spec PyProof.Rows L2 RV TL
inductive All2 {α β : Type} (R : α → β → Prop) : List α → List β → Prop
  | nil : All2 R [] []
  | cons {a : α} {b : β} {as : List α} {bs : List β} : R a b → All2 R as bs → All2 R (a :: as) (b :: bs)
theorem All2.mono {α β : Type} {R S : α → β → Prop} (k : ∀ a b, R a b → S a b) : ∀ {as : List α} {bs : List β}, All2 R as bs → All2 S as bs
  | _, _, .nil => .nil
  | _, _, .cons h t => .cons (k _ _ h) (t.mono k)
theorem All2.snoc {α β : Type} {R : α → β → Prop} {a : α} {b : β} (h : R a b) : ∀ {as : List α} {bs : List β}, All2 R as bs → All2 R (as ++ [a]) (bs ++ [b])
  | _, _, .nil => .cons h .nil
  | _, _, .cons g t => .cons g (t.snoc h)
theorem All2.len {α β : Type} {R : α → β → Prop} : ∀ {as : List α} {bs : List β}, All2 R as bs → as.length = bs.length
  | _, _, .nil => rfl
  | _, _, .cons _ t => by rw [List.length_cons, List.length_cons, t.len]
theorem All2.at {α β : Type} {R : α → β → Prop} : ∀ {as : List α} {bs : List β}, All2 R as bs → ∀ {i : Nat} {a : α} {b : β}, as[i]? = some a → bs[i]? = some b → R a b
  | _, _, .nil, _, _, _, h, _ => by cases h
  | _, _, .cons h t, 0, _, _, e1, e2 => by cases e1; cases e2; exact h
  | _, _, .cons h t, i + 1, _, _, e1, e2 => t.at (i := i) e1 e2
theorem take_map_next {α β : Type} {f : α → β} {l : List α} {i : Nat} {x : α} (h : l[i]? = some x) : (l.take (i + 1)).map f = (l.take i).map f ++ [f x] := by
  rw [List.take_add_one, h, List.map_append]; rfl
theorem OptR.over {K : PySem.W.Frag} {H : Hp} {D : Addr} {vs : List V} {o : HO} {v : V} {r : Option (Int × List Int)} (h : OptR K H v r) (e : H D = some (.lst vs)) : OptR K (upd H D o) v r := h.imp id fun ⟨k, e1, e2, h⟩ => ⟨k, e1, e2, sqT_over e h.1, sqT_over e h.2⟩
theorem PairV.over {K : PySem.W.Frag} {H : Hp} {D : Addr} {vs : List V} {o : HO} {v : V} {r : Option (List Nat)} (h : PairV K H v r) (e : H D = some (.lst vs)) : PairV K (upd H D o) v r := h.imp id fun ⟨t, ns, e1, e2, h⟩ => ⟨t, ns, e1, e2, sqT_over e h⟩
theorem OptR.isN {K : PySem.W.Frag} {H : Hp} {v : V} {r : Option (Int × List Int)} (h : OptR K H v r) : decide (v = .non) = r.isNone := by
  rcases h with ⟨rfl, rfl⟩ | ⟨k, rfl, rfl, _⟩
  · exact decide_eq_true rfl
  · exact decide_eq_false (fun z => by cases z)
theorem optRs {K : PySem.W.Frag} {H : Hp} : ∀ {vs : List V} {xs : List (Int × List Int)}, All2 (OptR K H) vs (xs.map some) → ∃ ks : List Rk, vs = ks.map (fun k => V.ref k.1) ∧ ks.map valR = xs ∧ ∀ k ∈ ks, RunOk K H k
  | _, [], .nil => ⟨[], rfl, rfl, fun _ w => nomatch w⟩
  | _, x :: xs, .cons h t => by
    obtain ⟨ks, rfl, rfl, h3⟩ := optRs t
    rcases h with ⟨_, e⟩ | ⟨k, rfl, e, h⟩
    · cases e
    · cases e
      exact ⟨k :: ks, rfl, rfl, fun q hq => (List.mem_cons.mp hq).elim (fun e => by rw [e]; exact h) (h3 q)⟩
theorem any_none {α : Type} (rs : List (Option α)) : (rs.map fun r => r.isNone).any id = true ↔ allSome rs = none := by
  rw [allSome_none, List.any_eq_true]
  constructor
  · rintro ⟨b, hb, e⟩
    obtain ⟨r, hr, rfl⟩ := List.mem_map.mp hb
    cases r with
    | none => exact hr
    | some _ => cases e
  · intro h
    exact ⟨true, List.mem_map.mpr ⟨none, h, rfl⟩, rfl⟩
/-- of numbers a pair -/
def twoF (r : Option (List Nat)) : Option (List Int) := match r with
  | some ns => if ns.length = 2 then some (ns.map fun (i : Nat) => (i : Int)) else none
  | none => none
theorem pairF_two (w : Str) : pairF w = twoF (numsF (Txt.split w slash)) := by unfold pairF twoF; cases numsF (Txt.split w slash) <;> rfl
theorem pairVs {K : PySem.W.Frag} {H : Hp} : ∀ {vs : List V} {rs : List (Option (List Nat))} {xs : List (List Int)}, All2 (PairV K H) vs rs → rs.map twoF = xs.map some → ∃ ks : List (Addr × List Int), vs = ks.map (fun k => V.ref k.1) ∧ ks.map (·.2) = xs ∧ ∀ k ∈ ks, SqT K H k.1 (k.2.map V.int)
  | _, _, xs, .nil, e => by
    cases xs with
    | nil => exact ⟨[], rfl, rfl, fun _ w => nomatch w⟩
    | cons _ _ => cases e
  | _, _, xs, .cons (b := r) h t, e => by
    cases xs with
    | nil => cases e
    | cons x xs =>
      rw [List.map_cons, List.map_cons] at e
      injection e with e1 e2
      obtain ⟨ks, rfl, rfl, h3⟩ := pairVs t e2
      rcases h with ⟨_, rfl⟩ | ⟨t, ns, rfl, rfl, h⟩
      · cases e1
      · have e1 : (if ns.length = 2 then some (ns.map fun (i : Nat) => (i : Int)) else none) = some x := e1
        split at e1
        · cases e1
          exact ⟨(t, _) :: ks, rfl, rfl, fun q hq => (List.mem_cons.mp hq).elim (fun e => by rw [e]; exact h) (h3 q)⟩
        · cases e1
section
variable {P : Program} {w : World} {K : PySem.W.Frag} {mg : Str → Option Value} {base : Heap} {t1 t2 t3 t4 : Tok}
variable {fNI fNs fMI fRI fA fM fW : Addr} {dNI dNs dMI dRI dA dM dW : FuncData}
/-! ### read_ring of anything -/
abbrev nRR : List Str := ["text", "runs", "word", "run"]
theorem scRR : FnScope nRR ["text"] (defScope sReadRing) := ⟨rfl, rfl, rfl, by decide +kernel, rfl, by decide +kernel, by decide +kernel⟩
def spRR (K : PySem.W.Frag) (CN : Addr) : Sp := fun vs H Q E => ∃ v : V, vs = [v] ∧ ((∃ z : Str, v = .str z ∧ z.length ≤ 900 ∧ (ringF z = none → Ref CN 0 H E) ∧ ∀ rs, ringF z = some rs → ∀ (a : Addr) H', Same H H' → RingAt K H' a rs → Q (.ref a) H') ∨ ∃ d : PyData, Dq K H v d ∧ isiD d "str" = false ∧ Ref CN 0 H E)
theorem ok_rr {f fX CN cda cc : Addr} {fd fdX : FuncData} (F : Fun K "read_ring" "read_ring" sReadRing f fd) (N : NRule P K mg CN fX cda cc fdX) (R : RD K mg fNI fNs fMI fRI fA fM fW dNI dNs dMI dRI dA dM dW) (B : Bare mg) (G : RG mg t1 t2 t3 t4) : FnOk P w K mg base (L2.CX P w) 6 f fd ["text"] (spRR K CN) := by
  have GR : FnOk P w K mg base CX0 4 fRI dRI ["word"] (spRIA K) := ok_ria R B G
  have GX : FnOk P w K mg base CX0 1 fX fdX ["self", "row"] (spNR CN) := ok_nr N
  refine F.okX scRR (fun vs H Q E h => ?_) (fun cdv A outer s H vs Q E hr h => ?_)
  · obtain ⟨v, rfl, _⟩ := h
    rfl
  · obtain ⟨v, rfl, hv⟩ := h
    have r2 := hr.mono (show 2 ≤ 5 by decide)
    have r4 := hr.mono (show 4 ≤ 5 by decide)
    refine ⟨_, pss_cons (ps_if (pt_not (pt_val (pe_callB call_isi (by rfl) B.isinstance (by decide +kernel) (pa_cons (pv 0) (pa_cons (pe_bltn (v := .ty "str") (by rfl) B.str (by decide +kernel) rfl) pa_nil))))) (pss_one (ps_raise rfl (takes_of rfl rfl rfl rfl) (pmk_oex N.T N.ini N.ty GX r2 N.bi .nil pass0 (by rfl) N.g (pa_cons pe_int pa_nil)))) pss_nil)
      (pss_cons (ps_setLc (i := 1) (own := [("word", 2)]) (g := gName 2) (tt := tYes) rfl scRR.nd rfl rfl (by rfl) (pi_list (pe_split (pv 0) pe_str)) (blkOk_by (N := nRR) (sc := defScope sReadRing) (by decide +kernel)) (fun _ _ _ _ _ => pg_name (i := 2) scRR.nd rfl (Or.inl rfl)) (fun _ _ _ _ _ => pts_nil)
          (fun _ _ _ _ _ => pe_call GR r4 (by rfl) R.ri.mg R.ri.fn.kp R.ri.bi .nil pass0 (pa_cons (pv 2) pa_nil)))
      (pss_cons (ps_if (pt_val (pe_callB (cr_any rfl) (by rfl) B.any (by decide +kernel) (pa_cons (pe_lc (own := [("run", 3)]) (g := gName 3) (tt := tYes) rfl scRR.nd (pi_list (pv 1)) (blkOk_by (N := nRR) (sc := defScope sReadRing) (by decide +kernel)) (fun _ _ _ _ _ => pg_name (i := 3) scRR.nd rfl (Or.inl rfl)) (fun _ _ _ _ _ => pts_nil)
          (fun _ _ _ _ _ => pe_cmpR op_isN (pv 3) pe_non (nomark _))) pa_nil))) (pss_one (ps_raise rfl (takes_of rfl rfl rfl rfl) (pmk_oex N.T N.ini N.ty GX r2 N.bi .nil pass0 (by rfl) N.g (pa_cons pe_int pa_nil)))) pss_nil)
      (pss_one (ps_ret (pe_tupleOf (by rfl) B.tuple (pv 1)))))), ?_⟩
    rcases hv with ⟨z, rfl, lz, qE, q⟩ | ⟨d, hd, no, rE⟩
    case inr =>
      refine ⟨v, rfl, v, .ty "str", _, _, _, rfl, .ty "str", tyQ hd, kit_D (.inr (.inr (.inr rfl))), _, rfl, ?_⟩
      rw [no]
      exact iteT (raised (i := 0) (by decide) rE)
    refine ⟨.str z, rfl, .str z, .ty "str", _, _, true, rfl, .ty "str", .base (.str _), kit_ty (by decide +kernel), true, rfl, iteF ?_⟩
    unfold tNext
    dsimp only
    have zz : sizeLine ≥ 100000 := by rw [sizeLine_eq]; decide
    have cz := cut_sp z
    have lrow := cz.len
    refine ⟨.str z, rfl, ⟨_, rfl⟩, z, sp1, rfl, rfl, by decide +kernel, by omega, fun la nla => ?_⟩
    unfold ringF at qE q
    have short : ∀ y ∈ Txt.split z sp1, y.length ≤ 900 := fun y hy => by have := cz.short hy; omega
    generalize Txt.split z sp1 = ws at cz lrow qE q short ⊢
    have ela : (upd H la (.lst (ws.map V.str))) la = some (.lst (ws.map V.str)) := upd_same
    have sla := same_upd (o := .lst (ws.map V.str)) nla
    generalize upd H la (.lst (ws.map V.str)) = H1 at ela sla ⊢
    refine ⟨la, rfl, ⟨_, lstNew ela⟩, fun D nD => ?_⟩
    refine lc_list (K := K) (a := la) (xs := ws.map V.str) (fun i H' => Same H1 H' ∧ ∃ vs : List V, H' D = some (.lst vs) ∧ All2 (OptR K H') vs ((ws.take i).map runF))
      ⟨same_upd nD, [], upd_same, .nil⟩ (fun i H' _ p => lstNew (p.1 _ _ ela)) (fun i x H' hx p => ?_) fun H2 p => ?_
    · obtain ⟨s1, vs, e1, e2⟩ := p
      obtain ⟨y, g, rfl⟩ := map_at hx
      have hi : i < ws.length := (List.getElem?_eq_some_iff.mp g).1
      have hlen : vs.length ≤ 1000 := by
        have := e2.len
        rw [List.length_map, List.length_take] at this
        omega
      refine ⟨rfl, tt_yes ⟨.str y, rfl, y, rfl, short y (List.mem_of_getElem? g), fun v H3 s3 hv => ⟨vs, s3 _ _ e1, by omega, fun b o w => ?_, vs ++ [v], upd_same, ?_⟩⟩⟩
      · rw [upd_ne (ne_of_none w nD)]; exact s3 _ _ (s1 b o w)
      · rw [take_map_next g]
        exact ((e2.mono fun _ _ h => h.same s3).snoc hv).mono fun _ _ h => h.over (s3 _ _ e1)
    · rw [List.length_map, List.take_of_length_le (Nat.le_refl _)] at p
      obtain ⟨s2, vs, e1, e2⟩ := p
      have lk : vs.length = ws.length := by rw [e2.len, List.length_map]
      have s12 := sla.trans s2
      refine nx_step ?_
      refine ⟨.ref D, rfl, D, rfl, ⟨_, lstNew e1⟩, fun D2 nD2 => ?_⟩
      refine lc_mapV (ys := ((ws.map runF).map fun r => r.isNone).map V.bl) (lstNew e1) (by omega) (by rw [List.length_map, List.length_map, List.length_map]; exact lk.symm) nD2 (fun i x y hx hy H' Q' s' q1 => ?_) fun H3 s3 e4 => ?_
      · obtain ⟨b, gb, rfl⟩ := map_at hy
        obtain ⟨r, gr, rfl⟩ := map_at gb
        refine ⟨_, rfl, rfl, ?_⟩
        rw [(e2.at hx gr).isN]
        exact q1 H' (Same.refl H')
      refine ⟨D2, _, rfl, lstNew e4, ?_⟩
      cases e5 : ((ws.map runF).map fun r => r.isNone).any id with
      | true =>
        exact ⟨true, rfl, iteT (raised (i := 0) (by decide) ((qE ((any_none _).mp e5)).same (s12.trans s3)))⟩
      | false =>
        refine ⟨false, rfl, iteF ?_⟩
        try unfold tNext
        dsimp only
        cases e6 : allSome (ws.map runF) with
        | none => rw [(any_none _).mpr e6] at e5; cases e5
        | some rs =>
          have e7 := allSome_some.mp e6
          rw [e7] at e2
          obtain ⟨ks, rfl, rfl, h3⟩ := optRs e2
          refine ⟨.ref D, rfl, .inl ⟨D, _, rfl, lstNew (s3 _ _ e1), fun b nb => ?_⟩⟩
          have sb := same_upd (o := .tup (ks.map fun k => V.ref k.1)) nb
          exact q _ e6 b _ ((s12.trans s3).trans sb) ⟨ks, rfl, tupNew upd_same, fun k hk => ((h3 k hk).same s3).same sb⟩
/-! ### read_plan of anything -/
abbrev nRP : List Str := ["text", "pairs", "word", "pair"]
theorem scRP : FnScope nRP ["text"] (defScope sReadPlan) := ⟨rfl, rfl, rfl, by decide +kernel, rfl, by decide +kernel, by decide +kernel⟩
def spRP (K : PySem.W.Frag) (CN : Addr) : Sp := fun vs H Q E => ∃ v : V, vs = [v] ∧ ((∃ z : Str, v = .str z ∧ z.length ≤ 900 ∧ (planF z = none → Ref CN 0 H E) ∧ ∀ ps, planF z = some ps → ∀ (a : Addr) H', Same H H' → Tups K H' a ps → Q (.ref a) H') ∨ ∃ d : PyData, Dq K H v d ∧ isiD d "str" = false ∧ Ref CN 0 H E)
theorem ok_rp {f fX CN cda cc : Addr} {fd fdX : FuncData} (F : Fun K "read_plan" "read_plan" sReadPlan f fd) (N : NRule P K mg CN fX cda cc fdX) (R : RD K mg fNI fNs fMI fRI fA fM fW dNI dNs dMI dRI dA dM dW) (B : Bare mg) (G : RG mg t1 t2 t3 t4) : FnOk P w K mg base (L2.CX P w) 6 f fd ["text"] (spRP K CN) := by
  have GN : FnOk P w K mg base CX0 2 fNs dNs ["words"] (spNsA K) := ok_nsa R.ns.fn R.ni B G.mS G.mF
  have GX : FnOk P w K mg base CX0 1 fX fdX ["self", "row"] (spNR CN) := ok_nr N
  refine F.okX scRP (fun vs H Q E h => ?_) (fun cdv A outer s H vs Q E hr h => ?_)
  · obtain ⟨v, rfl, _⟩ := h
    rfl
  · obtain ⟨v, rfl, hv⟩ := h
    have r2 := hr.mono (show 2 ≤ 5 by decide)
    refine ⟨_, pss_cons (ps_if (pt_not (pt_val (pe_callB call_isi (by rfl) B.isinstance (by decide +kernel) (pa_cons (pv 0) (pa_cons (pe_bltn (v := .ty "str") (by rfl) B.str (by decide +kernel) rfl) pa_nil))))) (pss_one (ps_raise rfl (takes_of rfl rfl rfl rfl) (pmk_oex N.T N.ini N.ty GX r2 N.bi .nil pass0 (by rfl) N.g (pa_cons pe_int pa_nil)))) pss_nil)
      (pss_cons (ps_if (pt_cmpR op_eq (pv 0) (pe_glob (v := .str dash) rfl G.mN ⟨_, rfl⟩) (nomark _)) (pss_one (ps_ret (pe_tup pa_nil))) pss_nil)
      (pss_cons (ps_setLc (i := 1) (own := [("word", 2)]) (g := gName 2) (tt := tYes) rfl scRP.nd rfl rfl (by rfl) (pi_list (pe_split (pv 0) pe_str)) (blkOk_by (N := nRP) (sc := defScope sReadPlan) (by decide +kernel)) (fun _ _ _ _ _ => pg_name (i := 2) scRP.nd rfl (Or.inl rfl)) (fun _ _ _ _ _ => pts_nil)
          (fun _ _ _ _ _ => pe_call GN r2 (by rfl) R.ns.mg R.ns.fn.kp R.ns.bi .nil pass0 (pa_cons (pe_split (pv 2) pe_str) pa_nil)))
      (pss_cons (ps_if (pt_val (pe_callB (cr_any rfl) (by rfl) B.any (by decide +kernel) (pa_cons (pe_lc (own := [("pair", 3)]) (g := gName 3) (tt := tYes) rfl scRP.nd (pi_list (pv 1)) (blkOk_by (N := nRP) (sc := defScope sReadPlan) (by decide +kernel)) (fun _ _ _ _ _ => pg_name (i := 3) scRP.nd rfl (Or.inl rfl)) (fun _ _ _ _ _ => pts_nil)
          (fun _ _ _ _ _ => pe_or (pe_cmpR op_isN (pv 3) pe_non (nomark _)) (pe_one (pe_cmpR op_ne (pe_callB (call_lenK (K := K) rfl) (by rfl) B.len PySem.boot_len (pa_cons (pv 3) pa_nil)) pe_int (nomark _))))) pa_nil))) (pss_one (ps_raise rfl (takes_of rfl rfl rfl rfl) (pmk_oex N.T N.ini N.ty GX r2 N.bi .nil pass0 (by rfl) N.g (pa_cons pe_int pa_nil)))) pss_nil)
      (pss_one (ps_ret (pe_tupleOf (by rfl) B.tuple (pv 1))))))), ?_⟩
    rcases hv with ⟨z, rfl, lz, qE, q⟩ | ⟨d, hd, no, rE⟩
    case inr =>
      refine ⟨v, rfl, v, .ty "str", _, _, _, rfl, .ty "str", tyQ hd, kit_D (.inr (.inr (.inr rfl))), _, rfl, ?_⟩
      rw [no]
      exact iteT (raised (i := 0) (by decide) rE)
    refine ⟨.str z, rfl, .str z, .ty "str", _, _, true, rfl, .ty "str", .base (.str _), kit_ty (by decide +kernel), true, rfl, iteF ?_⟩
    unfold tNext
    dsimp only
    have zz : sizeLine ≥ 100000 := by rw [sizeLine_eq]; decide
    refine ⟨.str z, rfl, rfl, _, rfl, ?_⟩
    unfold planF at qE q
    by_cases e : z = dash
    · rw [decide_eq_true (congrArg V.str e)]
      rw [if_pos e] at q
      exact iteT ⟨by show 0 ≤ sizeLine; omega, fun c nc => q [] rfl c _ (same_upd nc) ⟨[], rfl, tupNew upd_same, fun _ w => nomatch w⟩⟩
    rw [if_neg e] at qE q
    rw [decide_eq_false (fun y => e (V.str.inj y))]
    refine iteF ?_
    try unfold tNext
    dsimp only
    have cz := cut_sp z
    have lrow := cz.len
    refine ⟨.str z, rfl, ⟨_, rfl⟩, z, sp1, rfl, rfl, by decide +kernel, by omega, fun la nla => ?_⟩
    have short : ∀ y ∈ Txt.split z sp1, y.length ≤ 900 := fun y hy => by have := cz.short hy; omega
    generalize Txt.split z sp1 = ws at cz lrow qE q short ⊢
    have ela : (upd H la (.lst (ws.map V.str))) la = some (.lst (ws.map V.str)) := upd_same
    have sla := same_upd (o := .lst (ws.map V.str)) nla
    generalize upd H la (.lst (ws.map V.str)) = H1 at ela sla ⊢
    refine ⟨la, rfl, ⟨_, lstNew ela⟩, fun D nD => ?_⟩
    have e2f : ws.map pairF = (ws.map fun y => numsF (Txt.split y slash)).map twoF := by rw [List.map_map]; exact List.map_congr_left fun y _ => pairF_two y
    refine lc_list (K := K) (a := la) (xs := ws.map V.str) (fun i H' => Same H1 H' ∧ ∃ vs : List V, H' D = some (.lst vs) ∧ All2 (PairV K H') vs ((ws.take i).map fun y => numsF (Txt.split y slash)))
      ⟨same_upd nD, [], upd_same, .nil⟩ (fun i H' _ p => lstNew (p.1 _ _ ela)) (fun i x H' hx p => ?_) fun H2 p => ?_
    · obtain ⟨s1, vs, e1, e2⟩ := p
      obtain ⟨y, g, rfl⟩ := map_at hx
      have hi : i < ws.length := (List.getElem?_eq_some_iff.mp g).1
      have hlen : vs.length ≤ 1000 := by
        have := e2.len
        rw [List.length_map, List.length_take] at this
        omega
      have ly := short y (List.mem_of_getElem? g)
      have cy := cut_slash y
      refine ⟨rfl, tt_yes ⟨.str y, rfl, ⟨_, rfl⟩, y, slash, rfl, rfl, by decide +kernel, by omega, fun A nA => ?_⟩⟩
      have sA := same_upd (o := .lst ((Txt.split y slash).map V.str)) nA
      refine ⟨A, _, rfl, lstNew upd_same, by have := cy.len; omega, fun u hu => by have := cy.short hu; omega, fun v H3 s3' hv => ?_⟩
      have s3 := sA.trans s3'
      refine ⟨vs, s3 _ _ e1, by omega, fun b o w => ?_, vs ++ [v], upd_same, ?_⟩
      · rw [upd_ne (ne_of_none w nD)]; exact s3 _ _ (s1 b o w)
      · rw [take_map_next g]
        exact ((e2.mono fun _ _ h => h.same s3).snoc hv).mono fun _ _ h => h.over (s3 _ _ e1)
    · rw [List.length_map, List.take_of_length_le (Nat.le_refl _)] at p
      obtain ⟨s2, vs, e1, e2⟩ := p
      have lk : vs.length = ws.length := by rw [e2.len, List.length_map]
      have s12 := sla.trans s2
      rw [e2f] at qE q
      generalize (ws.map fun y => numsF (Txt.split y slash)) = rs at e2 qE q
      have lr : rs.length = vs.length := e2.len.symm
      refine nx_step ?_
      refine ⟨.ref D, rfl, D, rfl, ⟨_, lstNew e1⟩, fun D2 nD2 => ?_⟩
      refine lc_mapV (ys := ((rs.map twoF).map fun r => r.isNone).map V.bl) (lstNew e1) (by omega) (by rw [List.length_map, List.length_map, List.length_map]; exact lr) nD2 (fun i x y hx hy H' Q' s' q1 => ?_) fun H3 s3 e4 => ?_
      · obtain ⟨b, gb, rfl⟩ := map_at hy
        obtain ⟨r', gr', rfl⟩ := map_at gb
        obtain ⟨r, gr, rfl⟩ := map_at gr'
        rcases (e2.at hx gr).same s' with ⟨rfl, rfl⟩ | ⟨t, ns, rfl, rfl, hT⟩
        · exact ⟨.non, rfl, rfl, true, rfl, iteT (q1 H' (Same.refl H'))⟩
        · refine ⟨.ref t, rfl, rfl, false, rfl, iteF ⟨.ref t, rfl, t, _, rfl, .inr hT, rfl, ?_⟩⟩
          have e : (!decide (V.int ((((ns.map fun (n : Nat) => (n : Int)).map V.int).length : Nat) : Int) = V.int 2)) = (twoF (some ns)).isNone := by
            rw [List.length_map, List.length_map]
            by_cases l2 : ns.length = 2
            · rw [l2, decide_eq_true (show V.int ((2 : Nat) : Int) = V.int 2 from rfl)]
              show false = (if ns.length = 2 then some _ else none : Option (List Int)).isNone
              rw [if_pos l2]; rfl
            · rw [decide_eq_false (fun y => l2 (by have := V.int.inj y; omega))]
              show true = (if ns.length = 2 then some _ else none : Option (List Int)).isNone
              rw [if_neg l2]; rfl
          have z := q1 H' (Same.refl H')
          rw [← e] at z
          exact z
      refine ⟨D2, _, rfl, lstNew e4, ?_⟩
      cases e5 : ((rs.map twoF).map fun r => r.isNone).any id with
      | true =>
        exact ⟨true, rfl, iteT (raised (i := 0) (by decide) ((qE ((any_none _).mp e5)).same (s12.trans s3)))⟩
      | false =>
        refine ⟨false, rfl, iteF ?_⟩
        try unfold tNext
        dsimp only
        cases e6 : allSome (rs.map twoF) with
        | none => rw [(any_none _).mpr e6] at e5; cases e5
        | some ps =>
          obtain ⟨ks, rfl, rfl, h3⟩ := pairVs e2 (allSome_some.mp e6)
          refine ⟨.ref D, rfl, .inl ⟨D, _, rfl, lstNew (s3 _ _ e1), fun b nb => ?_⟩⟩
          have sb := same_upd (o := .tup (ks.map fun k => V.ref k.1)) nb
          exact q _ e6 b _ ((s12.trans s3).trans sb) ⟨ks, rfl, tupNew upd_same, fun k hk => sqT_same (s3.trans sb) (h3 k hk)⟩
end
end K53
set_option maxHeartbeats 4000000
namespace K53
open PySem PySem.Spec PyProof.Rows L2 RV TL
/-- RingError, and what NoText is -/
structure RErr (K : PySem.W.Frag) (mg : Str → Option Value) (CN CR : Addr) : Prop where
  gR : mg "RingError" = some (.ref CR)
  gV : mg "ValueError" = none
  m : PySem.W.exmOne K (.ref CN) (.ref CN) = some true
  iR : PySem.W.kitOne K (.ref CN) (.ref CR) = some true
  iV : PySem.W.kitOne K (.ref CN) (.type "ValueError") = some true
  xf : XfC K CN
theorem eq0 : V.str ((toString ((0 : Nat) : Int) : String) : Str) = V.str (Str.ofString "0") := rfl
section
variable {P : Program} {w : World} {K : PySem.W.Frag} {mg : Str → Option Value} {base : Heap} {t1 t2 t3 : Tok}
/-! ### _law_told -/
abbrev nTd : List Str := ["_law_way", "_law_text", "e", "_law_right"]
theorem scTd : FnScope nTd ["_law_way", "_law_text"] (defScope sLTold) := ⟨rfl, rfl, rfl, by decide +kernel, rfl, by decide +kernel, by decide +kernel⟩
def spTd (K : PySem.W.Frag) : Sp := fun vs H Q _ => ∃ (n : Int) (v : V), vs = [.int n, v] ∧ (((n = 0 ∨ n = 1) ∧ ∃ d : PyData, Dq K H v d ∧ isiD d "str" = false ∧ ∀ H', Same H H' → Q .non H') ∨
  ∃ z : Str, v = .str z ∧ z.length ≤ 900 ∧ ((n = 0 ∧ (ringF z = none → ∀ H', Same H H' → Q .non H') ∧ ∀ rs, ringF z = some rs → ∀ (a : Addr) H', Same H H' → RingAt K H' a rs → Q (.ref a) H') ∨
    (n = 1 ∧ (planF z = none → ∀ H', Same H H' → Q .non H') ∧ ∀ ps, planF z = some ps → ∀ (a : Addr) H', Same H H' → Tups K H' a ps → Q (.ref a) H')))
theorem ok_td {f fR fP CN CR fN cda cc : Addr} {fd dR dP fdN : FuncData} (F : Fun K "_law_told" "_law_told" sLTold f fd) (N : NRule P K mg CN fN cda cc fdN) (R : RErr K mg CN CR)
    (DR : DefAt K mg "read_ring" sReadRing ["text"] fR dR) (GR : FnOk P w K mg base (L2.CX P w) 6 fR dR ["text"] (spRR K CN)) (DP : DefAt K mg "read_plan" sReadPlan ["text"] fP dP) (GP : FnOk P w K mg base (L2.CX P w) 6 fP dP ["text"] (spRP K CN)) (B : Bare mg) :
    FnOk P w K mg base CX0 7 f fd ["_law_way", "_law_text"] (spTd K) := by
  refine F.ok scTd (fun vs H Q E h => ?_) (fun cdv A outer s H vs Q E hr h => ?_)
  · obtain ⟨n, v, rfl, _⟩ := h
    rfl
  · obtain ⟨n, v, rfl, hv⟩ := h
    refine ⟨_, pss_cons (ps_try_as (i := 2) rfl rfl scTd.nd rfl rfl ⟨rfl, by decide, .inl N.g⟩ takes0
        (fun W pn xe tk _ => pss_one (ps_ret (pe_ifExp (pt_cmpR op_eq (pv 0) pe_int (nomark _)) (pe_callS GR hr (by rfl) DR.mg DR.fn.kp DR.bi (fun σ => passAt tk σ) (pa_cons (pv 1) pa_nil)) (pe_callS GP hr (by rfl) DP.mg DP.fn.kp DP.bi (fun σ => passAt tk σ) (pa_cons (pv 1) pa_nil)))))
        (fun ea oe cls d pn hz hf => pss_one (ps_set (i := 3) scTd.nd rfl (Or.inl rfl) (pe_and (pe_callB (call_isY (K := K) rfl hz) (by rfl) B.isinstance (by decide +kernel) (pa_cons (pv 2) (pa_cons (pe_glob (v := .ref CR) rfl R.gR rfl) pa_nil)))
          (pe_and (pe_callB (call_isY (K := K) rfl hz) (by rfl) B.isinstance (by decide +kernel) (pa_cons (pv 2) (pa_cons (pe_bltn (v := .ty "ValueError") (by rfl) R.gV (by decide +kernel) rfl) pa_nil)))
          (pe_one (pe_cmpR op_eq (pe_callB call_reprO (by rfl) B.repr (by decide +kernel) (pa_cons (pe_xf R.xf N.no hz hf (pv 2)) pa_nil)) pe_str (nomark _))))))))
      (pss_one (ps_ret (pe_ifExp (pt_val (pv 3)) pe_non pe_str))), ?_⟩
    rcases hv with ⟨hn, d, hd, no, q⟩ | ⟨z, rfl, lz, ⟨rfl, qN, q⟩ | ⟨rfl, qN, q⟩⟩
    · rcases hn with rfl | rfl
      · refine ⟨.int 0, rfl, rfl, true, rfl, iteT ⟨v, rfl, v, rfl, .inr ⟨d, hd, no, fun e H' s' hx => ?_⟩⟩⟩
        refine ⟨true, R.m, fun _ ea hea => ?_, fun z => nomatch z⟩
        refine ⟨.ref ea, rfl, .ref CR, _, rfl, fun u hu => hu, R.iR, true, rfl, iteT ⟨.ref ea, rfl, .ty "ValueError", _, rfl, fun u hu => hu, R.iV, true, rfl, iteT ⟨.ref ea, rfl, rfl, rfl, e, _, .int ((0 : Nat) : Int), rfl, hx, rfl, .inl ⟨_, rfl, log_small (by decide) (by decide), rfl, ?_⟩⟩⟩⟩
        rw [decide_eq_true eq0]
        exact ⟨_, rfl, true, rfl, iteT (q H' s')⟩
      · refine ⟨.int 1, rfl, rfl, false, rfl, iteF ⟨v, rfl, v, rfl, .inr ⟨d, hd, no, fun e H' s' hx => ?_⟩⟩⟩
        refine ⟨true, R.m, fun _ ea hea => ?_, fun z => nomatch z⟩
        refine ⟨.ref ea, rfl, .ref CR, _, rfl, fun u hu => hu, R.iR, true, rfl, iteT ⟨.ref ea, rfl, .ty "ValueError", _, rfl, fun u hu => hu, R.iV, true, rfl, iteT ⟨.ref ea, rfl, rfl, rfl, e, _, .int ((0 : Nat) : Int), rfl, hx, rfl, .inl ⟨_, rfl, log_small (by decide) (by decide), rfl, ?_⟩⟩⟩⟩
        rw [decide_eq_true eq0]
        exact ⟨_, rfl, true, rfl, iteT (q H' s')⟩
    · refine ⟨.int 0, rfl, rfl, true, rfl, iteT ⟨.str z, rfl, .str z, rfl, .inl ⟨z, rfl, lz, fun eN e H' s' hx => ?_, fun rs er a H' s' hA => q rs er a H' s' hA⟩⟩⟩
      refine ⟨true, R.m, fun _ ea hea => ?_, fun z => nomatch z⟩
      refine ⟨.ref ea, rfl, .ref CR, _, rfl, fun u hu => hu, R.iR, true, rfl, iteT ⟨.ref ea, rfl, .ty "ValueError", _, rfl, fun u hu => hu, R.iV, true, rfl, iteT ⟨.ref ea, rfl, rfl, rfl, e, _, .int ((0 : Nat) : Int), rfl, hx, rfl, .inl ⟨_, rfl, log_small (by decide) (by decide), rfl, ?_⟩⟩⟩⟩
      rw [decide_eq_true eq0]
      exact ⟨_, rfl, true, rfl, iteT (qN eN H' s')⟩
    · refine ⟨.int 1, rfl, rfl, false, rfl, iteF ⟨.str z, rfl, .str z, rfl, .inl ⟨z, rfl, lz, fun eN e H' s' hx => ?_, fun rs er a H' s' hA => q rs er a H' s' hA⟩⟩⟩
      refine ⟨true, R.m, fun _ ea hea => ?_, fun z => nomatch z⟩
      refine ⟨.ref ea, rfl, .ref CR, _, rfl, fun u hu => hu, R.iR, true, rfl, iteT ⟨.ref ea, rfl, .ty "ValueError", _, rfl, fun u hu => hu, R.iV, true, rfl, iteT ⟨.ref ea, rfl, rfl, rfl, e, _, .int ((0 : Nat) : Int), rfl, hx, rfl, .inl ⟨_, rfl, log_small (by decide) (by decide), rfl, ?_⟩⟩⟩⟩
      rw [decide_eq_true eq0]
      exact ⟨_, rfl, true, rfl, iteT (qN eN H' s')⟩
end
end K53
set_option maxHeartbeats 4000000
/-! list(text) -/
namespace RV
open PySem PySem.Spec PyProof.Rows L2 TL
section
variable {prog : Program} {w : World} {A : Around} {E : Value → Shared → Prop} {s : Shared} {x : Str} {t : Tok}
theorem hint_str {Q : Bool → Shared → Prop} (h : Q false s) : wpAny (model prog w) A (Builtin.List.listLengthHint (.str x t)) Q E s := by
  have hT : s.TypeIs (.str x t) "str" := typeIs_str s x t
  unfold Builtin.List.listLengthHint
  refine wpAny_bind (wpAny_specialOf hT PySem.F.slot_str_len.lookup ?_)
  generalize hid : ("str.__len__" : String) = id0
  wp_delta
  rw [show splitId id0 = some ("str", "__len__") from by subst hid; decide +kernel]
  subst hid
  refine wpAny_bind (wpAny_isInstance (T := "str") (b := true) hT (by rw [isSubtype_type]; kernel_rfl) ?_)
  refine wpAny_ite_split (fun hab => absurd hab (by decide)) (fun _ => ?_)
  refine wpAny_ite_split (fun _ => ?_) (fun hab => absurd (by decide +kernel) hab)
  refine wpAny_bind (wpAny_typeOf hT ?_)
  exact wpAny_pure h
theorem str_extend {R : Result → Shared → Prop} (hh : A.handled = none) (S : Addr) (res : Value) (c₀ : Nat) (hS : s.heap.get? S = some { cls := .type "list", data := .seq #[] c₀ })
    (hR : ∀ h' tk acc' c', (∀ b o, b ≠ S → s.heap.get? b = some o → h'.get? b = some o) → h'.get? S = some { cls := .type "list", dict := none, data := .seq acc' c', slots := #[] } → ItemsOf (SignAt x) acc' x.cps.size → R (.ok (.ret res)) { s with heap := h', toks := tk }) (hn : x.cps.size ≤ sizeLine) :
    wpAny (model prog w) A.in1 (Builtin.List.listExtendWith (.ref S) (.str x t) res)
      (fun fin s' => match fin with | .done f => R (.ok f) s' | .again c' => c'.quiet = true ∧ codeAny (model prog w) A c' R s') (fun e s' => R (.error e) s') s := by
  have hSI : S ≠ s.heap.objs.size := Nat.ne_of_lt (Heap.lt_size hS)
  have hSf : S ∉ [s.heap.objs.size] := by simp only [List.mem_cons, List.not_mem_nil, or_false]; exact hSI
  obtain ⟨oI, St, hit, W, st⟩ : ∃ (oI : Obj) (St : Nat → Heap → Prop),
      (∀ (E : Value → Shared → Prop) (Q : Value → Shared → Prop), Q (.ref s.heap.objs.size) { s with heap := s.heap.push oI } → wpAny (model prog w) A.in1 (pyIter (.str x t)) Q E s) ∧
      Walks prog w A.in1 s.heap.objs.size [s.heap.objs.size] [s.heap.objs.size] x.cps.size (SignAt x) St ∧ St 0 (s.heap.push oI) := by
    cases ha : x.cps.all (· < 128)
    · exact ⟨_, fun i h => h.IsStrIter s.heap.objs.size "str_iterator" x t i, fun E Q q => wpAny_pyIter_wide ha q, Walks.strWide (A := A.in1) hh _ x t, ⟨_, Heap.get?_push_size _ rfl, rfl, rfl⟩⟩
    · exact ⟨_, fun i h => h.IsStrIter s.heap.objs.size "str_ascii_iterator" x t i, fun E Q q => wpAny_pyIter_ascii ha q, Walks.strAscii (A := A.in1) hh _ x t, ⟨_, Heap.get?_push_size _ rfl, rfl, rfl⟩⟩
  have key : ∀ (h : Heap) (c₁ tk : Nat), St 0 h → (∀ b o, b ≠ S → s.heap.get? b = some o → h.get? b = some o) →
      h.get? S = some { cls := .type "list", data := .seq #[] c₁ } → codeAny (model prog w) A (.builtin "list.extend.loop" ⟨[.ref S, .ref s.heap.objs.size, res], []⟩) R { s with heap := h, toks := tk } := by
    intro h c₁ tk hst hk hS₁
    refine codeAny_extend_loopS W.toS hn S hSf res x.cps.size 0 _ #[] c₁ rfl (Nat.zero_le _) hst hS₁ (ItemsOf.nil _) fun s' acc' c' hm hS' hacc => ?_
    rw [Moved.eq_with hm]
    refine hR s'.heap s'.toks acc' c' (fun b o hb e => hm.heap b o (fun hmem => ?_) (hk b o hb e)) hS' hacc
    rcases List.mem_cons.mp hmem with e' | hmem
    · exact hb e'
    · exact absurd (Heap.lt_size e) (by rw [List.mem_singleton.mp hmem]; exact Nat.lt_irrefl _)
  unfold Builtin.List.listExtendWith
  refine wpAny_bind (wpAny_typeOf (T := "str") (typeIs_str s x t) ?_)
  have h1 : Builtin.List.listSameRef (.ref S) (.str x t) = false := by simp [Builtin.List.listSameRef]
  have n1 : (Value.type "str" == Value.type "list") = false := by decide
  have n2 : (Value.type "str" == Value.type "tuple") = false := by decide
  simp only [h1, n1, n2, Bool.or_false, Bool.false_eq_true, if_false]
  refine wpAny_bind (hit _ _ ?_)
  have hS₁ := Heap.get?_push_of_some oI hS
  refine wpAny_bind (wpAny_holding (hint_str ?_))
  refine wpAny_ite_split (fun _ => ?_) (fun _ => wpAny_pure ⟨plainId_quiet PySem.F.plain_extend_loop _, key _ c₀ _ st (fun b o _ e => Heap.get?_push_of_some _ e) hS₁⟩)
  refine wpAny_bind (wpAny_rule ?_)
  refine wpAny_bind ?_
  show wpAny _ _ (updateSeq S (·.push .none) >>= fun _ => updateSeq S (·.pop)) _ _ _
  refine wpAny_bind (wpAny_updateSeq hS₁ rfl ?_)
  have hS₂ := Heap.get?_update_self (Obj.mapSeq (·.push Value.none)) hS₁ rfl
  refine wpAny_updateSeq (hz := by seq_fits) hS₂ rfl ?_
  have hS₃ := Heap.get?_update_self (Obj.mapSeq (·.pop)) hS₂ rfl
  refine wpAny_pure ⟨plainId_quiet PySem.F.plain_extend_loop _, key _ _ _ ?_ (fun b o hb e => ?_) hS₃⟩
  · refine W.frame 0 _ _ st fun b hb o e => ?_
    have hbS : b ≠ S := fun h => hSf (h ▸ hb)
    exact (Heap.get?_update_other _ _ (Ne.symm hbS)).trans ((Heap.get?_update_other _ _ (Ne.symm hbS)).trans e)
  · exact (Heap.get?_update_other _ _ (Ne.symm hb)).trans ((Heap.get?_update_other _ _ (Ne.symm hb)).trans (Heap.get?_push_of_some _ e))
theorem str_init {R : Result → Shared → Prop} (hh : A.handled = none) (S : Addr) (hS : s.heap.get? S = some { cls := .type "list", data := .seq #[] })
    (hR : ∀ h' tk acc' c', (∀ b o, b ≠ S → s.heap.get? b = some o → h'.get? b = some o) → h'.get? S = some { cls := .type "list", dict := none, data := .seq acc' c', slots := #[] } → ItemsOf (SignAt x) acc' x.cps.size → R (.ok (.ret .none)) { s with heap := h', toks := tk }) (hn : x.cps.size ≤ sizeLine) :
    wpAny (model prog w) A.in1 (Builtin.«list.__init__» ⟨[.ref S, .str x t], []⟩)
      (fun fin s' => match fin with | .done f => R (.ok f) s' | .again c' => c'.quiet = true ∧ codeAny (model prog w) A c' R s') (fun e s' => R (.error e) s') s := by
  show wpAny _ _ (do let old ← Builtin.List.listItems (.ref S); Builtin.List.listUpdate (.ref S) (fun _ => #[]); letGo old.toList.reverse; Builtin.List.listExtendWith (.ref S) (.str x t) .none) _ _ s
  refine wpAny_bind ?_
  unfold Builtin.List.listItems
  refine wpAny_bind (wpAny_seqItems hS rfl (wpAny_pure ?_))
  show wpAny _ _ (updateSeq S (fun _ => #[]) >>= fun _ => letGo (#[] : Array Value).toList.reverse >>= fun _ => Builtin.List.listExtendWith (.ref S) (.str x t) .none) _ _ s
  refine wpAny_bind (wpAny_updateSeq hS rfl ?_)
  have hS₂ := Heap.get?_update_self (Obj.mapSeq (fun _ => (#[] : Array Value))) hS rfl
  have oth : ∀ b o, b ≠ S → s.heap.get? b = some o → (s.heap.update S (Obj.mapSeq (fun _ => (#[] : Array Value)))).get? b = some o :=
    fun b o hb e => (Heap.get?_update_other _ _ (Ne.symm hb)).trans e
  refine wpAny_bind (wpAny_letGo ?_)
  refine str_extend hh S .none _ hS₂ (fun h' tk acc' c' hk hS' hacc => ?_) hn
  exact hR h' tk acc' c' (fun b o hb e => hk b o hb (oth b o hb e)) hS' hacc
theorem str_call {Q : Value → Shared → Prop} (hh : A.handled = none) (hn : x.cps.size ≤ sizeLine)
    (hQ : ∀ h' tk acc' c', (∀ b o, s.heap.get? b = some o → h'.get? b = some o) → h'.get? s.heap.objs.size = some { cls := .type "list", dict := none, data := .seq acc' c', slots := #[] } → ItemsOf (SignAt x) acc' x.cps.size → Q (.ref s.heap.objs.size) { s with heap := h', toks := tk }) :
    wpAny (model prog w) A (call (.type "list") [.str x t]) Q E s := by
  refine callType_codes (Q₁ := fun obj s₁ => obj = .ref s.heap.objs.size ∧ s₁ = { s with heap := s.heap.push { cls := .type "list", data := .seq #[] } }) PySem.F.called_list (PySem.F.typeCall_list_1 _) PySem.F.entry_list_init
    (code_list_new _ ⟨rfl, rfl⟩) fun obj s₁ h₁ => ?_
  obtain ⟨rfl, rfl⟩ := h₁
  have hS : (s.heap.push { cls := .type "list", data := .seq #[] }).get? s.heap.objs.size = some { cls := .type "list", data := .seq #[] } := Heap.get?_push_size _ rfl
  refine ⟨⟨_, hS, rfl⟩, PySem.F.args_list_init_2 _ _, str_init (A := A.in1) hh _ hS (fun h' tk acc' c' hk hS' hacc => ?_) hn⟩
  exact ⟨rfl, hQ h' tk acc' c' (fun b o e => hk b o (Nat.ne_of_lt (Heap.lt_size e)) (Heap.get?_push_of_some _ e)) hS' hacc⟩
end
section
variable {X : Cx}
def rListS : List V → Hp → VK → Prop := fun xs H Q => ∃ z : Str, xs = [.str z] ∧ z.length ≤ 1000 ∧ ∀ q, H q = none → Q (.ref q) (upd H q (.lst ((tl z).map fun c => V.str ⟨#[c]⟩)))
theorem call_listS (hc : X.calm = true) : CallR X (.type "list") rListS := by
  intro pins s σ H xs us Q I r h
  obtain ⟨z, rfl, hz, q⟩ := h
  obtain ⟨u, rfl, t, rfl⟩ := vals1 r
  have ez : z.cps.size = z.length := rfl
  refine str_call (I.ok.hd hc) (by rw [ez, sizeLine_eq]; omega) fun h' tk acc' c' hkeep hS hacc => ?_
  refine ⟨.ref s.heap.objs.size, upd H s.heap.objs.size (.lst ((tl z).map fun c => V.str ⟨#[c]⟩)), I.laid hkeep (Nat.le_refl _) (show ObjOk X.prog X.w _ _ _ (.lst ((tl z).map fun c => V.str ⟨#[c]⟩)) from ⟨?_, acc'.toList, c', ?_, ?_⟩), rfl, q _ (I.hok.fresh (Nat.le_refl _))⟩
  · rw [List.length_map, ← len_tl, sizeLine_eq]; omega
  · have el : acc'.toList.length = acc'.size := by simp
    refine vals_of_at (by rw [List.length_map, el, hacc.1, ← len_tl]; rfl) fun j x w h1 h2 => ?_
    obtain ⟨c, u, hcx, rfl⟩ := hacc.2 j w (by rw [← Array.getElem?_toList]; exact h2)
    have e : (tl z)[j]? = some c := by show z.cps.toList[j]? = _; rw [Array.getElem?_toList]; exact hcx
    rw [List.getElem?_map, e] at h1
    cases h1
    exact ⟨u, rfl⟩
  · rw [Array.toArray_toList]; exact hS
end
end RV
set_option maxHeartbeats 4000000
namespace RV
open PySem PySem.Spec PyProof.Rows L2 TL
/-- [c for c in z if ..], over a text -/
theorem lc_signsF {tt : TT} {te : TE} {σ : L2.St} {H1 : Hp} {D : Addr} {v : Nat} {z : Str} (f : Nat → Bool) {Qd : Hp → Prop} (hl : z.length ≤ 100000) (nD : H1 D = none)
    (htt : ∀ c ∈ tl z, ∀ (H' : Hp) (Q : Bool → Hp → Prop), Same H1 H' → (∀ H2, Same H' H2 → Q (f c) H2) → tt ((wipe σ [v]).set v (some (.str ⟨#[c]⟩))) H' Q)
    (hte : ∀ c ∈ tl z, ∀ (H' : Hp) (Q : VK), Q (.str ⟨#[c]⟩) H' → te ((wipe σ [v]).set v (some (.str ⟨#[c]⟩))) H' Q)
    (hd : ∀ H', Same H1 H' → H' D = some (.lst (((tl z).filter f).map fun c => V.str ⟨#[c]⟩)) → Qd H') :
    ∃ W : Nat → Nat → Hp → Prop, (∃ m, W 0 m (upd H1 D (.lst []))) ∧ ∀ i m H, W i m H →
      ((Its z).stop i H ∧ Qd H) ∨ ((Its z).go i H ∧ ∃ Nx : Hp → Prop, (∀ H', Nx H' → ∃ m', m' < m ∧ W (i + 1) m' H') ∧ ∀ x H', (Its z).yld i H x H' → gName v x (wipe σ [v]) H' fun σ2 H2 => wipe σ2 [v] = wipe σ [v] ∧ tt σ2 H2 fun b H3 =>
        if b = true then te σ2 H3 fun y H4 => ∃ acc, H4 D = some (.lst acc) ∧ acc.length < sizeLine ∧ Nx (upd H4 D (.lst (acc ++ [y]))) else Nx H3) := by
  have ez : z.cps.size = z.length := rfl
  have et : (tl z).length = z.length := (len_tl z).symm
  refine ⟨fun i m H' => i ≤ z.length ∧ m = z.length - i ∧ Same H1 H' ∧ H' D = some (.lst ((((tl z).take i).filter f).map fun c => V.str ⟨#[c]⟩)), ⟨_, Nat.zero_le _, rfl, same_upd nD, upd_same⟩, fun i m H' p => ?_⟩
  obtain ⟨p1, p2, p3, p4⟩ := p
  by_cases e : i < z.length
  · refine Or.inr ⟨e, fun H' => i + 1 ≤ z.length ∧ Same H1 H' ∧ H' D = some (.lst ((((tl z).take (i + 1)).filter f).map fun c => V.str ⟨#[c]⟩)), fun H2 q => ⟨z.length - (i + 1), by omega, q.1, rfl, q.2⟩, fun x H2 y => ?_⟩
    obtain ⟨rfl, c, hc, rfl⟩ := y
    have gc : (tl z)[i]? = some c := by show z.cps.toList[i]? = _; rw [Array.getElem?_toList]; exact hc
    have hin := List.mem_of_getElem? gc
    have en : ((tl z).take (i + 1)).filter f = ((tl z).take i).filter f ++ (if f c = true then [c] else []) := by
      rw [List.take_add_one, gc]
      show List.filter f (_ ++ [c]) = _
      rw [List.filter_append]
      cases h : f c <;> simp [h]
    refine nx_step ?_
    refine ⟨by simp [wipe, List.set_set], htt c hin _ _ p3 fun H3 s3 => ?_⟩
    cases h : f c with
    | true =>
      rw [if_pos rfl]
      refine hte c hin _ _ ⟨_, s3 _ _ p4, ?_, e, fun b o w => ?_, ?_⟩
      · have := List.length_filter_le f ((tl z).take i)
        rw [List.length_take] at this
        rw [List.length_map, sizeLine_eq]; omega
      · rw [upd_ne (ne_of_none w nD)]; exact s3 _ _ (p3 b o w)
      · rw [upd_same, en, if_pos h, List.map_append]; rfl
    | false =>
      rw [if_neg (by decide)]
      refine ⟨e, fun b o w => s3 _ _ (p3 b o w), ?_⟩
      rw [s3 _ _ p4, en, if_neg (by rw [h]; decide), List.append_nil]
  · refine Or.inl ⟨by show z.cps.size ≤ i; rw [ez]; omega, hd H' p3 ?_⟩
    rw [List.take_of_length_le (by omega)] at p4
    exact p4
end RV
set_option maxHeartbeats 4000000
namespace RV
open PySem PySem.Spec PyProof.Rows L2
section
variable {X : Cx}
/-- l == [], whatever l holds -/
def rEqL0 (K : PySem.W.Frag) : R2 := fun x y H Q => ∃ a b xs, x = .ref a ∧ y = .ref b ∧ SqL K H a xs ∧ SqL K H b [] ∧ Q (.bl (decide (xs.length = 0))) H
theorem op_eqL0 (hu : X.A.units + 64 < cLine) : OpR X (compareOp .Eq) (rEqL0 X.K) := by
  intro pins s σ H x y v u Q I rx ry h
  obtain ⟨a, b, xs, rfl, rfl, hA, hB, q⟩ := h
  cases rx
  cases ry
  obtain ⟨its, r, ht, hs⟩ := I.list hA
  obtain ⟨its2, r2, ht2, hs2⟩ := I.list hB
  have hle : its.length = xs.length := r.length.symm
  have hle2 : its2.length = 0 := r2.length.symm
  have e2 : its2 = [] := List.eq_nil_of_length_eq_zero hle2
  subst e2
  by_cases z : xs.length = 0
  · have e1 : its = [] := List.eq_nil_of_length_eq_zero (by omega)
    subst e1
    exact SeqAt.eq_listAt (items := #[]) (items2 := #[]) (e := fun _ => true) ht.isList ht2.isList rfl (by omega) (fun j h1 _ => absurd h1 (Nat.not_lt_zero _)) ⟨.bl true, H, I, rfl, by rw [decide_eq_true z] at q; exact q⟩
  · exact SeqAt.eq_list_lengthsAt ht.isList ht2.isList (by simp; intro y; rw [y] at hle; exact z hle.symm) (by omega) ⟨.bl false, H, I, rfl, by rw [decide_eq_false z] at q; exact q⟩
theorem op_neL0 (hu : X.A.units + 64 < cLine) : OpR X (compareOp .NotEq) (fun x y H Q => ∃ a b xs, x = .ref a ∧ y = .ref b ∧ SqL X.K H a xs ∧ SqL X.K H b [] ∧ Q (.bl (!decide (xs.length = 0))) H) := by
  intro pins s σ H x y v u Q I rx ry h
  obtain ⟨a, b, xs, rfl, rfl, hA, hB, q⟩ := h
  cases rx
  cases ry
  obtain ⟨its, r, ht, hs⟩ := I.list hA
  obtain ⟨its2, r2, ht2, hs2⟩ := I.list hB
  have hle : its.length = xs.length := r.length.symm
  have hle2 : its2.length = 0 := r2.length.symm
  have e2 : its2 = [] := List.eq_nil_of_length_eq_zero hle2
  subst e2
  by_cases z : xs.length = 0
  · have e1 : its = [] := List.eq_nil_of_length_eq_zero (by omega)
    subst e1
    exact SeqAt.RcNeAt.lists (items := #[]) (items2 := #[]) (e := fun _ => true) ht.isList ht2.isList rfl (by omega) (fun j h1 _ => absurd h1 (Nat.not_lt_zero _)) _ _ _ _ ⟨.bl false, H, I, rfl, by rw [decide_eq_true z] at q; exact q⟩
  · exact SeqAt.RcNeAt.lists_lengths ht.isList ht2.isList (by simp; intro y; rw [y] at hle; exact z hle.symm) (by omega) _ _ _ _ ⟨.bl true, H, I, rfl, by rw [decide_eq_false z] at q; exact q⟩
/-- x is b, x None or a truth, b a truth -/
theorem op_is_blN : OpR X (compareOp .Is) (fun x y H Q => ∃ b, y = .bl b ∧ (x = .non ∨ ∃ a, x = .bl a) ∧ Q (.bl (decide (x = y))) H) := by
  intro pins s σ H x y v u Q I rx ry h
  obtain ⟨b, rfl, hx, q⟩ := h
  cases (show u = Value.bool b from ry)
  rcases hx with rfl | ⟨a, rfl⟩
  · cases (show v = Value.none from rx)
    exact wpAny_is_other rfl (fun z => by cases z) ⟨.bl false, H, I, rfl, by rw [decide_eq_false (fun z => by cases z)] at q; exact q⟩
  · cases (show v = Value.bool a from rx)
    by_cases e : a = b
    · subst e
      exact wpAny_is_self rfl ⟨.bl true, H, I, rfl, by simpa using q⟩
    · exact wpAny_is_other rfl (fun z => e (Value.bool.inj z)) ⟨.bl false, H, I, rfl, by simpa [e] using q⟩
/-- x is not b, x None or a truth, b a truth -/
theorem op_isnot_blN : OpR X (compareOp .IsNot) (fun x y H Q => ∃ b, y = .bl b ∧ (x = .non ∨ ∃ a, x = .bl a) ∧ Q (.bl (!decide (x = y))) H) := by
  intro pins s σ H x y v u Q I rx ry h
  obtain ⟨b, rfl, hx, q⟩ := h
  cases (show u = Value.bool b from ry)
  rcases hx with rfl | ⟨a, rfl⟩
  · cases (show v = Value.none from rx)
    exact wpAny_isNot_other rfl (fun z => by cases z) ⟨.bl true, H, I, rfl, by rw [decide_eq_false (fun z => by cases z)] at q; exact q⟩
  · cases (show v = Value.bool a from rx)
    by_cases e : a = b
    · subst e
      exact wpAny_isNot_self rfl ⟨.bl false, H, I, rfl, by simpa using q⟩
    · exact wpAny_isNot_other rfl (fun z => e (Value.bool.inj z)) ⟨.bl true, H, I, rfl, by simpa [e] using q⟩
end
end RV
set_option maxHeartbeats 4000000
namespace K53
open PySem PySem.Spec PyProof.Rows L2 RV TL
theorem inV_strs (x : Str) (ws : List Str) : inV (.str x) (ws.map V.str) = decide (x ∈ ws) := by
  unfold inV
  rw [List.any_map, Bool.eq_iff_iff, List.any_eq_true, decide_eq_true_iff]
  constructor
  · rintro ⟨y, hy, e⟩
    have e : (y == x) = true := e
    rw [← eq_of_beq e]; exact hy
  · intro h
    exact ⟨x, h, (beq_self_eq_true x : (x == x) = true)⟩
theorem flat_strs (ws : List Str) : (ws.map V.str).all flatV = true := by rw [List.all_map, List.all_eq_true]; intro _ _; rfl
def oneS (z : Str) : List Str := (tl z).map fun c => (⟨#[c]⟩ : Str)
theorem one_map (z : Str) : ((tl z).map fun c => V.str ⟨#[c]⟩) = (oneS z).map V.str := by unfold oneS; rw [List.map_map]; rfl
theorem one_in {c : Nat} {z : Str} : (⟨#[c]⟩ : Str) ∈ oneS z ↔ c ∈ tl z := by
  constructor
  · intro h
    obtain ⟨d, hd, e⟩ := List.mem_map.mp h
    have e2 : tl (⟨#[d]⟩ : Str) = tl (⟨#[c]⟩ : Str) := congrArg tl e
    have e3 : [d] = [c] := e2
    rw [← (List.cons.inj e3).1]; exact hd
  · intro h
    exact List.mem_map.mpr ⟨c, h, rfl⟩
section
variable {X : Cx}
theorem op_notInK {K : PySem.W.Frag} (h : X.K = K) : OpR X (compareOp .NotIn) (rIn K true) := h ▸ op_notIn_seq
end
section
variable {P : Program} {w : World} {K : PySem.W.Frag} {mg : Str → Option Value} {base : Heap} {t1 t2 t3 : Tok}
/-! ### _law_figures -/
abbrev nFg : List Str := ["_law_word", "_law_sign"]
theorem scFg : FnScope nFg ["_law_word"] (defScope sFigures) := ⟨rfl, rfl, rfl, by decide +kernel, rfl, by decide +kernel, by decide +kernel⟩
def spFg : Sp := fun vs H Q _ => ∃ z : Str, vs = [.str z] ∧ z.length ≤ 100000 ∧ ∀ H', Same H H' → Q (optV z) H'
theorem ok_fg {f : Addr} {fd : FuncData} (F : Fun K "_law_figures" "_law_figures" sFigures f fd) (B : Bare mg) : FnOk P w K mg base CX0 1 f fd ["_law_word"] spFg := by
  refine F.ok scFg (fun vs H Q E h => ?_) (fun cdv A outer s H vs Q E hr h => ?_)
  · obtain ⟨n, rfl, _⟩ := h
    rfl
  · obtain ⟨z, rfl, hz, q⟩ := h
    refine ⟨_, pss_cons (ps_if (PW.pt (pw_or (pt_cmpR op_eq (pv 0) pe_str (nomark _)) (pw_or (pt_cmpR op_gt (pe_callB call_len_str (by rfl) B.len PySem.boot_len (pa_cons (pv 0) pa_nil)) pe_int (nomark _))
        (pw_or1 (pt_cmpR (op_neL0 hr.units) (pe_lc (own := [("_law_sign", 1)]) (g := gName 1) rfl scFg.nd (pi_str (pv 0)) (blkOk_by (N := nFg) (sc := defScope sFigures) (by decide +kernel)) (fun _ _ _ _ _ => pg_name (i := 1) scFg.nd rfl (Or.inl rfl))
          (fun _ _ _ _ _ => pts_one (pt_cmpR (op_notInK (K := K) rfl) (pv 1) (pe_callTy (call_listS rfl) (by rfl) B.list (by decide +kernel) (pa_cons pe_str pa_nil)) (by rfl)))
          (fun _ _ _ _ _ => pv 1)) (pe_lst pa_nil) (nomark _)))))) (pss_one (ps_ret pe_non)) pss_nil)
      (pss_one (ps_ret (pe_ifExp (PW.pt (pw_and (pt_cmpR op_eq (pe_ix ix_str (pv 0) pe_int (fun _ _ => rfl)) pe_str (nomark _)) (pw_and1 (pt_cmpR op_ne (pv 0) pe_str (nomark _))))) pe_non (pe_callTy call_int_str (by rfl) B.int (by decide +kernel) (pa_cons (pv 0) pa_nil))))), ?_⟩
    have none_ : numF z = none → ∀ H', Same H H' → Q .non H' := fun e H' s => by
      have y := q H' s
      unfold optV at y
      rw [e] at y; exact y
    have long : ∀ n, n < 10 ^ 30 → z = num n → 0 < z.length ∧ z.length ≤ 30 ∧ (∀ c ∈ tl z, c ∈ tl sFig) := fun n hn e => by
      rw [e]
      exact ⟨num_pos n, num_len hn, fun c hc => num_sign hc⟩
    refine ⟨.str z, rfl, rfl, _, rfl, ?_⟩
    by_cases h0 : z = Str.ofString ""
    · rw [decide_eq_true (congrArg V.str h0)]
      exact iteT (none_ (numF_empty (by rw [h0]; rfl)) H (Same.refl H))
    rw [decide_eq_false (fun y => h0 (V.str.inj y))]
    have h0 : 0 < z.length := by
      refine Nat.pos_of_ne_zero fun e => h0 (ext_tl ?_)
      rw [len_tl] at e
      rw [List.eq_nil_of_length_eq_zero e]; rfl
    refine iteF ⟨.str z, rfl, z, rfl, by rw [sizeLine_eq]; omega, _, _, rfl, rfl, _, rfl, ?_⟩
    by_cases h30 : z.length ≤ 30
    · rw [decide_eq_false (show ¬ (30 : Int) < (z.length : Int) by omega)]
      refine iteF ⟨.str z, rfl, z, rfl, fun D nD => lc_signsF (fun c => !decide (c ∈ tl sFig)) (by omega) nD (fun c hc H' Q' s1 q1 => ?_) (fun c hc H' Q' q1 => ⟨_, rfl, q1⟩) fun H1 s1 e1 => ?_⟩
      · refine ⟨.str ⟨#[c]⟩, rfl, sFig, rfl, by decide +kernel, fun L nL => ?_⟩
        rw [one_map]
        refine ⟨L, _, rfl, .inl (lstNew upd_same), rfl, flat_strs _, _, rfl, ?_⟩
        rw [inV_strs]
        have e : decide ((⟨#[c]⟩ : Str) ∈ oneS sFig) = decide (c ∈ tl sFig) := decide_eq_decide.mpr one_in
        have z := q1 _ (same_upd (o := .lst ((oneS sFig).map V.str)) nL)
        rw [← e] at z
        exact z
      refine ⟨by show 0 ≤ sizeLine; exact Nat.zero_le _, fun L nL => ?_⟩
      have sL := same_upd (o := .lst []) nL
      refine ⟨D, L, _, rfl, rfl, lstNew (sL _ _ e1), lstNew upd_same, _, rfl, ?_⟩
      have s2 := s1.trans sL
      generalize upd H1 L (.lst []) = H2 at s2 ⊢
      rw [List.length_map]
      by_cases hd : ((tl z).filter fun c => !decide (c ∈ tl sFig)).length = 0
      · rw [decide_eq_true hd]
        refine iteF ?_
        unfold tNext
        dsimp only
        have hd2 : NumText.AllDigits (tl z) := fun c hc => by
          have h3 : c ∈ tl sFig := by
            refine Decidable.byContradiction fun h => ?_
            have hm : c ∈ (tl z).filter (fun c => !decide (c ∈ tl sFig)) := List.mem_filter.mpr ⟨hc, by rw [decide_eq_false h]; rfl⟩
            have := List.length_pos_iff.mpr (List.ne_nil_of_mem hm)
            omega
          have y := sFig_mem.mp h3
          exact ⟨y.1, y.2⟩
        have num_ : (z.length = 1 ∨ (tl z).head? ≠ some 48) → ∀ H', Same H H' → ∃ n, n < 10 ^ 30 ∧ z = num n ∧ Q (.int (n : Int)) H' := fun hh H' s => by
          obtain ⟨n, hn, e⟩ := numF_of h0 h30 hd2 hh
          refine ⟨n, hn, e, ?_⟩
          have y := q H' s
          unfold optV at y
          rw [numF_some.mpr ⟨hn, e⟩] at y; exact y
        obtain ⟨c, r, et⟩ : ∃ c r, tl z = c :: r := by
          cases e2 : tl z with
          | nil => rw [len_tl, e2] at h0; cases h0
          | cons c r => exact ⟨c, r, rfl⟩
        have fin : (z.length = 1 ∨ (tl z).head? ≠ some 48) → tCB (fun xs H Q => ∃ a n, xs = [.str a] ∧ PySem.intText? a = some n ∧ a.length ≤ 640 ∧ Q (.int n) H) (tCons (tVar 0) tNil) [some (.str z), none] H2 Q := fun hh => by
          obtain ⟨n, hn, e2, y⟩ := num_ hh H2 s2
          exact ⟨.str z, rfl, z, (n : Int), rfl, by rw [e2]; exact num_int hn, by omega, y⟩
        refine ⟨.str z, rfl, z, 0, c, rfl, rfl, by rw [sizeLine_eq]; omega, ?_, rfl, decide (V.str ⟨#[c]⟩ = V.str (Str.ofString "0")), rfl, ?_⟩
        · show atI (tl z) 0 = some c
          rw [et]; exact atI_0
        have ec : decide (V.str (⟨#[c]⟩ : Str) = V.str (Str.ofString "0")) = decide (c = 48) := by
          refine decide_eq_decide.mpr ⟨fun y => ?_, fun y => by rw [y]; rfl⟩
          have z1 : tl (⟨#[c]⟩ : Str) = tl (Str.ofString "0") := by
            have := V.str.inj y
            rw [this]
          rw [tl_ofString] at z1
          exact (List.cons.inj z1).1
        rw [ec]
        by_cases c48 : c = 48
        · rw [decide_eq_true c48]
          refine iteT ⟨.str z, rfl, rfl, _, rfl, ?_⟩
          by_cases ez : z = Str.ofString "0"
          · rw [decide_eq_true (congrArg V.str ez)]
            exact iteF (fin (.inl (by rw [ez]; rfl)))
          · rw [decide_eq_false (fun y => ez (V.str.inj y))]
            refine iteT (none_ (numF_none.mpr fun n hn e2 => ?_) H2 s2)
            have l1 : 1 < z.length := by
              have h1 : z.length = (c :: r).length := by rw [len_tl, et]
              rw [List.length_cons] at h1
              cases r with
              | nil => exact absurd (ext_tl (by rw [et, c48, tl_ofString]; rfl)) ez
              | cons _ _ => rw [List.length_cons] at h1; omega
            have ln : 1 < (num n).length := by rw [← e2]; exact l1
            obtain ⟨c', r', e3, e4⟩ := numL_head n (by have := num_two ln; omega)
            rw [e2, tl_nm, e3] at et
            exact e4 (by rw [(List.cons.inj et).1, c48])
        · rw [decide_eq_false c48]
          exact iteF (fin (.inr (by rw [et]; simpa using c48)))
      · rw [decide_eq_false hd]
        refine iteT (none_ (numF_none.mpr fun n hn e => hd ?_) H2 s2)
        have l := (long n hn e).2.2
        have : ((tl z).filter fun c => !decide (c ∈ tl sFig)) = [] := List.filter_eq_nil_iff.mpr fun c hc => by rw [decide_eq_true (l c hc)]; decide
        rw [this]; rfl
    · rw [decide_eq_true (show (30 : Int) < (z.length : Int) by omega)]
      exact iteT (none_ (numF_none.mpr fun n hn e => h30 (long n hn e).2.1) H (Same.refl H))
end
end K53
set_option maxHeartbeats 4000000
namespace K53
open PySem PySem.Spec PyProof.Rows L2 RV TL
/-- [x for x in xs if ..], over a list of texts -/
theorem lc_strsF {K : PySem.W.Frag} {tt : TT} {te : TE} {σ : L2.St} {H1 : Hp} {a D : Addr} {v : Nat} {ws : List Str} (f : Str → Bool) {Qd : Hp → Prop} (hT : SqL K H1 a (ws.map V.str)) (hl : ws.length ≤ 100000) (nD : H1 D = none)
    (htt : ∀ x ∈ ws, ∀ (H' : Hp) (Q : Bool → Hp → Prop), Same H1 H' → (∀ H2, Same H' H2 → Q (f x) H2) → tt ((wipe σ [v]).set v (some (.str x))) H' Q)
    (hte : ∀ x ∈ ws, ∀ (H' : Hp) (Q : VK), Q (.str x) H' → te ((wipe σ [v]).set v (some (.str x))) H' Q)
    (hd : ∀ H', Same H1 H' → H' D = some (.lst ((ws.filter f).map V.str)) → Qd H') :
    ∃ W : Nat → Nat → Hp → Prop, (∃ m, W 0 m (upd H1 D (.lst []))) ∧ ∀ i m H, W i m H →
      ((Itl K a).stop i H ∧ Qd H) ∨ ((Itl K a).go i H ∧ ∃ Nx : Hp → Prop, (∀ H', Nx H' → ∃ m', m' < m ∧ W (i + 1) m' H') ∧ ∀ x H', (Itl K a).yld i H x H' → gName v x (wipe σ [v]) H' fun σ2 H2 => wipe σ2 [v] = wipe σ [v] ∧ tt σ2 H2 fun b H3 =>
        if b = true then te σ2 H3 fun y H4 => ∃ acc, H4 D = some (.lst acc) ∧ acc.length < sizeLine ∧ Nx (upd H4 D (.lst (acc ++ [y]))) else Nx H3) := by
  refine lc_list (K := K) (a := a) (xs := ws.map V.str) (fun i H' => Same H1 H' ∧ H' D = some (.lst (((ws.take i).filter f).map V.str))) ⟨same_upd nD, upd_same⟩ (fun i H' _ p => sqL_same p.1 hT) (fun i x H' hx p => ?_) fun H' p => ?_
  · obtain ⟨y, g, rfl⟩ := map_at hx
    have hin := List.mem_of_getElem? g
    have hi : i < ws.length := (List.getElem?_eq_some_iff.mp g).1
    have en : (ws.take (i + 1)).filter f = (ws.take i).filter f ++ (if f y = true then [y] else []) := by
      rw [List.take_add_one, g]
      show List.filter f (_ ++ [y]) = _
      rw [List.filter_append]
      cases h : f y <;> simp [h]
    refine ⟨by simp [wipe, List.set_set], htt y hin _ _ p.1 fun H3 s3 => ?_⟩
    cases h : f y with
    | true =>
      rw [if_pos rfl]
      refine hte y hin _ _ ⟨_, s3 _ _ p.2, ?_, fun b o w => ?_, ?_⟩
      · have := List.length_filter_le f (ws.take i)
        rw [List.length_take] at this
        rw [List.length_map, sizeLine_eq]; omega
      · rw [upd_ne (ne_of_none w nD)]; exact s3 _ _ (p.1 b o w)
      · rw [upd_same, en, if_pos h, List.map_append]; rfl
    | false =>
      rw [if_neg (by decide)]
      refine ⟨fun b o w => s3 _ _ (p.1 b o w), ?_⟩
      rw [s3 _ _ p.2, en, if_neg (by rw [h]; decide), List.append_nil]
  · rw [List.length_map, List.take_of_length_le (Nat.le_refl _)] at p
    exact hd H' p.1 p.2
theorem RunOk.over {K : PySem.W.Frag} {H : Hp} {D : Addr} {vs : List V} {o : HO} {k : Rk} (h : RunOk K H k) (e : H D = some (.lst vs)) : RunOk K (upd H D o) k := ⟨sqT_over e h.1, sqT_over e h.2⟩
theorem inV_no (n : Int) : inV (.int n) [.non, .int 0] = decide (n = 0) := by
  have h : inV (.int n) [.non, .int 0] = decide ((0 : Int) = n) := by
    unfold inV
    simp only [List.any_cons, List.any_nil, Bool.or_false]
    rw [Bool.eq_iff_iff, decide_eq_true_iff]
    constructor
    · intro e
      rcases Bool.or_eq_true_iff.mp e with e | e
      · cases e
      · have e : ((0 : Int) == n) = true := e
        exact eq_of_beq e
    · rintro rfl
      rfl
  rw [h]
  exact decide_eq_decide.mpr ⟨fun e => e.symm, fun e => e.symm⟩
theorem runF_two {w : Str} (h : (Txt.split w star).length ≠ 2) : runF w = none := by
  unfold runF
  match e : Txt.split w star, h with
  | [], _ => rfl
  | [_], _ => rfl
  | [_, _], h => exact absurd rfl h
  | _ :: _ :: _ :: _, _ => rfl
theorem runF_pair {w a b : Str} (h : Txt.split w star = [a, b]) : runF w = goodF (numF a) (numsF (Txt.split b pt1)) := by
  unfold runF
  rw [h]
/-- marks of one figure each -/
theorem octs_some {ms : List Str} (h : ∀ m ∈ ms, ∃ n, n < 8 ∧ numF m = some n) (ne : ms ≠ []) : numsF ms = some (ms.filterMap numF) ∧ mkB 8 ((ms.filterMap numF).map fun (i : Nat) => (i : Int)) = true ∧ ms.map optV = ((ms.filterMap numF).map fun (n : Nat) => (n : Int)).map V.int := by
  have e0 : (ms.any fun w => (numF w).isNone) = false := by
    rw [List.any_eq_false]
    intro m hm
    obtain ⟨n, _, e⟩ := h m hm
    rw [e]; exact Bool.false_ne_true
  refine ⟨?_, ?_, optV_ints ms e0⟩
  · unfold numsF
    rw [if_neg (by rw [e0]; decide)]
  · unfold mkB
    rw [Bool.and_eq_true, decide_eq_true_iff, List.all_eq_true, List.length_map]
    constructor
    · cases ms with
      | nil => exact absurd rfl ne
      | cons m r =>
        obtain ⟨n, _, e⟩ := h m (List.mem_cons_self ..)
        rw [List.filterMap_cons_some e]
        exact Nat.succ_pos _
    · intro i hi
      obtain ⟨n, hn, rfl⟩ := List.mem_map.mp hi
      obtain ⟨m, hm, e⟩ := List.mem_filterMap.mp hn
      obtain ⟨k, hk, e2⟩ := h m hm
      rw [e2] at e
      cases e
      rw [Bool.and_eq_true, decide_eq_true_iff, decide_eq_true_iff]
      omega
theorem octs_none {ms : List Str} {m : Str} (hm : m ∈ ms) (no : ¬ ∃ n, n < 8 ∧ numF m = some n) (n : Option Nat) : goodF n (numsF ms) = none := by
  rcases numsF_cases ms with ⟨_, e⟩ | ⟨e0, e⟩
  · rw [e, goodF_no]
  · rw [e]
    cases n with
    | none => rfl
    | some n =>
      refine if_neg (fun y => ?_)
      have y2 := y.2
      unfold mkB at y2
      rw [Bool.and_eq_true, List.all_eq_true] at y2
      cases em : numF m with
      | none =>
        have : (ms.any fun w => (numF w).isNone) = true := List.any_eq_true.mpr ⟨m, hm, by rw [em]; rfl⟩
        rw [e0] at this; cases this
      | some k =>
        have z := y2.2 (k : Int) (List.mem_map.mpr ⟨k, List.mem_filterMap.mpr ⟨m, hm, em⟩, rfl⟩)
        rw [Bool.and_eq_true, decide_eq_true_iff, decide_eq_true_iff] at z
        exact no ⟨k, by omega, em⟩
section
variable {P : Program} {w : World} {K : PySem.W.Frag} {mg : Str → Option Value} {base : Heap} {t1 t2 t3 : Tok}
/-! ### _law_read_ring -/
abbrev nLR : List Str := ["_law_text", "_law_found", "_law_word", "_law_pieces", "_law_marks", "_law_mark"]
theorem scLR : FnScope nLR ["_law_text"] (defScope sLReadRing) := ⟨rfl, rfl, rfl, by decide +kernel, rfl, by decide +kernel, by decide +kernel⟩
def spLR (K : PySem.W.Frag) : Sp := fun vs H Q _ => ∃ z : Str, vs = [.str z] ∧ z.length ≤ 900 ∧ (ringF z = none → ∀ H', Same H H' → Q .non H') ∧ ∀ rs, ringF z = some rs → ∀ (a : Addr) H', Same H H' → RingAt K H' a rs → Q (.ref a) H'
theorem ok_lr {f fF : Addr} {fd fdF : FuncData} (F : Fun K "_law_read_ring" "_law_read_ring" sLReadRing f fd) (DF : DefAt K mg "_law_figures" sFigures ["_law_word"] fF fdF) (B : Bare mg) : FnOk P w K mg base CX0 2 f fd ["_law_text"] (spLR K) := by
  have GF : FnOk P w K mg base CX0 1 fF fdF ["_law_word"] spFg := ok_fg DF.fn B
  refine F.ok scLR (fun vs H Q E h => ?_) (fun cdv A outer s H vs Q E hr h => ?_)
  · obtain ⟨n, rfl, _⟩ := h
    rfl
  · obtain ⟨z, rfl, lz, qN, q⟩ := h
    refine ⟨_, pss_cons (ps_set (i := 1) scLR.nd rfl (Or.inl rfl) (pe_lst pa_nil))
      (pss_cons (ps_for PassesOwn.never rfl (pi_list (pe_split (pv 0) pe_str)) (pg_name (i := 2) scLR.nd rfl (Or.inl rfl))
        (pss_cons (ps_set (i := 3) scLR.nd rfl (Or.inl rfl) (pe_split (pv 2) pe_str))
        (pss_cons (ps_if (PW.pt (pw_or (pt_cmpR op_ne (pe_callB call_len_seq (by rfl) B.len PySem.boot_len (pa_cons (pv 3) pa_nil)) pe_int (nomark _)) (pw_or1 (pt_cmpR op_in_seq (pe_call GF hr (by rfl) DF.mg DF.fn.kp DF.bi .nil pass0 (pa_cons (pe_ix ix_list (pv 3) pe_int (fun _ _ => rfl)) pa_nil)) (pe_tup (pa_cons pe_non (pa_cons pe_int pa_nil))) (by rfl))))) (pss_one (ps_ret pe_non)) pss_nil)
        (pss_cons (ps_set (i := 4) scLR.nd rfl (Or.inl rfl) (pe_split (pe_ix ix_list (pv 3) pe_int (fun _ _ => rfl)) pe_str))
        (pss_cons (ps_if (pt_cmpR (op_neL0 hr.units) (pe_lc (own := [("_law_mark", 5)]) (g := gName 5) rfl scLR.nd (pi_list (pv 4)) (blkOk_by (N := nLR) (sc := defScope sLReadRing) (by decide +kernel)) (fun _ _ _ _ _ => pg_name (i := 5) scLR.nd rfl (Or.inl rfl))
          (fun _ _ _ _ _ => pts_one (pt_cmpR (op_notInK (K := K) rfl) (pv 5) (pe_callTy (call_listS rfl) (by rfl) B.list (by decide +kernel) (pa_cons pe_str pa_nil)) (by rfl)))
          (fun _ _ _ _ _ => pv 5)) (pe_lst pa_nil) (nomark _)) (pss_one (ps_ret pe_non)) pss_nil)
        (pss_one (ps_expr (pe_bm PySem.F.plainAttrs_list PySem.F.slot_list_append PySem.F.type_list_append mt_append (pv 1) (pa_cons (pe_tup (pa_cons (pe_callTy call_int_str (by rfl) B.int (by decide +kernel) (pa_cons (pe_ix ix_list (pv 3) pe_int (fun _ _ => rfl)) pa_nil)) (pa_cons (pe_tupleOf (by rfl) B.tuple
          (pe_lc (own := [("_law_mark", 5)]) (g := gName 5) (tt := tYes) rfl scLR.nd (pi_list (pv 4)) (blkOk_by (N := nLR) (sc := defScope sLReadRing) (by decide +kernel)) (fun _ _ _ _ _ => pg_name (i := 5) scLR.nd rfl (Or.inl rfl)) (fun _ _ _ _ _ => pts_nil)
          (fun _ _ _ _ _ => pe_callTy call_int_str (by rfl) B.int (by decide +kernel) (pa_cons (pv 5) pa_nil)))) pa_nil))) pa_nil)))))))))
      (pss_one (ps_ret (pe_tupleOf (by rfl) B.tuple (pv 1))))), ?_⟩
    have zz : sizeLine ≥ 100000 := by rw [sizeLine_eq]; decide
    have cz := cut_sp z
    have lrow := cz.len
    have short : ∀ y ∈ Txt.split z sp1, y.length ≤ 900 := fun y hy => by have := cz.short hy; omega
    refine ⟨by show 0 ≤ sizeLine; omega, fun D nD => ?_⟩
    have sD := same_upd (o := .lst []) nD
    have eD : (upd H D (.lst [])) D = some (.lst []) := upd_same
    generalize upd H D (.lst []) = H0 at sD eD ⊢
    refine nx_step ?_
    dsimp only
    refine ⟨.str z, rfl, ⟨_, rfl⟩, z, sp1, rfl, rfl, by decide +kernel, by omega, fun la nla => ?_⟩
    unfold ringF at qN q
    generalize Txt.split z sp1 = ws at cz lrow qN q short ⊢
    have ela : (upd H0 la (.lst (ws.map V.str))) la = some (.lst (ws.map V.str)) := upd_same
    have sla := same_upd (o := .lst (ws.map V.str)) nla
    have eD1 := sla _ _ eD
    have nela : D ≠ la := ne_of_none eD nla
    generalize upd H0 la (.lst (ws.map V.str)) = H1 at ela sla eD1 ⊢
    refine ⟨la, rfl, ⟨_, lstNew ela⟩, ?_⟩
    have s01 := sD.trans sla
    refine for_list (K := K) (a := la) (xs := ws.map V.str) (fun i σ H' => (∃ y2 y3 y4 y5 : Option V, σ = [some (.str z), some (.ref D), y2, y3, y4, y5]) ∧ Same H H' ∧ H' la = some (.lst (ws.map V.str)) ∧ ∃ ks : List Rk, H' D = some (.lst (ks.map fun k => V.ref k.1)) ∧ (ws.take i).map runF = (ks.map valR).map some ∧ ∀ k ∈ ks, RunOk K H' k)
      ⟨⟨_, _, _, _, rfl⟩, s01, ela, [], eD1, rfl, fun _ w => nomatch w⟩ (fun i σ H' _ h => lstNew h.2.2.1) (fun i x σ H2 hx h => ?_) fun σ H2 h => ?_
    · obtain ⟨⟨y2, y3, y4, y5, rfl⟩, s2, ela2, ks, eD2, ek, hk⟩ := h
      obtain ⟨y, g, rfl⟩ := map_at hx
      have hin := List.mem_of_getElem? g
      have hi : i < ws.length := (List.getElem?_eq_some_iff.mp g).1
      have ly := short y hin
      have lks : ks.length ≤ 1000 := by
        have := congrArg List.length ek
        rw [List.length_map, List.length_map, List.length_map, List.length_take] at this
        omega
      have bad : runF y = none → ∀ H', Same H2 H' → Q .non H' := fun e H' s' => qN (allSome_none.mpr (List.mem_map.mpr ⟨y, hin, e⟩)) H' (s2.trans s')
      dsimp only [gName]
      have cy := cut_star y
      refine ⟨.str y, rfl, ⟨_, rfl⟩, y, star, rfl, rfl, by decide +kernel, by omega, fun A nA => ?_⟩
      have sA := same_upd (o := .lst ((Txt.split y star).map V.str)) nA
      have eA : (upd H2 A (.lst ((Txt.split y star).map V.str))) A = some (.lst ((Txt.split y star).map V.str)) := upd_same
      have l2 := runF_two (w := y)
      have lcy := cy.len
      have shy : ∀ u ∈ Txt.split y star, u.length ≤ 900 := fun u hu => by have := cy.short hu; omega
      have rp := @runF_pair y
      generalize Txt.split y star = ps at sA eA l2 lcy shy rp ⊢
      generalize upd H2 A (.lst (ps.map V.str)) = H3 at sA eA ⊢
      refine nx_step ?_
      dsimp only
      refine ⟨.ref A, rfl, A, _, rfl, .inl (lstNew eA), rfl, _, rfl, ?_⟩
      by_cases e2 : ps.length = 2
      case neg =>
        rw [decide_eq_false (show ¬ V.int (((ps.map V.str).length : Nat) : Int) = V.int 2 from fun y => e2 (by have := V.int.inj y; rw [List.length_map] at this; omega))]
        exact iteT (bad (l2 e2) H3 sA)
      rw [decide_eq_true (show V.int (((ps.map V.str).length : Nat) : Int) = V.int 2 by rw [List.length_map, e2]; rfl)]
      obtain ⟨u, v, rfl⟩ : ∃ u v, ps = [u, v] := by
        match ps, e2 with
        | [u, v], _ => exact ⟨u, v, rfl⟩
      have er := rp rfl
      have lu := shy u (by simp)
      have lv := shy v (by simp)
      refine iteF ⟨.ref A, rfl, A, _, 0, .str u, rfl, rfl, lstNew eA, rfl, u, rfl, by omega, fun H4 s4 => ?_⟩
      refine ⟨by show 2 ≤ sizeLine; omega, fun T nT => ?_⟩
      have sT := same_upd (o := .tup [.non, .int 0]) nT
      have eT : (upd H4 T (.tup [.non, .int 0])) T = some (.tup [.non, .int 0]) := upd_same
      generalize upd H4 T (.tup [.non, .int 0]) = H5 at sT eT ⊢
      have s35 := s4.trans sT
      refine ⟨T, _, rfl, .inr (tupNew eT), by unfold optV; cases numF u <;> rfl, rfl, _, rfl, ?_⟩
      rw [if_neg (by decide)]
      have eA5 := s35 _ _ eA
      have s05 := sA.trans s35
      cases eu : numF u with
      | none =>
        have eo : optV u = .non := by unfold optV; rw [eu]
        rw [eo]
        exact iteT (bad (by rw [er, eu]; rfl) H5 s05)
      | some n =>
        have eo : optV u = .int (n : Int) := by unfold optV; rw [eu]
        rw [eo, inV_no]
        by_cases n0 : n = 0
        · rw [decide_eq_true (show (n : Int) = 0 by omega)]
          refine iteT (bad ?_ H5 s05)
          rw [er, eu]
          cases numsF (Txt.split v pt1) with
          | none => rfl
          | some ms => exact if_neg (fun y => y.1 n0)
        rw [decide_eq_false (show ¬ (n : Int) = 0 by omega)]
        refine iteF ?_
        unfold tNext
        dsimp only
        have cv := cut_pt v
        have lcv := cv.len
        have vne := cv.ne
        have shv : ∀ m ∈ Txt.split v pt1, m.length ≤ 900 := fun m hm => by have := cv.short hm; omega
        refine ⟨.ref A, rfl, A, _, 1, .str v, rfl, rfl, lstNew eA5, rfl, ⟨_, rfl⟩, v, pt1, rfl, rfl, by decide +kernel, by omega, fun M nM => ?_⟩
        generalize Txt.split v pt1 = ms at lcv vne shv er ⊢
        have sM := same_upd (o := .lst (ms.map V.str)) nM
        have eM : (upd H5 M (.lst (ms.map V.str))) M = some (.lst (ms.map V.str)) := upd_same
        have eA6 := sM _ _ eA5
        have s06 := s05.trans sM
        generalize upd H5 M (.lst (ms.map V.str)) = H6 at sM eM eA6 s06 ⊢
        refine nx_step ?_
        dsimp only
        refine ⟨.ref M, rfl, M, rfl, ⟨_, lstNew eM⟩, fun D2 nD2 => ?_⟩
        refine lc_strsF (K := K) (fun x => !decide (x ∈ oneS sOct)) (lstNew eM) (by omega) nD2 (fun x hx H' Q' s1 q1 => ?_) (fun x hx H' Q' q1 => ⟨_, rfl, q1⟩) fun H7 s7 e7 => ?_
        · refine ⟨.str x, rfl, sOct, rfl, by decide +kernel, fun L nL => ?_⟩
          rw [one_map]
          refine ⟨L, _, rfl, .inl (lstNew upd_same), rfl, flat_strs _, _, rfl, ?_⟩
          rw [inV_strs]
          exact q1 _ (same_upd (o := .lst ((oneS sOct).map V.str)) nL)
        refine ⟨by show 0 ≤ sizeLine; exact Nat.zero_le _, fun L nL => ?_⟩
        have sL := same_upd (o := .lst []) nL
        refine ⟨D2, L, _, rfl, rfl, lstNew (sL _ _ e7), lstNew upd_same, _, rfl, ?_⟩
        have s68 := s7.trans sL
        generalize upd H7 L (.lst []) = H8 at s68 ⊢
        rw [List.length_map]
        by_cases hd : (ms.filter fun x => !decide (x ∈ oneS sOct)).length = 0
        case neg =>
          rw [decide_eq_false hd]
          obtain ⟨m, hm⟩ := List.exists_mem_of_ne_nil _ (List.length_pos_iff.mp (Nat.pos_of_ne_zero hd))
          obtain ⟨hm1, hm2⟩ := List.mem_filter.mp hm
          have no : ¬ ∃ n, n < 8 ∧ numF m = some n := fun y => by
            have z : m ∈ oneS sOct := oct_iff.mpr y
            rw [decide_eq_true z] at hm2
            cases hm2
          exact iteT (bad (by rw [er]; exact octs_none hm1 no _) H8 (s06.trans s68))
        rw [decide_eq_true hd]
        refine iteF ?_
        try unfold tNext
        dsimp only
        have octs : ∀ m ∈ ms, ∃ n, n < 8 ∧ numF m = some n := fun m hm => by
          refine oct_iff.mp (Decidable.byContradiction fun h => ?_)
          have h : ¬ m ∈ oneS sOct := h
          have hm' : m ∈ ms.filter (fun x => !decide (x ∈ oneS sOct)) := List.mem_filter.mpr ⟨hm, by rw [decide_eq_false h]; rfl⟩
          have := List.length_pos_iff.mpr (List.ne_nil_of_mem hm')
          omega
        obtain ⟨o1, o2, o3⟩ := octs_some octs vne
        have eA8 := s68 _ _ eA6
        have eM8 := s68 _ _ eM
        have s08 := s06.trans s68
        have eD8 := s08 _ _ eD2
        obtain ⟨n30, eun⟩ := numF_some.mp eu
        refine ⟨.ref D, rfl, .inl ⟨rfl, _, lstNew eD8⟩, .ref A, rfl, A, _, 0, .str u, rfl, rfl, lstNew eA8, rfl, u, (n : Int), rfl, by rw [eun]; exact num_int n30, by rw [eun]; have := num_len n30; omega, .ref M, rfl, M, rfl, ⟨_, lstNew eM8⟩, fun D3 nD3 => ?_⟩
        refine lc_mapV (ys := ms.map optV) (lstNew eM8) (by rw [List.length_map]; omega) (by rw [List.length_map, List.length_map]) nD3 (fun i x y' hx' hy H' Q' s1 q3 => ?_) fun H9 s9 e9 => ?_
        · obtain ⟨m, gm, rfl⟩ := map_at hx'
          obtain ⟨m', gm', rfl⟩ := map_at hy
          cases gm.symm.trans gm'
          obtain ⟨k, hk8, em⟩ := octs m (List.mem_of_getElem? gm)
          obtain ⟨k30, emk⟩ := numF_some.mp em
          have eo : optV m = .int (k : Int) := by unfold optV; rw [em]
          have lm := shv m (List.mem_of_getElem? gm)
          have z := q3 H' (Same.refl H')
          rw [eo] at z
          exact ⟨.str m, rfl, m, (k : Int), rfl, by rw [emk]; exact num_int k30, by rw [emk]; have := num_len k30; omega, z⟩
        rw [o3] at e9
        refine .inl ⟨D3, _, rfl, lstNew e9, fun b nb => ?_⟩
        have sb := same_upd (o := .tup (((ms.filterMap numF).map fun (n : Nat) => (n : Int)).map V.int)) nb
        have eb : (upd H9 b (.tup (((ms.filterMap numF).map fun (n : Nat) => (n : Int)).map V.int))) b = some (.tup (((ms.filterMap numF).map fun (n : Nat) => (n : Int)).map V.int)) := upd_same
        refine ⟨by show 2 ≤ sizeLine; omega, fun U nU => ?_⟩
        have sU := same_upd (o := .tup [.int (n : Int), .ref b]) nU
        have s8U := (s9.trans sb).trans sU
        have eDU := s8U _ _ eD8
        refine ⟨D, _, .ref U, rfl, rfl, eDU, by rw [List.length_map]; omega, ?_⟩
        refine ⟨⟨_, _, _, _, rfl⟩, fun c o w => ?_, ?_, ks ++ [(U, b, (n : Int), (ms.filterMap numF).map fun (n : Nat) => (n : Int))], ?_, ?_, fun k hk' => ?_⟩
        · rw [upd_ne (ne_of_none w nD)]; exact s8U _ _ (s08 _ _ (s2 c o w))
        · rw [upd_ne (Ne.symm nela)]; exact s8U _ _ (s08 _ _ ela2)
        · rw [upd_same, List.map_append]; rfl
        · rw [take_map_next g, ek, List.map_append, List.map_append, er, eu, o1]
          exact congrArg (List.map some (List.map valR ks) ++ [·]) (if_pos ⟨n0, o2⟩)
        · rcases List.mem_append.mp hk' with w | w
          · exact RunOk.over (((hk k w).same s08).same s8U) eDU
          · rcases List.mem_singleton.mp w with rfl
            exact RunOk.over ⟨tupNew upd_same, tupNew (sU _ _ eb)⟩ eDU
    · obtain ⟨⟨y2, y3, y4, y5, rfl⟩, s2, ela2, ks, eD2, ek, hk⟩ := h
      rw [List.length_map, List.take_of_length_le (Nat.le_refl _)] at ek
      dsimp only
      refine ⟨.ref D, rfl, .inl ⟨D, _, rfl, lstNew eD2, fun b nb => ?_⟩⟩
      have sb := same_upd (o := .tup (ks.map fun k => V.ref k.1)) nb
      exact q (ks.map valR) (allSome_some.mpr ek) b _ (s2.trans sb) ⟨ks, rfl, tupNew upd_same, fun k hk' => (hk k hk').same sb⟩
end
end K53
set_option maxHeartbeats 4000000
namespace K53
open PySem PySem.Spec PyProof.Rows L2 RV TL
theorem inV_non (ws : List Str) : inV .non (ws.map optV) = ws.any fun w => (numF w).isNone := by
  unfold inV
  rw [List.any_map]
  congr 1
  funext w
  show eqV (optV w) .non = _
  unfold optV
  cases numF w <;> rfl
theorem flat_opt (ws : List Str) : (ws.map optV).all flatV = true := by
  rw [List.all_map, List.all_eq_true]
  intro w _
  show flatV (optV w) = true
  unfold optV
  cases numF w <;> rfl
theorem numsF_all {ws : List Str} (h : (ws.any fun w => (numF w).isNone) = false) : numsF ws = some (ws.filterMap numF) ∧ (ws.filterMap numF).length = ws.length ∧ ws.map optV = ((ws.filterMap numF).map fun (n : Nat) => (n : Int)).map V.int := by
  have e := optV_ints ws h
  refine ⟨?_, ?_, e⟩
  · unfold numsF
    rw [if_neg (by rw [h]; decide)]
  · have := congrArg List.length e
    rw [List.length_map, List.length_map, List.length_map] at this
    exact this.symm
theorem numsF_no {ws : List Str} (h : (ws.any fun w => (numF w).isNone) = true) : numsF ws = none := by
  unfold numsF
  rw [if_pos h]
theorem twoF_len {ws : List Str} (h : ws.length ≠ 2) : twoF (numsF ws) = none := by
  cases e : ws.any fun w => (numF w).isNone with
  | true => rw [numsF_no e]; rfl
  | false =>
    obtain ⟨e1, e2, _⟩ := numsF_all e
    rw [e1]
    exact if_neg (by rw [e2]; exact h)
section
variable {P : Program} {w : World} {K : PySem.W.Frag} {mg : Str → Option Value} {base : Heap} {t1 t2 t3 : Tok}
/-! ### _law_read_plan -/
abbrev nLP : List Str := ["_law_text", "_law_found", "_law_word", "_law_numbers", "_law_part"]
theorem scLP : FnScope nLP ["_law_text"] (defScope sLReadPlan) := ⟨rfl, rfl, rfl, by decide +kernel, rfl, by decide +kernel, by decide +kernel⟩
def spLP (K : PySem.W.Frag) : Sp := fun vs H Q _ => ∃ z : Str, vs = [.str z] ∧ z.length ≤ 900 ∧ (planF z = none → ∀ H', Same H H' → Q .non H') ∧ ∀ ps, planF z = some ps → ∀ (a : Addr) H', Same H H' → Tups K H' a ps → Q (.ref a) H'
theorem ok_lp {f fF : Addr} {fd fdF : FuncData} (F : Fun K "_law_read_plan" "_law_read_plan" sLReadPlan f fd) (DF : DefAt K mg "_law_figures" sFigures ["_law_word"] fF fdF) (B : Bare mg) : FnOk P w K mg base CX0 2 f fd ["_law_text"] (spLP K) := by
  have GF : FnOk P w K mg base CX0 1 fF fdF ["_law_word"] spFg := ok_fg DF.fn B
  refine F.ok scLP (fun vs H Q E h => ?_) (fun cdv A outer s H vs Q E hr h => ?_)
  · obtain ⟨n, rfl, _⟩ := h
    rfl
  · obtain ⟨z, rfl, lz, qN, q⟩ := h
    refine ⟨_, pss_cons (ps_if (pt_cmpR op_eq (pv 0) pe_str (nomark _)) (pss_one (ps_ret (pe_tup pa_nil))) pss_nil)
      (pss_cons (ps_set (i := 1) scLP.nd rfl (Or.inl rfl) (pe_lst pa_nil))
      (pss_cons (ps_for PassesOwn.never rfl (pi_list (pe_split (pv 0) pe_str)) (pg_name (i := 2) scLP.nd rfl (Or.inl rfl))
        (pss_cons (ps_setLc (i := 3) (own := [("_law_part", 4)]) (g := gName 4) (tt := tYes) rfl scLP.nd rfl rfl (by rfl) (pi_list (pe_split (pv 2) pe_str)) (blkOk_by (N := nLP) (sc := defScope sLReadPlan) (by decide +kernel)) (fun _ _ _ _ _ => pg_name (i := 4) scLP.nd rfl (Or.inl rfl)) (fun _ _ _ _ _ => pts_nil)
          (fun _ _ _ _ _ => pe_call GF hr (by rfl) DF.mg DF.fn.kp DF.bi .nil pass0 (pa_cons (pv 4) pa_nil)))
        (pss_cons (ps_if (PW.pt (pw_or (pt_cmpR op_ne (pe_callB call_len_seq (by rfl) B.len PySem.boot_len (pa_cons (pv 3) pa_nil)) pe_int (nomark _)) (pw_or1 (pt_cmpR op_in_seq pe_non (pv 3) (by rfl))))) (pss_one (ps_ret pe_non)) pss_nil)
        (pss_one (ps_expr (pe_bm PySem.F.plainAttrs_list PySem.F.slot_list_append PySem.F.type_list_append mt_append (pv 1) (pa_cons (pe_tupleOf (by rfl) B.tuple (pv 3)) pa_nil)))))))
      (pss_one (ps_ret (pe_tupleOf (by rfl) B.tuple (pv 1)))))), ?_⟩
    have zz : sizeLine ≥ 100000 := by rw [sizeLine_eq]; decide
    unfold planF at qN q
    refine ⟨.str z, rfl, rfl, _, rfl, ?_⟩
    by_cases e : z = dash
    · rw [decide_eq_true (show V.str z = V.str (Str.ofString "-") from congrArg V.str e)]
      rw [if_pos e] at q
      exact iteT ⟨by show 0 ≤ sizeLine; omega, fun c nc => q [] rfl c _ (same_upd nc) ⟨[], rfl, tupNew upd_same, fun _ w => nomatch w⟩⟩
    rw [if_neg e] at qN q
    rw [decide_eq_false (show ¬ V.str z = V.str (Str.ofString "-") from fun y => e (V.str.inj y))]
    refine iteF ?_
    try unfold tNext
    dsimp only
    have cz := cut_sp z
    have lrow := cz.len
    have short : ∀ y ∈ Txt.split z sp1, y.length ≤ 900 := fun y hy => by have := cz.short hy; omega
    refine ⟨by show 0 ≤ sizeLine; omega, fun D nD => ?_⟩
    have sD := same_upd (o := .lst []) nD
    have eD : (upd H D (.lst [])) D = some (.lst []) := upd_same
    generalize upd H D (.lst []) = H0 at sD eD ⊢
    refine nx_step ?_
    dsimp only
    refine ⟨.str z, rfl, ⟨_, rfl⟩, z, sp1, rfl, rfl, by decide +kernel, by omega, fun la nla => ?_⟩
    generalize Txt.split z sp1 = ws at cz lrow qN q short ⊢
    have ela : (upd H0 la (.lst (ws.map V.str))) la = some (.lst (ws.map V.str)) := upd_same
    have sla := same_upd (o := .lst (ws.map V.str)) nla
    have eD1 := sla _ _ eD
    have nela : D ≠ la := ne_of_none eD nla
    generalize upd H0 la (.lst (ws.map V.str)) = H1 at ela sla eD1 ⊢
    refine ⟨la, rfl, ⟨_, lstNew ela⟩, ?_⟩
    have s01 := sD.trans sla
    refine for_list (K := K) (a := la) (xs := ws.map V.str) (fun i σ H' => (∃ y2 y3 y4 : Option V, σ = [some (.str z), some (.ref D), y2, y3, y4]) ∧ Same H H' ∧ H' la = some (.lst (ws.map V.str)) ∧ ∃ ks : List (Addr × List Int), H' D = some (.lst (ks.map fun k => V.ref k.1)) ∧ (ws.take i).map pairF = (ks.map (·.2)).map some ∧ ∀ k ∈ ks, SqT K H' k.1 (k.2.map V.int))
      ⟨⟨_, _, _, rfl⟩, s01, ela, [], eD1, rfl, fun _ w => nomatch w⟩ (fun i σ H' _ h => lstNew h.2.2.1) (fun i x σ H2 hx h => ?_) fun σ H2 h => ?_
    · obtain ⟨⟨y2, y3, y4, rfl⟩, s2, ela2, ks, eD2, ek, hk⟩ := h
      obtain ⟨y, g, rfl⟩ := map_at hx
      have hin := List.mem_of_getElem? g
      have hi : i < ws.length := (List.getElem?_eq_some_iff.mp g).1
      have ly := short y hin
      have lks : ks.length ≤ 1000 := by
        have := congrArg List.length ek
        rw [List.length_map, List.length_map, List.length_map, List.length_take] at this
        omega
      have bad : pairF y = none → ∀ H', Same H2 H' → Q .non H' := fun e H' s' => qN (allSome_none.mpr (List.mem_map.mpr ⟨y, hin, e⟩)) H' (s2.trans s')
      dsimp only [gName]
      have cy := cut_slash y
      have er := pairF_two y
      refine ⟨.str y, rfl, ⟨_, rfl⟩, y, slash, rfl, rfl, by decide +kernel, by omega, fun A nA => ?_⟩
      have lcy := cy.len
      have shy : ∀ u ∈ Txt.split y slash, u.length ≤ 900 := fun u hu => by have := cy.short hu; omega
      generalize Txt.split y slash = ps at lcy shy er ⊢
      have sA := same_upd (o := .lst (ps.map V.str)) nA
      have eA : (upd H2 A (.lst (ps.map V.str))) A = some (.lst (ps.map V.str)) := upd_same
      generalize upd H2 A (.lst (ps.map V.str)) = H3 at sA eA ⊢
      refine ⟨A, rfl, ⟨_, lstNew eA⟩, fun D2 nD2 => ?_⟩
      refine lc_mapV (ys := ps.map optV) (lstNew eA) (by rw [List.length_map]; omega) (by rw [List.length_map, List.length_map]) nD2 (fun i x y' hx' hy H' Q' s1 q3 => ?_) fun H4 s4 e4 => ?_
      · obtain ⟨m, gm, rfl⟩ := map_at hx'
        obtain ⟨m', gm', rfl⟩ := map_at hy
        cases gm.symm.trans gm'
        exact ⟨.str m, rfl, m, rfl, by have := shy m (List.mem_of_getElem? gm); omega, fun H5 s5 => q3 H5 s5⟩
      refine nx_step ?_
      have s04 := sA.trans s4
      refine ⟨.ref D2, rfl, D2, _, rfl, .inl (lstNew e4), rfl, _, rfl, ?_⟩
      by_cases e2 : ps.length = 2
      case neg =>
        rw [decide_eq_false (show ¬ V.int (((ps.map optV).length : Nat) : Int) = V.int 2 from fun y => e2 (by have := V.int.inj y; rw [List.length_map] at this; omega))]
        exact iteT (bad (by rw [er]; exact twoF_len e2) H4 s04)
      rw [decide_eq_true (show V.int (((ps.map optV).length : Nat) : Int) = V.int 2 by rw [List.length_map, e2]; rfl)]
      refine iteF ⟨.ref D2, rfl, D2, _, rfl, .inl (lstNew e4), rfl, flat_opt _, _, rfl, ?_⟩
      rw [if_neg (by decide), inV_non]
      cases en : ps.any fun w => (numF w).isNone with
      | true => exact iteT (bad (by rw [er, numsF_no en]; rfl) H4 s04)
      | false =>
        obtain ⟨o1, o2, o3⟩ := numsF_all en
        rw [o3] at e4
        have eD4 := s04 _ _ eD2
        refine iteF ?_
        try unfold tNext
        dsimp only
        refine ⟨.ref D, rfl, .inl ⟨rfl, _, lstNew eD4⟩, .ref D2, rfl, .inl ⟨D2, _, rfl, lstNew e4, fun b nb => ?_⟩⟩
        have sb := same_upd (o := .tup (((ps.filterMap numF).map fun (n : Nat) => (n : Int)).map V.int)) nb
        have s0b := s04.trans sb
        have eDb := sb _ _ eD4
        refine ⟨D, _, .ref b, rfl, rfl, eDb, by rw [List.length_map]; omega, ?_⟩
        refine ⟨⟨_, _, _, rfl⟩, fun c o w => ?_, ?_, ks ++ [(b, (ps.filterMap numF).map fun (n : Nat) => (n : Int))], ?_, ?_, fun k hk' => ?_⟩
        · rw [upd_ne (ne_of_none w nD)]; exact s0b _ _ (s2 c o w)
        · rw [upd_ne (Ne.symm nela)]; exact s0b _ _ ela2
        · rw [upd_same, List.map_append]; rfl
        · rw [take_map_next g, ek, List.map_append, List.map_append, er, o1]
          exact congrArg (List.map some (List.map (·.2) ks) ++ [·]) (if_pos (by rw [o2]; exact e2))
        · rcases List.mem_append.mp hk' with w | w
          · exact sqT_over eDb (sqT_same s0b (hk k w))
          · rcases List.mem_singleton.mp w with rfl
            exact sqT_over eDb (tupNew upd_same)
    · obtain ⟨⟨y2, y3, y4, rfl⟩, s2, ela2, ks, eD2, ek, hk⟩ := h
      rw [List.length_map, List.take_of_length_le (Nat.le_refl _)] at ek
      dsimp only
      refine ⟨.ref D, rfl, .inl ⟨D, _, rfl, lstNew eD2, fun b nb => ?_⟩⟩
      have sb := same_upd (o := .tup (ks.map fun k => V.ref k.1)) nb
      exact q (ks.map (·.2)) (allSome_some.mpr ek) b _ (s2.trans sb) ⟨ks, rfl, tupNew upd_same, fun k hk' => sqT_same sb (hk k hk')⟩
end
end K53
set_option maxHeartbeats 4000000
namespace K53
open PySem PySem.Spec PyProof.Rows L2 RV TL
/-- how long the words are, one sign more each -/
def Wl (ls : List Str) : Nat := (ls.map (·.length)).sum + ls.length
theorem sub_sum : ∀ {a b : List Nat}, a.Sublist b → a.sum ≤ b.sum
  | _, _, .slnil => Nat.le_refl _
  | _, _, .cons x h => by have := sub_sum h; rw [List.sum_cons]; omega
  | _, _, .cons₂ x h => by have := sub_sum h; rw [List.sum_cons, List.sum_cons]; omega
theorem Wl_sub {a b : List Str} (s : a.Sublist b) : Wl a ≤ Wl b := by
  have h2 := sub_sum (s.map (·.length))
  have h3 := s.length_le
  unfold Wl; omega
theorem Wl_app (a b : List Str) : Wl (a ++ b) = Wl a + Wl b := by
  unfold Wl
  rw [List.map_append, List.sum_append, List.length_append]; omega
theorem Wl_rev (a : List Str) : Wl a.reverse = Wl a := by
  unfold Wl
  rw [List.map_reverse, List.sum_reverse, List.length_reverse]
theorem len_Wl (a : List Str) : a.length ≤ Wl a := by unfold Wl; omega
theorem sp_len : sp1.length = 1 := by rw [len_tl, tl_sp]; rfl
theorem join_Wl (a : List Str) : (Str.join sp1 a).length ≤ Wl a := by
  have h := join_len sp1 a
  rw [sp_len, Nat.mul_one] at h
  exact h
theorem cut_map (rows : List Str) (lo hi : Option Int) : ∃ l : List Str, cutV (rows.map V.str) lo hi = l.map V.str ∧ l.Sublist rows := by
  refine ⟨(rows.drop (HT.sIx (rows.map V.str).length 0 lo)).take (HT.sIx (rows.map V.str).length (rows.map V.str).length hi - HT.sIx (rows.map V.str).length 0 lo), ?_, (List.take_sublist ..).trans (List.drop_sublist ..)⟩
  unfold cutV
  rw [List.map_take, List.map_drop]
theorem sl_use {K : PySem.W.Frag} {H : Hp} {Q : VK} {a : Addr} {rows : List Str} {lo hi : Option Int} (hA : H a = some (.lst (rows.map V.str))) (k : ∀ (l : List Str) (b : Addr), l.Sublist rows → H b = none → Q (.ref b) (upd H b (.lst (l.map V.str)))) : rSlL K (.ref a) lo hi H Q := by
  obtain ⟨l, e, s⟩ := cut_map rows lo hi
  exact ⟨a, _, rfl, lstNew hA, fun p np => by rw [e]; exact k l p s np⟩
def signsB : Str := Str.ofString "0127 8*/.-x\n"
theorem signs_len : (tl signsB).length = 12 := by unfold signsB; rw [tl_ofString]; decide
theorem sign_at {j : Nat} {v : V} (h : ((tl signsB).map fun c => V.str ⟨#[c]⟩)[j]? = some v) : ∃ s : Str, v = .str s ∧ s.length = 1 := by
  obtain ⟨c, gc, rfl⟩ := map_at h
  exact ⟨⟨#[c]⟩, rfl, rfl⟩
section
variable {P : Program} {w : World} {K : PySem.W.Frag} {mg : Str → Option Value} {base : Heap} {t1 t2 t3 : Tok}
/-! ### _law_bent -/
abbrev nBt : List Str := ["_law_pail_here", "_law_text", "_law_way", "_law_sign", "_law_at", "_law_words", "_law_spot"]
theorem scBt : FnScope nBt ["_law_pail_here", "_law_text"] (defScope sBent) := ⟨rfl, rfl, rfl, by decide +kernel, rfl, by decide +kernel, by decide +kernel⟩
def spBt (K : PySem.W.Frag) : Sp := fun vs H Q _ => ∃ (p : Addr) (t : Nat) (z : Str), vs = [.ref p, .str z] ∧ PailAt H p t ∧ t ≤ 900 ∧ z.length ≤ 260 ∧
  ∀ (H' : Hp) (t' : Nat) (z' : Str), PailAt H' p t' → t' ≤ t + 4 → But p H H' → z'.length ≤ 900 → Q (.str z') H'
theorem ok_bt {f fD fO : Addr} {fd fdD fdO : FuncData} (F : Fun K "_law_bent" "_law_bent" sBent f fd) (DD : DefAt K mg "_law_draw" sDraw ["_law_pail_here", "_law_many"] fD fdD) (DO : DefAt K mg "_law_of" sOf ["_law_pail_here", "_law_some"] fO fdO)
    (B : Bare mg) : FnOk P w K mg base CX0 3 f fd ["_law_pail_here", "_law_text"] (spBt K) := by
  have GD : FnOk P w K mg base CX0 1 fD fdD ["_law_pail_here", "_law_many"] spDraw := ok_draw DD.fn
  have GO : FnOk P w K mg base CX0 2 fO fdO ["_law_pail_here", "_law_some"] (spOf K) := ok_of DO.fn DD B
  refine F.ok scBt (fun vs H Q E h => ?_) (fun cdv A outer s H vs Q E hr h => ?_)
  · obtain ⟨p, t, z, rfl, _⟩ := h
    rfl
  · obtain ⟨p, t, z, rfl, hp, ht, zl, q⟩ := h
    have r1 := hr.mono (show 1 ≤ 2 by decide)
    refine ⟨_, pss_cons (ps_par3 (i := 2) (j := 3) (l := 4) (by rfl) scBt.nd rfl rfl rfl (by decide) (by decide) (by decide) rfl rfl rfl (pa_cons (pe_call GD r1 (by rfl) DD.mg DD.fn.kp DD.bi .nil pass0 (pa_cons (pv 0) (pa_cons pe_int pa_nil)))
        (pa_cons (pe_call GO hr (by rfl) DO.mg DO.fn.kp DO.bi .nil pass0 (pa_cons (pv 0) (pa_cons (pe_callTy (call_listS rfl) (by rfl) B.list (by decide +kernel) (pa_cons pe_str pa_nil)) pa_nil)))
        (pa_cons (pe_call GD r1 (by rfl) DD.mg DD.fn.kp DD.bi .nil pass0 (pa_cons (pv 0) (pa_cons (pe_op op_add (pe_callB call_len_str (by rfl) B.len PySem.boot_len (pa_cons (pv 1) pa_nil)) pe_int) pa_nil))) pa_nil))) (by rfl))
      (pss_cons (ps_par (i := 5) (j := 6) (by rfl) scBt.nd rfl rfl (by decide) rfl rfl (pa_cons (pe_split (pv 1) pe_str) (pa_cons (pe_call GD r1 (by rfl) DD.mg DD.fn.kp DD.bi .nil pass0 (pa_cons (pv 0) (pa_cons pe_int pa_nil))) pa_nil)) (by rfl))
      (pss_cons (ps_if (pt_cmpR op_eq (pv 2) pe_int (nomark _)) (pss_one (ps_ret (pe_op op_add_str (pe_op op_add_str (pe_slice sl_str (pv 1) po_none (po_some (pv 4))) (pv 3)) (pe_slice sl_str (pv 1) (po_some (pv 4)) po_none)))) pss_nil)
      (pss_cons (ps_if (pt_cmpR op_eq (pv 2) pe_int (nomark _)) (pss_one (ps_ret (pe_op op_add_str (pe_slice sl_str (pv 1) po_none (po_some (pv 4))) (pe_slice sl_str (pv 1) (po_some (pe_op op_add (pv 4) pe_int)) po_none)))) pss_nil)
      (pss_cons (ps_if (pt_cmpR op_eq (pv 2) pe_int (nomark _)) (pss_one (ps_ret (pe_op op_add_str (pe_op op_add_str (pe_slice sl_str (pv 1) po_none (po_some (pv 4))) (pv 3)) (pe_slice sl_str (pv 1) (po_some (pe_op op_add (pv 4) pe_int)) po_none)))) pss_nil)
      (pss_cons (ps_if (pt_cmpR op_eq (pv 2) pe_int (nomark _)) (pss_one (ps_ret (pe_joinK (K := K) rfl pe_str (pe_op op_cat (pe_slice sl_list (pv 5) po_none (po_some (pv 6))) (pe_slice sl_list (pv 5) (po_some (pe_op op_add (pv 6) pe_int)) po_none))))) pss_nil)
      (pss_cons (ps_if (pt_cmpR op_eq (pv 2) pe_int (nomark _)) (pss_one (ps_ret (pe_joinK (K := K) rfl pe_str (pe_op op_cat (pe_op op_cat (pe_slice sl_list (pv 5) po_none (po_some (pv 6))) (pe_slice sl_list (pv 5) (po_some (pv 6)) (po_some (pe_op op_add (pv 6) pe_int)))) (pe_slice sl_list (pv 5) (po_some (pv 6)) po_none))))) pss_nil)
      (pss_one (ps_ret (pe_joinK (K := K) rfl pe_str (pe_op op_cat (pe_op op_cat (pe_slice sl_list (pv 5) po_none (po_some (pv 6))) (pe_revL (pe_slice sl_list (pv 5) (po_some (pv 6)) (po_some (pe_op op_add (pv 6) pe_int))))) (pe_slice sl_list (pv 5) (po_some (pe_op op_add (pv 6) pe_int)) po_none))))))))))), ?_⟩
    have zz : sizeLine ≥ 1000000 := by rw [sizeLine_eq]; decide
    refine ⟨.ref p, rfl, p, t, 6, rfl, hp, by omega, by decide, by decide, fun wy t1 H1 wy0 wy1 ht1 hp1 b1 => ?_⟩
    refine ⟨.ref p, rfl, signsB, rfl, by rw [len_tl, signs_len]; decide, fun L nL => ?_⟩
    have sL := same_upd (o := .lst ((tl signsB).map fun c => V.str ⟨#[c]⟩)) nL
    have eL : (upd H1 L (.lst ((tl signsB).map fun c => V.str ⟨#[c]⟩))) L = some (.lst ((tl signsB).map fun c => V.str ⟨#[c]⟩)) := upd_same
    have hpL := pail_same hp1 sL
    have bL := b1.trans (But.of (p := p) sL)
    have neL := pail_ne hp1 nL
    generalize upd H1 L (.lst ((tl signsB).map fun c => V.str ⟨#[c]⟩)) = H2 at sL eL hpL bL ⊢
    refine ⟨p, L, t1, _, rfl, hpL, by omega, lstNew eL, neL, by rw [List.length_map, signs_len]; decide, by rw [List.length_map, signs_len]; decide, fun j v t3 H3 gv ht3 hp3 b3 => ?_⟩
    obtain ⟨sg, rfl, lsg⟩ := sign_at gv
    refine ⟨.ref p, rfl, .str z, rfl, z, rfl, by omega, _, _, rfl, rfl, p, t3, _, rfl, hp3, by omega, by omega, by omega, fun aT t4 H4 a0 a1 ht4 hp4 b4 => ⟨_, _, _, rfl, ?_⟩⟩
    dsimp only
    have b04 := bL.trans (b3.trans b4)
    have csp := cut_sp z
    refine ⟨.str z, rfl, ⟨_, rfl⟩, z, sp1, rfl, rfl, by rw [sp_len]; rfl, by omega, fun W nW => ?_⟩
    have wl : Wl (Txt.split z sp1) ≤ 261 := by have := csp.sum; unfold Wl; omega
    generalize Txt.split z sp1 = ws at wl ⊢
    have sW := same_upd (o := .lst (ws.map V.str)) nW
    have eW : (upd H4 W (.lst (ws.map V.str))) W = some (.lst (ws.map V.str)) := upd_same
    have hpW := pail_same hp4 sW
    have bW := b04.trans (But.of (p := p) sW)
    have neW := pail_ne hp4 nW
    generalize upd H4 W (.lst (ws.map V.str)) = H5 at eW hpW bW ⊢
    refine ⟨.ref p, rfl, p, t4, 5, rfl, hpW, by omega, by decide, by decide, fun sT t6 H6 s0 s1 ht6 hp6 b6 => ⟨_, _, rfl, ?_⟩⟩
    dsimp only
    have b06 := bW.trans b6
    have eW6 := b6 _ _ eW neW
    have lws := len_Wl ws
    have big : ∀ {l : List Str}, l.Sublist ws → l.length ≤ 261 ∧ Wl l ≤ 261 := fun s => ⟨by have := s.length_le; omega, by have := Wl_sub s; omega⟩
    have l1 := cutS_length z
    refine ⟨.int wy, rfl, rfl, _, rfl, ite2 (fun _ => ?_) (fun _ => ?_)⟩
    · have c1 := l1 none (some aT)
      have c2 := l1 (some aT) none
      refine ⟨.str z, rfl, .int aT, rfl, _, rfl, z, rfl, by omega, .str sg, rfl, _, _, rfl, rfl, by omega, .str z, rfl, .int aT, rfl, _, rfl, ?_⟩
      unfold tNoPart
      dsimp only
      exact ⟨z, rfl, by omega, _, _, rfl, rfl, by rw [len_app]; omega, q _ t6 _ hp6 (by omega) b06 (by rw [len_app, len_app]; omega)⟩
    refine ⟨.int wy, rfl, rfl, _, rfl, ite2 (fun _ => ?_) (fun _ => ?_)⟩
    · have c1 := l1 none (some aT)
      have c2 := l1 (some (aT + 1)) none
      refine ⟨.str z, rfl, .int aT, rfl, _, rfl, z, rfl, by omega, .str z, rfl, .int aT, rfl, _, _, rfl, rfl, _, rfl, ?_⟩
      unfold tNoPart
      dsimp only
      exact ⟨z, rfl, by omega, _, _, rfl, rfl, by omega, q _ t6 _ hp6 (by omega) b06 (by rw [len_app]; omega)⟩
    refine ⟨.int wy, rfl, rfl, _, rfl, ite2 (fun _ => ?_) (fun _ => ?_)⟩
    · have c1 := l1 none (some aT)
      have c2 := l1 (some (aT + 1)) none
      refine ⟨.str z, rfl, .int aT, rfl, _, rfl, z, rfl, by omega, .str sg, rfl, _, _, rfl, rfl, by omega, .str z, rfl, .int aT, rfl, _, _, rfl, rfl, _, rfl, ?_⟩
      unfold tNoPart
      dsimp only
      exact ⟨z, rfl, by omega, _, _, rfl, rfl, by rw [len_app]; omega, q _ t6 _ hp6 (by omega) b06 (by rw [len_app, len_app]; omega)⟩
    have fin : ∀ {H' : Hp} {o : Addr} {l : List Str}, Same H6 H' → H' o = some (.lst (l.map V.str)) → Wl l ≤ 800 → ∃ a p, ∃ ys : List Str, V.str sp1 = .str a ∧ [V.ref o] = [.ref p] ∧ (SqL K H' p (ys.map V.str) ∨ SqT K H' p (ys.map V.str)) ∧ (ys.map (·.length)).sum + ys.length * a.length ≤ 16777216 ∧ Q (.str (Txt.join a ys)) H' := fun {H' o l} s' e w => by
      refine ⟨sp1, o, l, rfl, rfl, .inl (lstNew e), by rw [sp_len]; unfold Wl at w; omega, ?_⟩
      rw [join_eq]
      exact q _ t6 _ (pail_same hp6 s') (by omega) (b06.trans (But.of s')) (by have := join_Wl l; omega)
    refine ⟨.int wy, rfl, rfl, _, rfl, ite2 (fun _ => ?_) (fun _ => ?_)⟩
    · refine ⟨⟨_, rfl⟩, .ref W, rfl, .int sT, rfl, _, rfl, sl_use eW6 fun l1 c1 z1 n1 => ?_⟩
      have s1 := same_upd (o := .lst (l1.map V.str)) n1
      refine ⟨.ref W, rfl, .int sT, rfl, _, _, rfl, rfl, _, rfl, ?_⟩
      unfold tNoPart
      dsimp only
      refine sl_use (s1 _ _ eW6) fun l2 c2 z2 n2 => ?_
      have s2 := same_upd (o := .lst (l2.map V.str)) n2
      have g1 := big z1
      have g2 := big z2
      refine ⟨c1, c2, _, _, rfl, rfl, s2 _ _ upd_same, upd_same, by rw [List.length_map, List.length_map]; omega, fun o no => ?_⟩
      exact fin (l := l1 ++ l2) (s1.trans (s2.trans (same_upd no))) (by rw [upd_same, List.map_append]) (by rw [Wl_app]; omega)
    refine ⟨.int wy, rfl, rfl, _, rfl, ite2 (fun _ => ?_) (fun _ => ?_)⟩
    · refine ⟨⟨_, rfl⟩, .ref W, rfl, .int sT, rfl, _, rfl, sl_use eW6 fun l1 c1 z1 n1 => ?_⟩
      have s1 := same_upd (o := .lst (l1.map V.str)) n1
      refine ⟨.ref W, rfl, .int sT, rfl, _, rfl, .int sT, rfl, _, _, rfl, rfl, _, rfl, sl_use (s1 _ _ eW6) fun l2 c2 z2 n2 => ?_⟩
      have s2 := same_upd (o := .lst (l2.map V.str)) n2
      have g1 := big z1
      have g2 := big z2
      refine ⟨c1, c2, _, _, rfl, rfl, s2 _ _ upd_same, upd_same, by rw [List.length_map, List.length_map]; omega, fun o no => ?_⟩
      have so := same_upd (o := .lst (l1.map V.str ++ l2.map V.str)) no
      have s3 := s1.trans (s2.trans so)
      have eo : (upd (upd (upd H6 c1 (.lst (l1.map V.str))) c2 (.lst (l2.map V.str))) o (.lst (l1.map V.str ++ l2.map V.str))) o = some (.lst ((l1 ++ l2).map V.str)) := by rw [upd_same, List.map_append]
      generalize upd (upd (upd H6 c1 (.lst (l1.map V.str))) c2 (.lst (l2.map V.str))) o (.lst (l1.map V.str ++ l2.map V.str)) = H7 at s3 eo ⊢
      refine ⟨.ref W, rfl, .int sT, rfl, _, rfl, ?_⟩
      unfold tNoPart
      dsimp only
      refine sl_use (s3 _ _ eW6) fun l3 c3 z3 n3 => ?_
      have s4 := same_upd (o := .lst (l3.map V.str)) n3
      have g3 := big z3
      refine ⟨o, c3, _, _, rfl, rfl, s4 _ _ eo, upd_same, by rw [List.length_map, List.length_map, List.length_append]; omega, fun o2 no2 => ?_⟩
      exact fin (l := l1 ++ l2 ++ l3) (s3.trans (s4.trans (same_upd no2))) (by rw [upd_same, List.map_append (l₁ := l1 ++ l2)]) (by rw [Wl_app, Wl_app]; omega)
    refine ⟨⟨_, rfl⟩, .ref W, rfl, .int sT, rfl, _, rfl, sl_use eW6 fun l1 c1 z1 n1 => ?_⟩
    have s1 := same_upd (o := .lst (l1.map V.str)) n1
    refine ⟨.ref W, rfl, .int sT, rfl, _, rfl, .int sT, rfl, _, _, rfl, rfl, _, rfl, sl_use (s1 _ _ eW6) fun l2 c2 z2 n2 => ?_⟩
    have s2 := same_upd (o := .lst (l2.map V.str)) n2
    have g1 := big z1
    have g2 := big z2
    refine ⟨c2, _, rfl, lstNew upd_same, fun c4 n4 => ?_⟩
    have s22 := same_upd (o := .lst (l2.map V.str).reverse) n4
    refine ⟨c1, c4, _, _, rfl, rfl, s22 _ _ (s2 _ _ upd_same), upd_same, by rw [List.length_map, List.length_reverse, List.length_map]; omega, fun o no => ?_⟩
    have so := same_upd (o := .lst (l1.map V.str ++ (l2.map V.str).reverse)) no
    have s3 := s1.trans (s2.trans (s22.trans so))
    have eo : (upd (upd (upd (upd H6 c1 (.lst (l1.map V.str))) c2 (.lst (l2.map V.str))) c4 (.lst (l2.map V.str).reverse)) o (.lst (l1.map V.str ++ (l2.map V.str).reverse))) o = some (.lst ((l1 ++ l2.reverse).map V.str)) := by rw [upd_same, List.map_append, List.map_reverse]
    generalize upd (upd (upd (upd H6 c1 (.lst (l1.map V.str))) c2 (.lst (l2.map V.str))) c4 (.lst (l2.map V.str).reverse)) o (.lst (l1.map V.str ++ (l2.map V.str).reverse)) = H7 at s3 eo ⊢
    refine ⟨.ref W, rfl, .int sT, rfl, _, _, rfl, rfl, _, rfl, ?_⟩
    unfold tNoPart
    dsimp only
    refine sl_use (s3 _ _ eW6) fun l3 c3 z3 n3 => ?_
    have s4 := same_upd (o := .lst (l3.map V.str)) n3
    have g3 := big z3
    refine ⟨o, c3, _, _, rfl, rfl, s4 _ _ eo, upd_same, by rw [List.length_map, List.length_map, List.length_append, List.length_reverse]; omega, fun o2 no2 => ?_⟩
    exact fin (l := l1 ++ l2.reverse ++ l3) (s3.trans (s4.trans (same_upd no2))) (by rw [upd_same, List.map_append (l₁ := l1 ++ l2.reverse)]) (by rw [Wl_app, Wl_app, Wl_rev]; omega)
end
end K53
set_option maxHeartbeats 4000000
namespace K53
open PySem PySem.Spec PyProof.Rows L2 RV TL
section
variable {P : Program} {w : World} {K : PySem.W.Frag} {mg : Str → Option Value} {base : Heap} {t1 t2 t3 t4 : Tok}
structure LN (K : PySem.W.Frag) (mg : Str → Option Value) (fD fO fNu : Addr) (dD dO dNu : FuncData) : Prop where
  draw : DefAt K mg "_law_draw" sDraw ["_law_pail_here", "_law_many"] fD dD
  of : DefAt K mg "_law_of" sOf ["_law_pail_here", "_law_some"] fO dO
  nu : DefAt K mg "_law_number" sLNumber ["_law_pail_here"] fNu dNu
/-! ### _law_number -/
abbrev nNu : List Str := ["_law_pail_here", "_law_few", "_law_many"]
theorem scNu : FnScope nNu ["_law_pail_here"] (defScope sLNumber) := ⟨rfl, rfl, rfl, by decide +kernel, rfl, by decide +kernel, by decide +kernel⟩
def spNu : Sp := fun vs H Q _ => ∃ (p : Addr) (t : Nat), vs = [.ref p] ∧ PailAt H p t ∧ t ≤ 1500 ∧ ∀ (n : Int) (t' : Nat) (H' : Hp), 0 ≤ n → n < 10 ^ 30 → t' ≤ t + 3 → PailAt H' p t' → But p H H' → Q (.int n) H'
theorem ok_nu {fD fO fNu : Addr} {dD dO dNu : FuncData} (L : LN K mg fD fO fNu dD dO dNu) (B : Bare mg) : FnOk P w K mg base CX0 3 fNu dNu ["_law_pail_here"] spNu := by
  have GD : FnOk P w K mg base CX0 1 fD dD ["_law_pail_here", "_law_many"] spDraw := ok_draw L.draw.fn
  have GO : FnOk P w K mg base CX0 2 fO dO ["_law_pail_here", "_law_some"] (spOf K) := ok_of L.of.fn L.draw B
  refine L.nu.fn.ok scNu (fun vs H Q E h => ?_) (fun cdv A outer s H vs Q E hr h => ?_)
  · obtain ⟨p, t, rfl, _⟩ := h
    rfl
  · obtain ⟨p, t, rfl, hp, ht, q⟩ := h
    have r1 := hr.mono (show 1 ≤ 2 by decide)
    refine ⟨_, pss_cons (ps_par (i := 1) (j := 2) (by rfl) scNu.nd rfl rfl (by decide) rfl rfl (pa_cons (pe_call GD r1 (by rfl) L.draw.mg L.draw.fn.kp L.draw.bi .nil pass0 (pa_cons (pv 0) (pa_cons pe_int pa_nil))) (pa_cons (pe_call GD r1 (by rfl) L.draw.mg L.draw.fn.kp L.draw.bi .nil pass0 (pa_cons (pv 0) (pa_cons (pe_op op_pow pe_int pe_int) pa_nil))) pa_nil)) (by rfl))
      (pss_one (ps_ret (pe_call GO hr (by rfl) L.of.mg L.of.fn.kp L.of.bi .nil pass0 (pa_cons (pv 0) (pa_cons (pe_lst (pa_cons (pv 1) (pa_cons (pv 2) (pa_cons (pe_op op_add (pe_op op_add (pe_op op_pow pe_int pe_int) (pe_op op_mul (pv 2) (pe_op op_pow pe_int pe_int))) (pv 1)) pa_nil)))) pa_nil))))), ?_⟩
    refine ⟨.ref p, rfl, p, t, 12, rfl, hp, by omega, by decide, by decide, fun a ta Ha a0 a1 hta hpa ba => ?_⟩
    refine ⟨.ref p, rfl, 10, 8, rfl, rfl, ⟨by decide, by decide, by decide⟩, p, ta, 100000000, rfl, hpa, by omega, by decide, by decide, fun b tb Hb b0 b1 htb hpb bb => ⟨.int a, .int b, rfl, ?_⟩⟩
    dsimp only
    refine ⟨.ref p, rfl, .int a, rfl, .int b, rfl, 10, 29, rfl, rfl, ⟨by decide, by decide, by decide⟩, .int b, rfl, 10, 9, rfl, rfl, ⟨by decide, by decide, by decide⟩, b, 1000000000, rfl, rfl, ?_, _, _, rfl, rfl, .int a, rfl, _, a, rfl, rfl, by show 3 ≤ sizeLine; decide, fun l nl => ?_⟩
    · exact .inr ⟨by decide, by decide⟩
    have e29 : (10 : Int) ^ (29 : Int).toNat = 100000000000000000000000000000 := by decide
    refine ⟨p, l, tb, _, rfl, pail_new hpb nl, by omega, lstNew upd_same, pail_ne hpb nl, by show 0 < 3; decide, by show 3 ≤ 1000; decide, fun j v t1 H1 hv ht1 hp1 b1 => ?_⟩
    have hv' : ∃ n : Int, v = .int n ∧ 0 ≤ n ∧ n < 10 ^ 30 := by
      match j, hv with
      | 0, hv => exact ⟨a, (Option.some.inj hv).symm, a0, by omega⟩
      | 1, hv => exact ⟨b, (Option.some.inj hv).symm, b0, by omega⟩
      | 2, hv => exact ⟨_, (Option.some.inj hv).symm, by rw [e29]; omega, by rw [e29]; omega⟩
      | j + 3, hv => simp at hv
    obtain ⟨n, rfl, n0, n1⟩ := hv'
    exact q n t1 H1 n0 n1 (by omega) hp1 (((ba.trans bb).trans (But.of (same_upd nl))).trans b1)
/-! ### _law_texts -/
abbrev nTx : List Str := ["_law_pail_here", "_law_runs", "_law_pairs", "_law_turn", "_law_marks", "_law_at"]
theorem scTx : FnScope nTx ["_law_pail_here"] (defScope sTexts) := ⟨rfl, rfl, rfl, by decide +kernel, rfl, by decide +kernel, by decide +kernel⟩
def spTx (K : PySem.W.Frag) : Sp := fun vs H Q _ => ∃ (p : Addr) (t : Nat), vs = [.ref p] ∧ PailAt H p t ∧ t ≤ 900 ∧ ∀ (H' : Hp) (t' : Nat) (a : Addr) (z1 z2 : Str), PailAt H' p t' → t' ≤ t + 60 → But p H H' → H' a = some (.tup [.str z1, .str z2]) → a ≠ p → z1.length ≤ 260 → z2.length ≤ 260 → Q (.ref a) H'
theorem ok_tx {f fD fO fNu : Addr} {fd dD dO dNu : FuncData} (F : Fun K "_law_texts" "_law_texts" sTexts f fd) (L : LN K mg fD fO fNu dD dO dNu) (B : Bare mg) : FnOk P w K mg base CX0 4 f fd ["_law_pail_here"] (spTx K) := by
  have GD : FnOk P w K mg base CX0 1 fD dD ["_law_pail_here", "_law_many"] spDraw := ok_draw L.draw.fn
  have GN : FnOk P w K mg base CX0 3 fNu dNu ["_law_pail_here"] spNu := ok_nu L B
  refine F.ok scTx (fun vs H Q E h => ?_) (fun cdv A outer s H vs Q E hr h => ?_)
  · obtain ⟨p, t, rfl, _⟩ := h
    rfl
  · obtain ⟨p, t, rfl, hp, ht, q⟩ := h
    have r1 := hr.mono (show 1 ≤ 3 by decide)
    refine ⟨_, pss_cons (ps_par (i := 1) (j := 2) (by rfl) scTx.nd rfl rfl (by decide) rfl rfl (pa_cons (pe_lst pa_nil) (pa_cons (pe_lst pa_nil) pa_nil)) (by rfl))
      (pss_cons (ps_for PassesOwn.never rfl (pi_range1 (by rfl) B.range (pa_cons (pe_op op_add pe_int (pe_call GD r1 (by rfl) L.draw.mg L.draw.fn.kp L.draw.bi .nil pass0 (pa_cons (pv 0) (pa_cons pe_int pa_nil)))) pa_nil)) (pg_name (i := 3) scTx.nd rfl (Or.inl rfl))
        (pss_cons (ps_set (i := 4) scTx.nd rfl (Or.inl rfl) (pe_joinK (K := K) rfl pe_str (pe_lc (own := [("_law_at", 5)]) (g := gName 5) (tt := tYes) rfl scTx.nd (pi_range1 (by rfl) B.range (pa_cons (pe_op op_add pe_int (pe_call GD r1 (by rfl) L.draw.mg L.draw.fn.kp L.draw.bi .nil pass0 (pa_cons (pv 0) (pa_cons pe_int pa_nil)))) pa_nil)) (blkOk_by (N := nTx) (sc := defScope sTexts) (by decide +kernel)) (fun _ _ _ _ _ => pg_name (i := 5) scTx.nd rfl (Or.inl rfl)) (fun _ _ _ _ _ => pts_nil)
          (fun _ _ _ _ _ => pe_callTy call_str_int (by rfl) B.str (by decide +kernel) (pa_cons (pe_call GD r1 (by rfl) L.draw.mg L.draw.fn.kp L.draw.bi .nil pass0 (pa_cons (pv 0) (pa_cons pe_int pa_nil))) pa_nil)))))
        (pss_cons (ps_expr (pe_bm PySem.F.plainAttrs_list PySem.F.slot_list_append PySem.F.type_list_append mt_append (pv 1) (pa_cons (pe_op op_add_str (pe_op op_add_str (pe_callTy call_str_int (by rfl) B.str (by decide +kernel) (pa_cons (pe_callB (call_max2 rfl) (by rfl) B.max (by decide +kernel) (pa_cons pe_int (pa_cons (pe_call GN hr (by rfl) L.nu.mg L.nu.fn.kp L.nu.bi .nil pass0 (pa_cons (pv 0) pa_nil)) pa_nil))) pa_nil)) pe_str) (pv 4)) pa_nil)))
        (pss_one (ps_expr (pe_bm PySem.F.plainAttrs_list PySem.F.slot_list_append PySem.F.type_list_append mt_append (pv 2) (pa_cons (pe_op op_add_str (pe_op op_add_str (pe_callTy call_str_int (by rfl) B.str (by decide +kernel) (pa_cons (pe_call GN hr (by rfl) L.nu.mg L.nu.fn.kp L.nu.bi .nil pass0 (pa_cons (pv 0) pa_nil)) pa_nil)) pe_str) (pe_callTy call_str_int (by rfl) B.str (by decide +kernel) (pa_cons (pe_call GN hr (by rfl) L.nu.mg L.nu.fn.kp L.nu.bi .nil pass0 (pa_cons (pv 0) pa_nil)) pa_nil))) pa_nil)))))))
      (pss_one (ps_ret (pe_tup (pa_cons (pe_joinK (K := K) rfl pe_str (pv 1)) (pa_cons (pe_joinK (K := K) rfl pe_str (pv 2)) pa_nil)))))), ?_⟩
    have zz : sizeLine ≥ 1000000 := by rw [sizeLine_eq]; decide
    refine ⟨by show 0 ≤ sizeLine; omega, fun R nR => ?_⟩
    have sR := same_upd (o := .lst []) nR
    have eR : (upd H R (.lst [])) R = some (.lst []) := upd_same
    have hpR := pail_same hp sR
    have neR := pail_ne hp nR
    generalize upd H R (.lst []) = H1 at sR eR hpR ⊢
    refine ⟨by show 0 ≤ sizeLine; omega, fun S nS => ⟨_, _, rfl, ?_⟩⟩
    have sS := same_upd (o := .lst []) nS
    have eS : (upd H1 S (.lst [])) S = some (.lst []) := upd_same
    have hpS := pail_same hpR sS
    have neS := pail_ne hpR nS
    have neRS : R ≠ S := ne_of_none eR nS
    have eR2 := sS _ _ eR
    have nSH : H S = none := sR.free nS
    have b02 := But.of (p := p) (sR.trans sS)
    generalize upd H1 S (.lst []) = H2 at sS eS hpS eR2 b02 ⊢
    dsimp only
    refine ⟨.ref p, rfl, p, t, 4, rfl, hpS, by omega, by decide, by decide, fun m0 t3 H3 m00 m01 ht3 hp3 b3 => ⟨1, m0, rfl, rfl, _, rfl, by omega, by omega, ?_⟩⟩
    have b03 := b02.trans b3
    refine for_range (lo := 0) (n := (1 + m0).toNat) (fun i σ H' => (∃ y3 y4 y5 : Option V, σ = [some (.ref p), some (.ref R), some (.ref S), y3, y4, y5]) ∧ But p H H' ∧ ∃ (t' : Nat) (rs qs : List Str), PailAt H' p t' ∧ t' ≤ t + 1 + 14 * i ∧ H' R = some (.lst (rs.map V.str)) ∧ H' S = some (.lst (qs.map V.str)) ∧ rs.length = i ∧ qs.length = i ∧ (∀ x ∈ rs, x.length ≤ 40) ∧ ∀ x ∈ qs, x.length ≤ 61)
      ⟨⟨_, _, _, rfl⟩, b03, t3, [], [], hp3, by omega, b3 _ _ eR2 neR, b3 _ _ eS neS, rfl, rfl, (fun _ w => nomatch w), (fun _ w => nomatch w)⟩ (fun i σ H4 hi h => ?_) fun σ H4 h => ?_
    · obtain ⟨⟨y3, y4, y5, rfl⟩, b4, t4, rs, qs, hp4, ht4, eR4, eS4, lr, lq, hr4, hq4⟩ := h
      have hi4 : i < 4 := by omega
      refine nx_step ?_
      dsimp only
      refine ⟨⟨_, rfl⟩, .ref p, rfl, p, t4, 4, rfl, hp4, by omega, by decide, by decide, fun k0 t5 H5 k00 k01 ht5 hp5 b5 => ⟨1, k0, rfl, rfl, _, rfl, by omega, by omega, fun D nD => ?_⟩⟩
      have hDp : D ≠ p := pail_ne hp5 nD
      refine lc_range (lo := 0) (n := (1 + k0).toNat) (fun j H' => ∃ (xs : List Str) (t' : Nat), But p H5 H' ∧ PailAt H' p t' ∧ t' ≤ t5 + j ∧ H' D = some (.lst (xs.map V.str)) ∧ xs.length = j ∧ ∀ x ∈ xs, x.length ≤ 1)
        ⟨[], t5, But.of (same_upd nD), pail_new hp5 nD, by omega, upd_same, rfl, fun _ w => nomatch w⟩ (fun j H' hj pp => ?_) fun H6 pp => ?_
      · obtain ⟨xs, t', b2, hp2, ht2, eD, lx, inn⟩ := pp
        refine ⟨rfl, tt_yes ⟨.ref p, rfl, p, t', 8, rfl, hp2, by omega, by decide, by decide, fun x t3 H3 x0 x1 ht3 hp3 b3 => ⟨x, rfl, log_small x0 (by omega), ?_⟩⟩⟩
        rw [num_str x0]
        have l1 : (num x.toNat).length ≤ 1 := by rw [len_tl, tl_nm, numL_lt (by omega)]; exact Nat.le_refl _
        refine ⟨_, b3 _ _ eD hDp, by rw [List.length_map]; omega, xs ++ [num x.toNat], t3, fun c o e ne => ?_, pail_set hp3 hDp, by omega, ?_, by rw [List.length_append, lx]; rfl, fun y hy => ?_⟩
        · rw [upd_ne (ne_of_none e nD)]; exact b3 _ _ (b2 c o e ne) ne
        · rw [upd_same, List.map_append]; rfl
        · rcases List.mem_append.mp hy with w | w
          · exact inn y w
          · rcases List.mem_singleton.mp w with rfl
            exact l1
      obtain ⟨xs, t6, b6, hp6, ht6, eD, lx, inn⟩ := pp
      have ep : pt1.length = 1 := by rw [len_tl, tl_pt]; rfl
      have jl := join_short (y := pt1) (l := xs) (k := 1) (m := 4) inn (by omega)
      rw [ep] at jl
      have sl := sum_le inn
      refine ⟨pt1, D, xs, rfl, rfl, .inl (lstNew eD), by rw [ep]; omega, ?_⟩
      rw [join_eq]
      generalize Str.join pt1 xs = mk at jl ⊢
      refine nx_step ?_
      dsimp only
      have b46 := b5.trans b6
      have eR6 := b46 _ _ eR4 neR
      have eS6 := b46 _ _ eS4 neS
      refine ⟨.ref R, rfl, .inl ⟨rfl, _, lstNew eR6⟩, .ref p, rfl, p, t6, rfl, hp6, by omega, fun n1 t7 H7 n10 n11 ht7 hp7 b7 => ⟨1, n1, rfl, ?_⟩⟩
      obtain ⟨mx, em, mx0, mx1⟩ : ∃ mx : Int, (if n1 > 1 then n1 else 1) = mx ∧ 0 ≤ mx ∧ mx < 10 ^ 30 := ⟨_, rfl, by split <;> omega, by split <;> omega⟩
      rw [em]
      refine ⟨mx, rfl, log_small mx0 mx1, ?_⟩
      rw [num_str mx0]
      have l30 := num_len (nat_small mx0 mx1)
      have e1 : (Str.ofString "*").length = 1 := rfl
      generalize num mx.toNat = nw at l30 ⊢
      have eR7 := b7 _ _ eR6 neR
      have eS7 := b7 _ _ eS6 neS
      refine ⟨_, _, rfl, rfl, by omega, .str mk, rfl, _, _, rfl, rfl, by rw [len_app]; omega, ?_⟩
      have l40 : (nw ++ Str.ofString "*" ++ mk).length ≤ 40 := by rw [len_app, len_app]; omega
      generalize nw ++ Str.ofString "*" ++ mk = row at l40 ⊢
      refine ⟨R, _, .str row, rfl, rfl, eR7, by rw [List.length_map]; omega, ?_⟩
      have eR8 : (upd H7 R (.lst (rs.map V.str ++ [.str row]))) R = some (.lst ((rs ++ [row]).map V.str)) := by rw [upd_same, List.map_append]; rfl
      have eS8 : (upd H7 R (.lst (rs.map V.str ++ [.str row]))) S = some (.lst (qs.map V.str)) := by rw [upd_ne (Ne.symm neRS)]; exact eS7
      have hp8 : PailAt (upd H7 R (.lst (rs.map V.str ++ [.str row]))) p t7 := pail_set hp7 neR
      have b08 : But p H (upd H7 R (.lst (rs.map V.str ++ [.str row]))) := fun c o e ne => by rw [upd_ne (ne_of_none e nR)]; exact b7 _ _ (b46 _ _ (b4 c o e ne) ne) ne
      generalize upd H7 R (.lst (rs.map V.str ++ [.str row])) = H8 at eR8 eS8 hp8 b08 ⊢
      refine nx_step ?_
      dsimp only
      refine ⟨.ref S, rfl, .inl ⟨rfl, _, lstNew eS8⟩, .ref p, rfl, p, t7, rfl, hp8, by omega, fun n2 t9 H9 n20 n21 ht9 hp9 b9 => ⟨n2, rfl, log_small n20 n21, ?_⟩⟩
      rw [num_str n20]
      have l2 := num_len (nat_small n20 n21)
      have e2 : (Str.ofString "/").length = 1 := rfl
      generalize num n2.toNat = nw2 at l2 ⊢
      refine ⟨_, _, rfl, rfl, by omega, .ref p, rfl, p, t9, rfl, hp9, by omega, fun n3 ta Ha n30 n31 hta hpa ba => ⟨n3, rfl, log_small n30 n31, ?_⟩⟩
      rw [num_str n30]
      have l3 := num_len (nat_small n30 n31)
      generalize num n3.toNat = nw3 at l3 ⊢
      refine ⟨_, _, rfl, rfl, by rw [len_app]; omega, ?_⟩
      have l61 : (nw2 ++ Str.ofString "/" ++ nw3).length ≤ 61 := by rw [len_app, len_app]; omega
      generalize nw2 ++ Str.ofString "/" ++ nw3 = row2 at l61 ⊢
      have b8a := b9.trans ba
      have eRa := b8a _ _ eR8 neR
      have eSa := b8a _ _ eS8 neS
      refine ⟨S, _, .str row2, rfl, rfl, eSa, by rw [List.length_map]; omega, ?_⟩
      refine ⟨⟨_, _, _, rfl⟩, fun c o e ne => ?_, ta, rs ++ [row], qs ++ [row2], pail_set hpa neS, by omega, ?_, ?_, by rw [List.length_append, lr]; rfl, by rw [List.length_append, lq]; rfl, fun x hx => ?_, fun x hx => ?_⟩
      · rw [upd_ne (ne_of_none e nSH)]; exact b8a _ _ (b08 c o e ne) ne
      · rw [upd_ne neRS]; exact eRa
      · rw [upd_same, List.map_append]; rfl
      · rcases List.mem_append.mp hx with w | w
        · exact hr4 x w
        · rcases List.mem_singleton.mp w with rfl
          exact l40
      · rcases List.mem_append.mp hx with w | w
        · exact hq4 x w
        · rcases List.mem_singleton.mp w with rfl
          exact l61
    · obtain ⟨⟨y3, y4, y5, rfl⟩, b4, t4, rs, qs, hp4, ht4, eR4, eS4, lr, lq, hr4, hq4⟩ := h
      dsimp only
      have j1 := join_short (y := sp1) (l := rs) (k := 40) (m := 4) hr4 (by omega)
      have j2 := join_short (y := sp1) (l := qs) (k := 61) (m := 4) hq4 (by omega)
      rw [sp_len] at j1 j2
      have u1 := sum_le hr4
      have u2 := sum_le hq4
      refine ⟨⟨_, rfl⟩, .ref R, rfl, sp1, R, rs, rfl, rfl, .inl (lstNew eR4), by rw [sp_len]; omega, ?_⟩
      rw [join_eq]
      refine ⟨⟨_, rfl⟩, .ref S, rfl, sp1, S, qs, rfl, rfl, .inl (lstNew eS4), by rw [sp_len]; omega, ?_⟩
      rw [join_eq]
      refine ⟨by show 2 ≤ sizeLine; omega, fun T nT => ?_⟩
      exact q _ t4 T _ _ (pail_new hp4 nT) (by omega) (b4.trans (But.of (same_upd nT))) upd_same (pail_ne hp4 nT) (by omega) (by omega)
end
end K53
set_option maxHeartbeats 4000000
namespace K53
open PySem PySem.Spec PyProof.Rows L2 RV TL
/-! ### what is read can be written -/
structure Gc (d : PyData) (n m : Nat) : Prop where
  lay : d.canLay0 = true
  sh : d.showable = true
  si : d.intsShort 41 = true
  dep : d.depth ≤ n
  bk : d.bulk ≤ m
theorem gc_ints {ns : List Int} (h : ∀ n ∈ ns, n.natAbs < 10 ^ 40) (hl : ns.length ≤ 100) : Gc (dI ns) 1 100 := by
  have h4 := show_bigs ns h
  refine ⟨dI_lay ns, ?_, ?_, by rw [dI_dep]; omega, ?_⟩
  · simp only [dI, PyData.showable]; exact h4.1
  · simp only [dI, PyData.intsShort]; exact h4.2
  · simp only [dI, PyData.bulk, bulk_ints]; exact hl
theorem gc_int {n : Int} (h : n.natAbs < 10 ^ 40) : Gc (.int n) 0 0 := by
  refine ⟨by simp [PyData.canLay0], by simp [PyData.showable, log_big h], by simp [PyData.intsShort, len_big h], by simp [PyData.depth], by simp [PyData.bulk]⟩
theorem gc_nil : PyData.canLayAll0 [] = true ∧ PyData.showableAll [] = true ∧ PyData.intsShortAll 41 [] = true ∧ PyData.depthAll [] ≤ 0 ∧ PyData.bulkAll [] ≤ 0 := by
  refine ⟨by simp [PyData.canLayAll0], by simp [PyData.showableAll], by simp [PyData.intsShortAll], by simp [PyData.depthAll], by simp [PyData.bulkAll]⟩
def GcAll (ds : List PyData) (n m : Nat) : Prop := PyData.canLayAll0 ds = true ∧ PyData.showableAll ds = true ∧ PyData.intsShortAll 41 ds = true ∧ PyData.depthAll ds ≤ n ∧ PyData.bulkAll ds ≤ m
theorem gc_cons {d : PyData} {ds : List PyData} {n m n' m' : Nat} (h : Gc d n m) (r : GcAll ds n' m') : GcAll (d :: ds) (max n n') (m + 1 + m') := by
  obtain ⟨r1, r2, r3, r4, r5⟩ := r
  have := h.dep
  have := h.bk
  refine ⟨by simp [PyData.canLayAll0, h.lay, r1], by simp [PyData.showableAll, h.sh, r2], by simp [PyData.intsShortAll, h.si, r3], ?_, ?_⟩
  · simp only [PyData.depthAll]; omega
  · simp only [PyData.bulkAll]; omega
theorem gc_map {α : Type} (f : α → PyData) {n m : Nat} : ∀ l : List α, (∀ x ∈ l, Gc (f x) n m) → GcAll (l.map f) n ((m + 1) * l.length)
  | [], _ => by
    obtain ⟨a, b, c, d, e⟩ := gc_nil
    exact ⟨a, b, c, Nat.le_trans d (Nat.zero_le _), by simp [PyData.bulkAll]⟩
  | x :: r, h => by
    have h1 := gc_cons (h x (List.mem_cons_self ..)) (gc_map f r fun y hy => h y (List.mem_cons_of_mem _ hy))
    obtain ⟨a, b, c, d, e⟩ := h1
    refine ⟨a, b, c, Nat.le_trans d (show max n n ≤ n by omega), ?_⟩
    rw [List.length_cons, Nat.mul_succ]
    show PyData.bulkAll (f x :: r.map f) ≤ _
    omega
theorem gc_tup {ds : List PyData} {n m : Nat} (h : GcAll ds n m) : Gc (.tuple ds) (n + 1) m := by
  obtain ⟨a, b, c, d, e⟩ := h
  refine ⟨by simp only [PyData.canLay0]; exact a, by simp only [PyData.showable]; exact b, by simp only [PyData.intsShort]; exact c, by simp only [PyData.depth]; omega, by simp only [PyData.bulk]; exact e⟩
theorem gc_lst {ds : List PyData} {n m : Nat} (h : GcAll ds n m) : Gc (.list ds) (n + 1) m := by
  obtain ⟨a, b, c, d, e⟩ := h
  refine ⟨by simp only [PyData.canLay0]; exact a, by simp only [PyData.showable]; exact b, by simp only [PyData.intsShort]; exact c, by simp only [PyData.depth]; omega, by simp only [PyData.bulk]; exact e⟩
theorem Gc.shows {d : PyData} {n m : Nat} (h : Gc d n m) (hn : n ≤ 64) (hm : m ≤ 200000) : Shows d := shows_of h.lay h.sh h.si (by have := h.dep; omega) (by have := h.bk; omega)
theorem big40 {x : Int} (h0 : 0 ≤ x) (h : x < 10 ^ 30) : x.natAbs < 10 ^ 40 := by omega
theorem gc_non : Gc .none 0 0 := ⟨by simp [PyData.canLay0], by simp [PyData.showable], by simp [PyData.intsShort], by simp [PyData.depth], by simp [PyData.bulk]⟩
theorem Gc.up {d : PyData} {n m n' m' : Nat} (h : Gc d n m) (h1 : n ≤ n') (h2 : m ≤ m') : Gc d n' m' := ⟨h.lay, h.sh, h.si, Nat.le_trans h.dep h1, Nat.le_trans h.bk h2⟩
theorem ints40 {ns : List Nat} (h : ∀ n ∈ ns, n < 10 ^ 30) : ∀ i ∈ ns.map (fun (n : Nat) => (n : Int)), i.natAbs < 10 ^ 40 := fun i hi => by
  obtain ⟨n, hn, rfl⟩ := List.mem_map.mp hi
  have := h n hn
  omega
theorem runF_ok {w : Str} {r : Int × List Int} (h : runF w = some r) : (r.1.natAbs < 10 ^ 40 ∧ ∀ n ∈ r.2, n.natAbs < 10 ^ 40) ∧ r.2.length ≤ w.length := by
  by_cases e2 : (Txt.split w star).length = 2
  case neg => rw [runF_two e2] at h; cases h
  obtain ⟨u, v, e⟩ : ∃ u v, Txt.split w star = [u, v] := by
    match e : Txt.split w star, e2 with
    | [u, v], _ => exact ⟨u, v, rfl⟩
  rw [runF_pair e] at h
  have c := (cut_star w).sum
  rw [e] at c
  simp only [List.map_cons, List.map_nil, List.sum_cons, List.sum_nil, List.length_cons, List.length_nil] at c
  cases en : numF u with
  | none => rw [en] at h; cases h
  | some n =>
    cases em : numsF (Txt.split v pt1) with
    | none => rw [en, em] at h; cases h
    | some ms =>
      rw [en, em] at h
      have h : (if n ≠ 0 ∧ mkB 8 (ms.map fun (i : Nat) => (i : Int)) = true then some ((n : Int), ms.map fun (i : Nat) => (i : Int)) else none) = some r := h
      split at h
      · cases h
        obtain ⟨l1, l2⟩ := numsF_len em
        have l3 := (cut_pt v).len
        have n30 := (numF_some.mp en).1
        refine ⟨⟨by show ((n : Int)).natAbs < 10 ^ 40; omega, ints40 l2⟩, ?_⟩
        rw [List.length_map]; omega
      · cases h
theorem gc_ring {z : Str} {rs : List (Int × List Int)} (h : ringF z = some rs) (lz : z.length ≤ 900) : Gc (dRg rs) 3 4000 := by
  unfold ringF at h
  have e := allSome_some.mp h
  have key : ∀ (ws : List Str) (rs : List (Int × List Int)), ws.map runF = rs.map some → (∀ r ∈ rs, r.1.natAbs < 10 ^ 40 ∧ ∀ n ∈ r.2, n.natAbs < 10 ^ 40) ∧ PyData.bulkAll (rs.map dRun) ≤ 3 * Wl ws := by
    intro ws
    induction ws with
    | nil =>
      intro rs e
      cases rs with
      | nil => exact ⟨(fun _ w => nomatch w), by simp [PyData.bulkAll]⟩
      | cons _ _ => cases e
    | cons w ws ih =>
      intro rs e
      cases rs with
      | nil => cases e
      | cons r rs =>
        rw [List.map_cons, List.map_cons] at e
        injection e with e1 e2
        obtain ⟨o1, o2⟩ := runF_ok e1
        obtain ⟨i1, i2⟩ := ih rs e2
        refine ⟨fun q hq => (List.mem_cons.mp hq).elim (fun e => by rw [e]; exact o1) (i1 q), ?_⟩
        have h1 : (dI r.2).bulk = r.2.length := by simp only [dI, PyData.bulk, bulk_ints]
        have h4 : (dRun r).bulk ≤ r.2.length + 2 := by simp only [dRun, PyData.bulk, PyData.bulkAll, h1]; omega
        have h5 : Wl (w :: ws) = w.length + 1 + Wl ws := by unfold Wl; rw [List.map_cons, List.sum_cons, List.length_cons]; omega
        simp only [List.map_cons, PyData.bulkAll]
        omega
  obtain ⟨k1, k2⟩ := key _ _ e
  have c := (cut_sp z).sum
  have wl : Wl (Txt.split z sp1) ≤ 901 := by unfold Wl; omega
  obtain ⟨s1, s2⟩ := show_runs rs k1
  have d := dep_runs rs
  refine ⟨by simp only [dRg, PyData.canLay0]; exact lay_runs rs, by simp only [dRg, PyData.showable]; exact s1, by simp only [dRg, PyData.intsShort]; exact s2, by simp only [dRg, PyData.depth]; omega, by simp only [dRg, PyData.bulk]; omega⟩
theorem pairF_ok {w : Str} {p : List Int} (h : pairF w = some p) : (∀ n ∈ p, n.natAbs < 10 ^ 40) ∧ p.length = 2 := by
  unfold pairF at h
  cases e : numsF (Txt.split w slash) with
  | none => rw [e] at h; cases h
  | some ns =>
    rw [e] at h
    have h : (if ns.length = 2 then some (ns.map fun (i : Nat) => (i : Int)) else none) = some p := h
    split at h
    · rename_i l2
      cases h
      exact ⟨ints40 (numsF_len e).2, by rw [List.length_map]; exact l2⟩
    · cases h
theorem gc_plan {z : Str} {ps : List (List Int)} (h : planF z = some ps) (lz : z.length ≤ 900) : Gc (dTT ps) 2 100000 := by
  have hp : (∀ p ∈ ps, (∀ n ∈ p, n.natAbs < 10 ^ 40) ∧ p.length = 2) ∧ ps.length ≤ 901 := by
    unfold planF at h
    split at h
    · cases h
      exact ⟨(fun _ w => nomatch w), Nat.zero_le _⟩
    · have e := allSome_some.mp h
      refine ⟨fun p hp => ?_, ?_⟩
      · have hm : some p ∈ (Txt.split z sp1).map pairF := by rw [e]; exact List.mem_map_of_mem hp
        obtain ⟨w, _, ew⟩ := List.mem_map.mp hm
        exact pairF_ok ew
      · have l := congrArg List.length e
        rw [List.length_map, List.length_map] at l
        have := (cut_sp z).len
        omega
  have g := gc_tup (gc_map dI (n := 1) (m := 100) ps fun p hpp => gc_ints (hp.1 p hpp).1 (by have := (hp.1 p hpp).2; omega))
  exact ⟨g.lay, g.sh, g.si, g.dep, Nat.le_trans g.bk (Nat.le_trans (Nat.mul_le_mul_left _ hp.2) (by decide))⟩
def dOR (r : Option (List (Int × List Int))) : PyData := match r with | none => .none | some rs => dRg rs
def dOP (r : Option (List (List Int))) : PyData := match r with | none => .none | some ps => dTT ps
def dBoth (z : Str) (r : Option (List (Int × List Int))) (p : Option (List (List Int))) : PyData := .list [dOR r, dOP p]
theorem both_shows {z : Str} (lz : z.length ≤ 900) : Shows (dBoth z (ringF z) (planF z)) := by
  have g1 : Gc (dOR (ringF z)) 3 4000 := by
    cases e : ringF z with
    | none => exact gc_non.up (by decide) (by decide)
    | some rs => exact gc_ring e lz
  have g2 : Gc (dOP (planF z)) 2 100000 := by
    cases e : planF z with
    | none => exact gc_non.up (by decide) (by decide)
    | some ps => exact gc_plan e lz
  exact (gc_lst (gc_cons g1 (gc_cons g2 gc_nil))).shows (by decide) (by decide)
/-- a ring, or none -/
def ValR (K : PySem.W.Frag) (H : Hp) (v : V) (r : Option (List (Int × List Int))) : Prop := (v = .non ∧ r = none) ∨ ∃ (a : Addr) (rs : List (Int × List Int)), v = .ref a ∧ r = some rs ∧ RingAt K H a rs
def ValP (K : PySem.W.Frag) (H : Hp) (v : V) (r : Option (List (List Int))) : Prop := (v = .non ∧ r = none) ∨ ∃ (a : Addr) (ps : List (List Int)), v = .ref a ∧ r = some ps ∧ Tups K H a ps
theorem ValR.same {K : PySem.W.Frag} {H H' : Hp} {v : V} {r : Option (List (Int × List Int))} (h : ValR K H v r) (s : Same H H') : ValR K H' v r := h.imp id fun ⟨a, rs, e1, e2, h⟩ => ⟨a, rs, e1, e2, h.same s⟩
theorem ValP.same {K : PySem.W.Frag} {H H' : Hp} {v : V} {r : Option (List (List Int))} (h : ValP K H v r) (s : Same H H') : ValP K H' v r := h.imp id fun ⟨a, rs, e1, e2, h⟩ => ⟨a, rs, e1, e2, h.same s⟩
theorem RingAt.dp {K : PySem.W.Frag} {H : Hp} {a : Addr} {rs : List (Int × List Int)} (h : RingAt K H a rs) : Dp K H (.ref a) (dRg rs) := by
  obtain ⟨ks, rfl, hT, hk⟩ := h
  have z : ∀ ks : List Rk, (∀ k ∈ ks, RunOk K H k) → DpAll K H (ks.map fun k => V.ref k.1) ((ks.map valR).map dRun) := fun ks => by
    induction ks with
    | nil => exact fun _ => .nil
    | cons k ks ih =>
      intro hk
      have h1 := hk k (List.mem_cons_self ..)
      exact .cons (.tup h1.1 (.cons (.int _) (.cons (dpT h1.2) .nil))) (ih fun q hq => hk q (List.mem_cons_of_mem _ hq))
  exact .tup hT (z ks hk)
theorem ValR.dp {K : PySem.W.Frag} {H : Hp} {v : V} {r : Option (List (Int × List Int))} (h : ValR K H v r) : Dp K H v (dOR r) := by
  rcases h with ⟨rfl, rfl⟩ | ⟨a, rs, rfl, rfl, h⟩
  · exact .non
  · exact h.dp
theorem ValP.dp {K : PySem.W.Frag} {H : Hp} {v : V} {r : Option (List (List Int))} (h : ValP K H v r) : Dp K H v (dOP r) := by
  rcases h with ⟨rfl, rfl⟩ | ⟨a, rs, rfl, rfl, h⟩
  · exact .non
  · exact h.dp
/-! ### lists of texts -/
def Txs (H : Hp) (l : Addr) (m : Nat) : Prop := ∃ zs : List Str, H l = some (.lst (zs.map V.str)) ∧ zs.length ≤ m ∧ ∀ z ∈ zs, z.length ≤ 900
theorem Txs.same {H H' : Hp} {l : Addr} {m : Nat} (h : Txs H l m) (s : Same H H') : Txs H' l m := by
  obtain ⟨zs, h1, h2⟩ := h
  exact ⟨zs, s _ _ h1, h2⟩
theorem Txs.but {H H' : Hp} {l p : Addr} {m : Nat} (h : Txs H l m) (b : But p H H') (ne : l ≠ p) : Txs H' l m := by
  obtain ⟨zs, h1, h2⟩ := h
  exact ⟨zs, b _ _ h1 ne, h2⟩
theorem Txs.mono {H : Hp} {l : Addr} {m k : Nat} (h : Txs H l m) (e : m ≤ k) : Txs H l k := by
  obtain ⟨zs, h1, h2, h3⟩ := h
  exact ⟨zs, h1, by omega, h3⟩
theorem Txs.ne {H : Hp} {l p : Addr} {m : Nat} (h : Txs H l m) (np : H p = none) : l ≠ p := by
  obtain ⟨zs, h1, _⟩ := h
  exact ne_of_none h1 np
theorem Txs.more {H : Hp} {l : Addr} {m k : Nat} {xs : List V} {ys : List Str} (h : Txs H l m) (e : H l = some (.lst xs)) (lk : ys.length ≤ k) (hy : ∀ z ∈ ys, z.length ≤ 900) : xs.length ≤ m ∧ Txs (upd H l (.lst (xs ++ ys.map V.str))) l (m + k) := by
  obtain ⟨zs, h1, h2, h3⟩ := h
  rw [h1] at e
  injection e with e
  injection e with e
  subst e
  refine ⟨by rw [List.length_map]; exact h2, zs ++ ys, by rw [upd_same, List.map_append], by rw [List.length_append]; omega, fun z hz => ?_⟩
  exact (List.mem_append.mp hz).elim (h3 z) (hy z)
theorem Txs.ex {H : Hp} {l : Addr} {m : Nat} (h : Txs H l m) : ∃ xs, H l = some (.lst xs) := by
  obtain ⟨zs, h1, _⟩ := h
  exact ⟨_, h1⟩
theorem litS {s : String} (h : s.toList.length ≤ 100) : (Str.ofString s).length ≤ 100 := by rw [len_tl, tl_ofString, List.length_map]; exact h
end K53
set_option maxHeartbeats 4000000
/-! text * k -/
namespace RV
open PySem PySem.Spec PyProof.Rows L2 TL
theorem fold_size : ∀ (k : Nat) (a b : Array Nat), ((List.replicate k b).foldl (· ++ ·) a).size = a.size + k * b.size
  | 0, a, b => by simp
  | k + 1, a, b => by
    rw [List.replicate_succ, List.foldl_cons, fold_size k (a ++ b) b, Array.size_append, Nat.succ_mul]; omega
section
variable {X : Cx}
theorem op_mulS : OpR X (binaryOp .Mult) (fun x y H Q => ∃ (z : Str) (k : Int), x = .str z ∧ y = .int k ∧ 1 ≤ z.length ∧ z.length ≤ 1000 ∧ 2 ≤ k ∧ k ≤ 1000 ∧ ∀ r : Str, r.length = k.toNat * z.length → Q (.str r) H) := by
  intro pins s σ H x y v u Q I rx ry h
  obtain ⟨z, k, rfl, rfl, z1, z2, k1, k2, q⟩ := h
  obtain ⟨t, rfl⟩ := rx
  obtain ⟨t', rfl⟩ := ry
  have hk : (k == 1 || z.length == 0) = false := by
    rw [Bool.or_eq_false_iff]
    exact ⟨beq_eq_false_iff_ne.mpr (by omega), beq_eq_false_iff_ne.mpr (by omega)⟩
  have hm : z.length * k.toNat ≤ 1000000 := Nat.le_trans (Nat.mul_le_mul z2 (show k.toNat ≤ 1000 by omega)) (by decide)
  have hs : (⟨(List.replicate k.toNat z.cps).foldl (· ++ ·) #[]⟩ : Str).length = k.toNat * z.length := by
    show ((List.replicate k.toNat z.cps).foldl (· ++ ·) #[]).size = _
    rw [fold_size]
    show 0 + _ = _
    rw [Nat.zero_add]; rfl
  refine PySem.P.mul_str (by rw [decide_eq_false (by omega), decide_eq_false (by omega)]; rfl) (fun _ _ => ?_) (fun _ _ => ?_) ?_
  · have h1 : (1000 : Int) ≤ (2 ^ 63 - 1) / k := by
      refine (Int.le_ediv_iff_mul_le (by omega)).mpr ?_
      omega
    omega
  · unfold Builtin.Str.tooLong
    exact decide_eq_false (by rw [sizeLine_eq]; omega)
  · rw [if_neg (by omega), if_neg (by rw [hk]; exact Bool.false_ne_true)]
    refine ⟨?_, ?_⟩
    · rw [hs, Nat.mul_comm, sizeLine_eq]; omega
    · exact ⟨.str ⟨(List.replicate k.toNat z.cps).foldl (· ++ ·) #[]⟩, H, I.tok _, ⟨_, rfl⟩, q _ hs⟩
end
end RV
set_option maxHeartbeats 4000000
namespace K53
open PySem PySem.Spec PyProof.Rows L2 RV TL
def L9 (zs : List Str) : Prop := ∀ z ∈ zs, z.length ≤ 900
theorem L9.app {a b : List Str} (h : L9 a) (g : L9 b) : L9 (a ++ b) := fun z hz => (List.mem_append.mp hz).elim (h z) (g z)
theorem L9.one {z : Str} (h : z.length ≤ 900) : L9 [z] := fun y hy => by rw [List.mem_singleton.mp hy]; exact h
theorem lits9 {ss : List String} (h : ss.all (fun s => decide (s.toList.length ≤ 100)) = true) : L9 (ss.map Str.ofString) := fun z hz => by
  obtain ⟨s, hs, rfl⟩ := List.mem_map.mp hz
  have := litS (s := s) (of_decide_eq_true (List.all_eq_true.mp h s hs))
  omega
theorem splitR {K : PySem.W.Frag} {H : Hp} {z : Str} {Q : VK} (k : ∀ v H', Same H H' → ValR K H' v (ringF z) → Q v H') : (ringF z = none → ∀ H', Same H H' → Q .non H') ∧ ∀ rs, ringF z = some rs → ∀ (a : Addr) H', Same H H' → RingAt K H' a rs → Q (.ref a) H' :=
  ⟨fun e H' s => k .non H' s (.inl ⟨rfl, e⟩), fun rs e a H' s h => k (.ref a) H' s (.inr ⟨a, rs, rfl, e, h⟩)⟩
theorem splitP {K : PySem.W.Frag} {H : Hp} {z : Str} {Q : VK} (k : ∀ v H', Same H H' → ValP K H' v (planF z) → Q v H') : (planF z = none → ∀ H', Same H H' → Q .non H') ∧ ∀ ps, planF z = some ps → ∀ (a : Addr) H', Same H H' → Tups K H' a ps → Q (.ref a) H' :=
  ⟨fun e H' s => k .non H' s (.inl ⟨rfl, e⟩), fun rs e a H' s h => k (.ref a) H' s (.inr ⟨a, rs, rfl, e, h⟩)⟩
theorem spLR_of {K : PySem.W.Frag} {H : Hp} {z : Str} {Q : VK} {E : XK} (lz : z.length ≤ 900) (k : ∀ v H', Same H H' → ValR K H' v (ringF z) → Q v H') : spLR K [.str z] H Q E := ⟨z, rfl, lz, splitR (Q := Q) k⟩
theorem spLP_of {K : PySem.W.Frag} {H : Hp} {z : Str} {Q : VK} {E : XK} (lz : z.length ≤ 900) (k : ∀ v H', Same H H' → ValP K H' v (planF z) → Q v H') : spLP K [.str z] H Q E := ⟨z, rfl, lz, splitP (Q := Q) k⟩
theorem spTd0_of {K : PySem.W.Frag} {H : Hp} {z : Str} {Q : VK} {E : XK} (lz : z.length ≤ 900) (k : ∀ v H', Same H H' → ValR K H' v (ringF z) → Q v H') : spTd K [.int 0, .str z] H Q E := ⟨0, .str z, rfl, .inr ⟨z, rfl, lz, .inl ⟨rfl, splitR (Q := Q) k⟩⟩⟩
theorem spTd1_of {K : PySem.W.Frag} {H : Hp} {z : Str} {Q : VK} {E : XK} (lz : z.length ≤ 900) (k : ∀ v H', Same H H' → ValP K H' v (planF z) → Q v H') : spTd K [.int 1, .str z] H Q E := ⟨1, .str z, rfl, .inr ⟨z, rfl, lz, .inr ⟨rfl, splitP (Q := Q) k⟩⟩⟩
section
variable {P : Program} {w : World} {K : PySem.W.Frag} {mg : Str → Option Value} {base : Heap}
/-! ### law -/
abbrev nLaw : List Str := ["_law_script", "_law_great", "_law_some", "_law_k", "_law_pail_here", "_law_text", "_law_turn", "_law_due", "_law_odd", "_law_thing"]
theorem scLaw : FnScope nLaw ["_law_script"] (defScope sLaw) := ⟨rfl, rfl, rfl, by decide +kernel, rfl, by decide +kernel, by decide +kernel⟩
def spLaw (K : PySem.W.Frag) : Sp := fun vs H Q _ => ∃ (a : Addr) (ns : List Int), vs = [.ref a] ∧ SqL K H a (ns.map V.int) ∧ ns.length ≤ 63 ∧ ∀ H', Q (.bl true) H'
structure LDefs (K : PySem.W.Frag) (mg : Str → Option Value) (fPa fD fO fNu fTx fBt fTd fLR fLP fFg : Addr) (dPa dD dO dNu dTx dBt dTd dLR dLP dFg : FuncData) : Prop where
  pail : DefAt K mg "_law_pail" sPail ["_law_script", "_law_at"] fPa dPa
  draw : DefAt K mg "_law_draw" sDraw ["_law_pail_here", "_law_many"] fD dD
  of : DefAt K mg "_law_of" sOf ["_law_pail_here", "_law_some"] fO dO
  nu : DefAt K mg "_law_number" sLNumber ["_law_pail_here"] fNu dNu
  texts : DefAt K mg "_law_texts" sTexts ["_law_pail_here"] fTx dTx
  bent : DefAt K mg "_law_bent" sBent ["_law_pail_here", "_law_text"] fBt dBt
  told : DefAt K mg "_law_told" sLTold ["_law_way", "_law_text"] fTd dTd
  rring : DefAt K mg "_law_read_ring" sLReadRing ["_law_text"] fLR dLR
  rplan : DefAt K mg "_law_read_plan" sLReadPlan ["_law_text"] fLP dLP
  figs : DefAt K mg "_law_figures" sFigures ["_law_word"] fFg dFg
variable {fPa fD fO fNu fTx fBt fTd fLR fLP fFg : Addr} {dPa dD dO dNu dTx dBt dTd dLR dLP dFg : FuncData}
theorem ok_law {f : Addr} {fd : FuncData} (F : Fun K "law" "law" sLaw f fd) (B : Bare mg) (L : LDefs K mg fPa fD fO fNu fTx fBt fTd fLR fLP fFg dPa dD dO dNu dTx dBt dTd dLR dLP dFg) (GT : FnOk P w K mg base CX0 7 fTd dTd ["_law_way", "_law_text"] (spTd K)) : FnG P w K mg base CX0 8 f fd ["_law_script"] (spLaw K) := by
  have GPa : FnOk P w K mg base CX0 1 fPa dPa ["_law_script", "_law_at"] (spPail K) := ok_pail L.pail.fn B
  have GTx : FnOk P w K mg base CX0 4 fTx dTx ["_law_pail_here"] (spTx K) := ok_tx L.texts.fn ⟨L.draw, L.of, L.nu⟩ B
  have GBt : FnOk P w K mg base CX0 3 fBt dBt ["_law_pail_here", "_law_text"] (spBt K) := ok_bt L.bent.fn L.draw L.of B
  have GLR : FnOk P w K mg base CX0 2 fLR dLR ["_law_text"] (spLR K) := ok_lr L.rring.fn L.figs B
  have GLP : FnOk P w K mg base CX0 2 fLP dLP ["_law_text"] (spLP K) := ok_lp L.rplan.fn L.figs B
  refine okG F scLaw (fun vs H Q E h => ?_) (fun cdv A outer s H vs Q E gd hr h => ?_)
  · obtain ⟨a, ns, rfl, _⟩ := h
    rfl
  · obtain ⟨a, cs, rfl, hS, hlen, q⟩ := h
    have r1 := hr.mono (show 1 ≤ 7 by decide)
    have r2 := hr.mono (show 2 ≤ 7 by decide)
    have r3 := hr.mono (show 3 ≤ 7 by decide)
    have r4 := hr.mono (show 4 ≤ 7 by decide)
    have hu := un65 hr
    refine ⟨_, pss_cons (ps_set (i := 1) scLaw.nd rfl (Or.inl rfl) (pe_op op_add_str pe_str (pe_op op_mulS pe_str pe_int)))
      (pss_cons (ps_set (i := 2) scLaw.nd rfl (Or.inl rfl) (pe_lst (pa_cons pe_str (pa_cons pe_str (pa_cons pe_str (pa_cons pe_str (pa_cons pe_str (pa_cons pe_str (pa_cons pe_str (pa_cons pe_str (pa_cons pe_str (pa_cons pe_str (pa_cons pe_str (pa_cons pe_str (pa_cons pe_str (pa_cons (pe_op op_add_str (pv 1) pe_str) pa_nil))))))))))))))))
      (pss_cons (ps_expr (pe_bm PySem.F.plainAttrs_list PySem.F.slot_list_extend PySem.F.type_list_extend mt_extend (pv 2) (pa_cons (pe_lst (pa_cons (pe_op op_add_str (pv 1) pe_str) (pa_cons pe_str (pa_cons pe_str (pa_cons pe_str (pa_cons pe_str (pa_cons pe_str (pa_cons pe_str (pa_cons (pe_op op_add_str (pe_op op_add_str (pv 1) pe_str) (pv 1)) (pa_cons (pe_op op_add_str (pv 1) pe_str) (pa_cons pe_str pa_nil))))))))))) pa_nil)))
      (pss_cons (ps_expr (pe_bm PySem.F.plainAttrs_list PySem.F.slot_list_extend PySem.F.type_list_extend mt_extend (pv 2) (pa_cons (pe_lst (pa_cons pe_str (pa_cons pe_str (pa_cons pe_str (pa_cons pe_str (pa_cons pe_str (pa_cons pe_str (pa_cons pe_str (pa_cons (pe_op op_add_str (pe_op op_add_str pe_str (pe_op op_mulS pe_str pe_int)) pe_str) (pa_cons pe_str (pa_cons pe_str (pa_cons pe_str pa_nil)))))))))))) pa_nil)))
      (pss_cons (ps_for PassesOwn.never rfl (pi_range1 (by rfl) B.range (pa_cons (pe_callB (call_max2 rfl) (by rfl) B.max (by decide +kernel) (pa_cons pe_int (pa_cons (pe_callB (call_min2 rfl) (by rfl) B.min (by decide +kernel) (pa_cons pe_int (pa_cons (pe_callB call_len_seq (by rfl) B.len PySem.boot_len (pa_cons (pv 0) pa_nil)) pa_nil))) pa_nil))) pa_nil)) (pg_name (i := 3) scLaw.nd rfl (Or.inl rfl))
        (pss_cons (ps_set (i := 4) scLaw.nd rfl (Or.inr rfl) (pe_call GPa r1 (by rfl) L.pail.mg L.pail.fn.kp L.pail.bi .nil pass0 (pa_cons (pv 0) (pa_cons (pv 3) pa_nil))))
        (pss_one (ps_for PassesOwn.never rfl (pi_tup (pe_call GTx r4 (by rfl) L.texts.mg L.texts.fn.kp L.texts.bi .nil pass0 (pa_cons (pv 4) pa_nil))) (pg_name (i := 5) scLaw.nd rfl (Or.inr rfl))
          (pss_cons (ps_expr (pe_bm PySem.F.plainAttrs_list PySem.F.slot_list_append PySem.F.type_list_append mt_append (pv 2) (pa_cons (pv 5) pa_nil)))
          (pss_one (ps_expr (pe_bm PySem.F.plainAttrs_list PySem.F.slot_list_extend PySem.F.type_list_extend mt_extend (pv 2) (pa_cons (pe_lc (own := [("_law_turn", 6)]) (g := gName 6) (tt := tYes) rfl scLaw.nd (pi_range1 (by rfl) B.range (pa_cons pe_int pa_nil)) (blkOk_by (N := nLaw) (sc := defScope sLaw) (by decide +kernel)) (fun _ _ _ _ _ => pg_name (i := 6) scLaw.nd rfl (Or.inl rfl)) (fun _ _ _ _ _ => pts_nil) (fun _ _ _ _ _ => (pe_call GBt r3 (by rfl) L.bent.mg L.bent.fn.kp L.bent.bi .nil pass0 (pa_cons (pv 4) (pa_cons (pv 5) pa_nil))))) pa_nil)))))))))
      (pss_cons (ps_for PassesOwn.never rfl (pi_list (pv 2)) (pg_name (i := 5) scLaw.nd rfl (Or.inr rfl))
        (pss_cons (ps_set (i := 7) scLaw.nd rfl (Or.inl rfl) (pe_lst (pa_cons (pe_call GLR r2 (by rfl) L.rring.mg L.rring.fn.kp L.rring.bi .nil pass0 (pa_cons (pv 5) pa_nil)) (pa_cons (pe_call GLP r2 (by rfl) L.rplan.mg L.rplan.fn.kp L.rplan.bi .nil pass0 (pa_cons (pv 5) pa_nil)) pa_nil))))
        (pss_one (ps_if (pt_cmpR op_ne (pe_callB (call_reprZ gd hu) (by rfl) B.repr (by decide +kernel) (pa_cons (pe_lst (pa_cons (pe_call GT hr (by rfl) L.told.mg L.told.fn.kp L.told.bi .nil pass0 (pa_cons pe_int (pa_cons (pv 5) pa_nil))) (pa_cons (pe_call GT hr (by rfl) L.told.mg L.told.fn.kp L.told.bi .nil pass0 (pa_cons pe_int (pa_cons (pv 5) pa_nil))) pa_nil))) pa_nil)) (pe_callB (call_reprZ gd hu) (by rfl) B.repr (by decide +kernel) (pa_cons (pv 7) pa_nil)) (nomark _)) (pss_one (ps_ret pe_bl)) pss_nil))))
      (pss_cons (ps_set (i := 8) scLaw.nd rfl (Or.inl rfl) (pe_tup (pa_cons pe_non (pa_cons pe_bl (pa_cons pe_int (pa_cons (pe_tup (pa_cons pe_str pa_nil)) (pa_cons (pe_lst (pa_cons pe_str pa_nil)) (pa_cons pe_dnewK (pa_cons (pe_tup pa_nil) (pa_cons (pe_tup (pa_cons (pe_tup (pa_cons pe_int (pa_cons (pe_tup (pa_cons pe_int pa_nil)) pa_nil))) pa_nil)) pa_nil))))))))))
      (pss_one (ps_ret (pe_callB (cr_all rfl) (by rfl) B.all (by decide +kernel) (pa_cons
          (pe_lc (own := [("_law_thing", 9)]) (g := gName 9) (tt := tYes) rfl scLaw.nd (pi_tup (pv 8)) (blkOk_by (N := nLaw) (sc := defScope sLaw) (by decide +kernel))
          (fun _ _ _ _ _ => pg_name (i := 9) scLaw.nd rfl (Or.inl rfl)) (fun _ _ _ _ _ => pts_nil)
          (fun _ _ _ _ _ => pe_and (pe_cmpR op_isN (pe_call GT hr (by rfl) L.told.mg L.told.fn.kp L.told.bi .nil pass0 (pa_cons pe_int (pa_cons (pv 9) pa_nil))) pe_non (nomark _)) (pe_one (pe_cmpR op_isN (pe_call GT hr (by rfl) L.told.mg L.told.fn.kp L.told.bi .nil pass0 (pa_cons pe_int (pa_cons (pv 9) pa_nil))) pe_non (nomark _))))) pa_nil)))))))))), ?_⟩
    have z : sizeLine ≥ 100000 := by rw [sizeLine_eq]; decide
    refine ⟨Str.ofString "0", 29, rfl, rfl, by decide, by decide, by decide, by decide, fun g0 lg0 => ⟨_, _, rfl, rfl, ?_, ?_⟩⟩
    · have : (Str.ofString "1").length = 1 := rfl
      have : (Str.ofString "0").length = 1 := rfl
      rw [lg0, this, sizeLine_eq]; decide
    have lgr : (Str.ofString "1" ++ g0).length = 30 := by rw [len_app, lg0]; rfl
    generalize Str.ofString "1" ++ g0 = gr at lgr ⊢
    refine nx_step ?_
    dsimp only
    have k1 : (gr ++ Str.ofString "*0").length = 32 := by rw [len_app, lgr]; rfl
    have k2 : (gr ++ Str.ofString "0*0").length = 33 := by rw [len_app, lgr]; rfl
    have k3 : (gr ++ Str.ofString "/").length = 31 := by rw [len_app, lgr]; rfl
    have k4 : (gr ++ Str.ofString "/" ++ gr).length = 61 := by rw [len_app, k3, lgr]
    have k5 : (gr ++ Str.ofString "0/1").length = 33 := by rw [len_app, lgr]; rfl
    have m1 : (Str.ofString "*0").length = 2 := rfl
    have m2 : (Str.ofString "0*0").length = 3 := rfl
    have m3 : (Str.ofString "/").length = 1 := rfl
    have m4 : (Str.ofString "0/1").length = 3 := rfl
    refine ⟨.str gr, rfl, _, _, rfl, rfl, by omega, (by show 14 ≤ sizeLine; omega), fun l nl => ?_⟩
    have T0 : Txs (upd H l (.lst [V.str (Str.ofString ""), V.str (Str.ofString " "), V.str (Str.ofString "-"), V.str (Str.ofString "1*"), V.str (Str.ofString "*0"), V.str (Str.ofString "0*0"), V.str (Str.ofString "01*0"), V.str (Str.ofString "1*8"), V.str (Str.ofString "1*0."), V.str (Str.ofString "1*-"), V.str (Str.ofString "1*0 "), V.str (Str.ofString "1*0  1*0"), V.str (Str.ofString "1*0*0"), V.str (gr ++ Str.ofString "*0")])) l 14 := ⟨(["", " ", "-", "1*", "*0", "0*0", "01*0", "1*8", "1*0.", "1*-", "1*0 ", "1*0  1*0", "1*0*0"] : List String).map Str.ofString ++ [gr ++ Str.ofString "*0"], upd_same, by show 14 ≤ 14; decide, (lits9 (by decide +kernel)).app (L9.one (by omega))⟩
    have u0 : Same H (upd H l (.lst [V.str (Str.ofString ""), V.str (Str.ofString " "), V.str (Str.ofString "-"), V.str (Str.ofString "1*"), V.str (Str.ofString "*0"), V.str (Str.ofString "0*0"), V.str (Str.ofString "01*0"), V.str (Str.ofString "1*8"), V.str (Str.ofString "1*0."), V.str (Str.ofString "1*-"), V.str (Str.ofString "1*0 "), V.str (Str.ofString "1*0  1*0"), V.str (Str.ofString "1*0*0"), V.str (gr ++ Str.ofString "*0")])) := same_upd nl
    generalize upd H l (.lst [V.str (Str.ofString ""), V.str (Str.ofString " "), V.str (Str.ofString "-"), V.str (Str.ofString "1*"), V.str (Str.ofString "*0"), V.str (Str.ofString "0*0"), V.str (Str.ofString "01*0"), V.str (Str.ofString "1*8"), V.str (Str.ofString "1*0."), V.str (Str.ofString "1*-"), V.str (Str.ofString "1*0 "), V.str (Str.ofString "1*0  1*0"), V.str (Str.ofString "1*0*0"), V.str (gr ++ Str.ofString "*0")]) = H1 at T0 u0 ⊢
    refine nx_step ?_
    dsimp only
    obtain ⟨xs0, ex0⟩ := T0.ex
    refine ⟨.ref l, rfl, .inl ⟨rfl, _, lstNew ex0⟩, .str gr, rfl, _, _, rfl, rfl, by omega, .str gr, rfl, _, _, rfl, rfl, by omega, .str gr, rfl, _, _, rfl, rfl, by omega, .str gr, rfl, _, _, rfl, rfl, by omega, (by show 10 ≤ sizeLine; omega), fun c0 nc0 => ?_⟩
    have sb0 := same_upd (o := .lst [V.str (gr ++ Str.ofString "0*0"), V.str (Str.ofString "1/"), V.str (Str.ofString "/1"), V.str (Str.ofString "1/1/1"), V.str (Str.ofString "-/1"), V.str (Str.ofString "00/1"), V.str (Str.ofString "0/0"), V.str (gr ++ Str.ofString "/" ++ gr), V.str (gr ++ Str.ofString "0/1"), V.str (Str.ofString "- -")]) nc0
    obtain ⟨lx0, T1⟩ := (T0.same sb0).more (sb0 _ _ ex0) (ys := [gr ++ Str.ofString "0*0"] ++ (["1/", "/1", "1/1/1", "-/1", "00/1", "0/0"] : List String).map Str.ofString ++ [gr ++ Str.ofString "/" ++ gr] ++ [gr ++ Str.ofString "0/1"] ++ (["- -"] : List String).map Str.ofString) (k := 10) (by show 10 ≤ 10; decide) (((((L9.one (by omega)).app (lits9 (by decide +kernel))).app (L9.one (by omega))).app (L9.one (by omega))).app (lits9 (by decide +kernel)))
    refine ⟨l, c0, xs0, _, rfl, rfl, sb0 _ _ ex0, upd_same, (by show xs0.length + 10 ≤ _; omega), ?_⟩
    have u1 : Same H (upd (upd H1 c0 (.lst [V.str (gr ++ Str.ofString "0*0"), V.str (Str.ofString "1/"), V.str (Str.ofString "/1"), V.str (Str.ofString "1/1/1"), V.str (Str.ofString "-/1"), V.str (Str.ofString "00/1"), V.str (Str.ofString "0/0"), V.str (gr ++ Str.ofString "/" ++ gr), V.str (gr ++ Str.ofString "0/1"), V.str (Str.ofString "- -")])) l (.lst (xs0 ++ [V.str (gr ++ Str.ofString "0*0"), V.str (Str.ofString "1/"), V.str (Str.ofString "/1"), V.str (Str.ofString "1/1/1"), V.str (Str.ofString "-/1"), V.str (Str.ofString "00/1"), V.str (Str.ofString "0/0"), V.str (gr ++ Str.ofString "/" ++ gr), V.str (gr ++ Str.ofString "0/1"), V.str (Str.ofString "- -")]))) := fun c o w => by rw [upd_ne (ne_of_none w nl)]; exact sb0 _ _ (u0 c o w)
    have T1 : Txs (upd (upd H1 c0 (.lst [V.str (gr ++ Str.ofString "0*0"), V.str (Str.ofString "1/"), V.str (Str.ofString "/1"), V.str (Str.ofString "1/1/1"), V.str (Str.ofString "-/1"), V.str (Str.ofString "00/1"), V.str (Str.ofString "0/0"), V.str (gr ++ Str.ofString "/" ++ gr), V.str (gr ++ Str.ofString "0/1"), V.str (Str.ofString "- -")])) l (.lst (xs0 ++ [V.str (gr ++ Str.ofString "0*0"), V.str (Str.ofString "1/"), V.str (Str.ofString "/1"), V.str (Str.ofString "1/1/1"), V.str (Str.ofString "-/1"), V.str (Str.ofString "00/1"), V.str (Str.ofString "0/0"), V.str (gr ++ Str.ofString "/" ++ gr), V.str (gr ++ Str.ofString "0/1"), V.str (Str.ofString "- -")]))) l 24 := T1
    generalize upd (upd H1 c0 (.lst [V.str (gr ++ Str.ofString "0*0"), V.str (Str.ofString "1/"), V.str (Str.ofString "/1"), V.str (Str.ofString "1/1/1"), V.str (Str.ofString "-/1"), V.str (Str.ofString "00/1"), V.str (Str.ofString "0/0"), V.str (gr ++ Str.ofString "/" ++ gr), V.str (gr ++ Str.ofString "0/1"), V.str (Str.ofString "- -")])) l (.lst (xs0 ++ [V.str (gr ++ Str.ofString "0*0"), V.str (Str.ofString "1/"), V.str (Str.ofString "/1"), V.str (Str.ofString "1/1/1"), V.str (Str.ofString "-/1"), V.str (Str.ofString "00/1"), V.str (Str.ofString "0/0"), V.str (gr ++ Str.ofString "/" ++ gr), V.str (gr ++ Str.ofString "0/1"), V.str (Str.ofString "- -")])) = H2 at T1 u1 ⊢
    clear T0 u0 ex0 nc0 sb0 lx0
    refine nx_step ?_
    dsimp only
    obtain ⟨xs1, ex1⟩ := T1.ex
    have n1 : (Str.ofString "1*").length = 2 := rfl
    have n2 : (Str.ofString "7").length = 1 := rfl
    have n3 : (Str.ofString "0.").length = 2 := rfl
    refine ⟨.ref l, rfl, .inl ⟨rfl, _, lstNew ex1⟩, Str.ofString "0.", 99, rfl, rfl, by decide, by decide, by decide, by decide, fun g1 lg1 => ?_⟩
    have lg1 : g1.length = 198 := by rw [lg1, n3]; rfl
    have n4 : (Str.ofString "1*" ++ g1).length = 200 := by rw [len_app, n1, lg1]
    have n5 : (Str.ofString "1*" ++ g1 ++ Str.ofString "7").length = 201 := by rw [len_app, n4, n2]
    refine ⟨_, _, rfl, rfl, by omega, _, _, rfl, rfl, by omega, (by show 11 ≤ sizeLine; omega), fun c1 nc1 => ?_⟩
    have sb1 := same_upd (o := .lst [V.str (Str.ofString "1*00"), V.str (Str.ofString "1*0,1"), V.str (Str.ofString "+1*0"), V.str (Str.ofString "-1*0"), V.str (Str.ofString "1/-1"), V.str (Str.ofString "1*0\n"), V.str (Str.ofString "1/1\n"), V.str (Str.ofString "1*" ++ g1 ++ Str.ofString "7"), V.str (Str.ofString "1"), V.str (Str.ofString "1.0"), V.str (Str.ofString "1 /1")]) nc1
    obtain ⟨lx1, T2⟩ := (T1.same sb1).more (sb1 _ _ ex1) (ys := (["1*00", "1*0,1", "+1*0", "-1*0", "1/-1", "1*0\n", "1/1\n"] : List String).map Str.ofString ++ [Str.ofString "1*" ++ g1 ++ Str.ofString "7"] ++ (["1", "1.0", "1 /1"] : List String).map Str.ofString) (k := 11) (by show 11 ≤ 11; decide) (((lits9 (by decide +kernel)).app (L9.one (by omega))).app (lits9 (by decide +kernel)))
    refine ⟨l, c1, xs1, _, rfl, rfl, sb1 _ _ ex1, upd_same, (by show xs1.length + 11 ≤ _; omega), ?_⟩
    have u2 : Same H (upd (upd H2 c1 (.lst [V.str (Str.ofString "1*00"), V.str (Str.ofString "1*0,1"), V.str (Str.ofString "+1*0"), V.str (Str.ofString "-1*0"), V.str (Str.ofString "1/-1"), V.str (Str.ofString "1*0\n"), V.str (Str.ofString "1/1\n"), V.str (Str.ofString "1*" ++ g1 ++ Str.ofString "7"), V.str (Str.ofString "1"), V.str (Str.ofString "1.0"), V.str (Str.ofString "1 /1")])) l (.lst (xs1 ++ [V.str (Str.ofString "1*00"), V.str (Str.ofString "1*0,1"), V.str (Str.ofString "+1*0"), V.str (Str.ofString "-1*0"), V.str (Str.ofString "1/-1"), V.str (Str.ofString "1*0\n"), V.str (Str.ofString "1/1\n"), V.str (Str.ofString "1*" ++ g1 ++ Str.ofString "7"), V.str (Str.ofString "1"), V.str (Str.ofString "1.0"), V.str (Str.ofString "1 /1")]))) := fun c o w => by rw [upd_ne (ne_of_none w nl)]; exact sb1 _ _ (u1 c o w)
    have T2 : Txs (upd (upd H2 c1 (.lst [V.str (Str.ofString "1*00"), V.str (Str.ofString "1*0,1"), V.str (Str.ofString "+1*0"), V.str (Str.ofString "-1*0"), V.str (Str.ofString "1/-1"), V.str (Str.ofString "1*0\n"), V.str (Str.ofString "1/1\n"), V.str (Str.ofString "1*" ++ g1 ++ Str.ofString "7"), V.str (Str.ofString "1"), V.str (Str.ofString "1.0"), V.str (Str.ofString "1 /1")])) l (.lst (xs1 ++ [V.str (Str.ofString "1*00"), V.str (Str.ofString "1*0,1"), V.str (Str.ofString "+1*0"), V.str (Str.ofString "-1*0"), V.str (Str.ofString "1/-1"), V.str (Str.ofString "1*0\n"), V.str (Str.ofString "1/1\n"), V.str (Str.ofString "1*" ++ g1 ++ Str.ofString "7"), V.str (Str.ofString "1"), V.str (Str.ofString "1.0"), V.str (Str.ofString "1 /1")]))) l 35 := T2
    generalize upd (upd H2 c1 (.lst [V.str (Str.ofString "1*00"), V.str (Str.ofString "1*0,1"), V.str (Str.ofString "+1*0"), V.str (Str.ofString "-1*0"), V.str (Str.ofString "1/-1"), V.str (Str.ofString "1*0\n"), V.str (Str.ofString "1/1\n"), V.str (Str.ofString "1*" ++ g1 ++ Str.ofString "7"), V.str (Str.ofString "1"), V.str (Str.ofString "1.0"), V.str (Str.ofString "1 /1")])) l (.lst (xs1 ++ [V.str (Str.ofString "1*00"), V.str (Str.ofString "1*0,1"), V.str (Str.ofString "+1*0"), V.str (Str.ofString "-1*0"), V.str (Str.ofString "1/-1"), V.str (Str.ofString "1*0\n"), V.str (Str.ofString "1/1\n"), V.str (Str.ofString "1*" ++ g1 ++ Str.ofString "7"), V.str (Str.ofString "1"), V.str (Str.ofString "1.0"), V.str (Str.ofString "1 /1")])) = H3 at T2 u2 ⊢
    clear T1 u1 ex1 nc1 sb1 lx1
    refine nx_step ?_
    dsimp only
    refine ⟨.ref a, rfl, a, _, rfl, .inl (u2.seq hS), 3, _, rfl, 1, _, rfl, ?_⟩
    have vb : ∀ n : Int, 0 ≤ n → n ≤ 63 → 1 ≤ (if (if n < 3 then n else 3) > 1 then (if n < 3 then n else 3) else 1) ∧ (if (if n < 3 then n else 3) > 1 then (if n < 3 then n else 3) else 1) ≤ 3 := fun n _ _ => by
      split <;> split <;> omega
    have vb1 := vb ((cs.map V.int).length : Int) (by omega) (by rw [List.length_map]; omega)
    refine ⟨_, rfl, by omega, by omega, ?_⟩
    refine for_range (lo := 0) (n := _) (fun i σ H' => (∃ y3 y4 y5 y6 y7 y8 y9 : Option V, σ = [some (.ref a), some (.str gr), some (.ref l), y3, y4, y5, y6, y7, y8, y9]) ∧ Same H H' ∧ Txs H' l (35 + 26 * i))
      ⟨⟨_, _, _, _, _, _, _, rfl⟩, u2, T2⟩ ?_ ?_
    · rintro i σ H6 hi ⟨⟨y3, y4, y5, y6, y7, y8, y9, rfl⟩, u1, C1⟩
      have hi3 : i < 3 := by omega
      refine nx_step ?_
      dsimp only
      refine ⟨.ref a, rfl, .int (0 + (i : Nat)), rfl, a, cs, i, by rw [Int.zero_add]; rfl, u1.seq hS, by omega, fun H7 p v2 np hp2 => ?_⟩
      refine nx_step ?_
      dsimp only
      have hlp : l ≠ p := C1.ne np
      have npH : H p = none := u1.free np
      refine ⟨.ref p, rfl, p, 0, rfl, hp2, by omega, fun H8 t8 T z1 z2 hp8 ht8 b8 eT neT l1 l2 => ⟨T, rfl, ⟨_, tupNew eT⟩, ?_⟩⟩
      have C8 := (C1.same v2).but b8 hlp
      have u8 := same_but (u1.trans v2) npH b8
      have neTl : T ≠ l := fun e => by
        obtain ⟨xs, ex⟩ := C8.ex
        rw [e, ex] at eT
        cases eT
      refine for_tup (K := K) (a := T) (xs := [.str z1, .str z2]) (fun j σ H' => (∃ y5 y6 y7 y8 y9 : Option V, σ = [some (.ref a), some (.str gr), some (.ref l), some (.int (0 + (i : Nat))), some (.ref p), y5, y6, y7, y8, y9]) ∧ H' T = some (.tup [.str z1, .str z2]) ∧ (∃ t : Nat, PailAt H' p t ∧ t ≤ 60 + 48 * j) ∧ Same H H' ∧ Txs H' l (35 + 26 * i + 13 * j))
        ⟨⟨_, _, _, _, _, rfl⟩, eT, ⟨t8, hp8, by omega⟩, u8, C8⟩ (fun j σ H' _ h => tupNew h.2.1) (fun j x σ H9 hx h => ?_) fun σ H9 h => ?_
      · obtain ⟨⟨y5, y6, y7, y8, y9, rfl⟩, eT9, ⟨t, hp9, ht9⟩, u9, C9⟩ := h
        have hj : j < 2 := (List.getElem?_eq_some_iff.mp hx).1
        obtain ⟨zt, rfl, lzt⟩ : ∃ zt : Str, x = .str zt ∧ zt.length ≤ 260 := by
          match j, hx with
          | 0, hx => exact ⟨z1, (Option.some.inj hx).symm, l1⟩
          | 1, hx => exact ⟨z2, (Option.some.inj hx).symm, l2⟩
          | j + 2, hx => simp at hx
        refine nx_step ?_
        dsimp only
        obtain ⟨xsA, exA⟩ := C9.ex
        obtain ⟨lxA, CA⟩ := C9.more exA (ys := [zt]) (k := 1) (by simp) (L9.one (by omega))
        refine ⟨.ref l, rfl, .inl ⟨rfl, _, lstNew exA⟩, .str zt, rfl, l, xsA, .str zt, rfl, rfl, exA, (by omega), ?_⟩
        have uA : Same H (upd H9 l (.lst (xsA ++ [.str zt]))) := fun c o w => by rw [upd_ne (ne_of_none w nl)]; exact u9 c o w
        have CA : Txs (upd H9 l (.lst (xsA ++ [.str zt]))) l (35 + 26 * i + 13 * j + 1) := CA
        have hpA : PailAt (upd H9 l (.lst (xsA ++ [.str zt]))) p t := pail_set hp9 hlp
        have eTA : (upd H9 l (.lst (xsA ++ [.str zt]))) T = some (.tup [.str z1, .str z2]) := by rw [upd_ne neTl]; exact eT9
        generalize upd H9 l (.lst (xsA ++ [.str zt])) = HA at CA uA hpA eTA ⊢
        refine nx_step ?_
        dsimp only
        obtain ⟨xsB, exB⟩ := CA.ex
        refine ⟨.ref l, rfl, .inl ⟨rfl, _, lstNew exB⟩, 12, rfl, by decide, by decide, fun D nD => ?_⟩
        have hDp : D ≠ p := pail_ne hpA nD
        refine lc_range (lo := 0) (n := 12) (fun j H' => ∃ (ys : List Str) (t' : Nat), But p HA H' ∧ PailAt H' p t' ∧ t' ≤ t + 4 * j ∧ H' D = some (.lst (ys.map V.str)) ∧ ys.length = j ∧ L9 ys)
          ⟨[], t, But.of (same_upd nD), pail_new hpA nD, by omega, upd_same, rfl, (fun _ w => nomatch w)⟩ (fun k H' hk pp => ?_) fun HB pp => ?_
        · obtain ⟨ys, t', b2, hp2, ht2, eD, lx, inn⟩ := pp
          refine ⟨rfl, tt_yes ⟨.ref p, rfl, .str zt, rfl, p, t', zt, rfl, hp2, by omega, lzt, fun Hc tc zb hpc htc bc lzb => ?_⟩⟩
          refine ⟨_, bc _ _ eD hDp, by rw [List.length_map]; omega, ys ++ [zb], tc, fun c o e ne => ?_, pail_set hpc hDp, by omega, ?_, by rw [List.length_append, lx]; rfl, inn.app (L9.one lzb)⟩
          · rw [upd_ne (ne_of_none e nD)]; exact bc _ _ (b2 c o e ne) ne
          · rw [upd_same, List.map_append]; rfl
        · obtain ⟨ys, t', b2, hp2, ht2, eD, lx, inn⟩ := pp
          have exB2 := b2 _ _ exB hlp
          obtain ⟨lxB, CB⟩ := (CA.but b2 hlp).more exB2 (ys := ys) (k := 12) (by omega) inn
          have uB := same_but uA npH b2
          refine ⟨l, D, xsB, _, rfl, rfl, exB2, eD, by rw [List.length_map]; omega, ?_⟩
          have neTp : T ≠ p := neT
          refine ⟨⟨_, _, _, _, _, rfl⟩, by rw [upd_ne neTl]; exact b2 _ _ eTA neTp, ⟨t', pail_set hp2 hlp, by omega⟩, fun c o w => by rw [upd_ne (ne_of_none w nl)]; exact uB c o w, CB.mono (by omega)⟩
      · obtain ⟨⟨y5, y6, y7, y8, y9, rfl⟩, eT9, ⟨t, hp9, ht9⟩, u9, C9⟩ := h
        exact ⟨⟨_, _, _, _, _, _, _, rfl⟩, u9, C9.mono (by show 35 + 26 * i + 13 * 2 ≤ _; omega)⟩
    rintro σ H6 ⟨⟨y3, y4, y5, y6, y7, y8, y9, rfl⟩, u1, zs, e1, lz, hz⟩
    dsimp only
    have lz : zs.length ≤ 200 := by omega
    refine ⟨.ref l, rfl, l, rfl, ⟨_, lstNew e1⟩, ?_⟩
    refine for_list (K := K) (a := l) (xs := zs.map V.str) (fun i σ H' => (∃ y5 y7 : Option V, σ = [some (.ref a), some (.str gr), some (.ref l), y3, y4, y5, y6, y7, y8, y9]) ∧ Same H6 H') ⟨⟨_, _, rfl⟩, Same.refl _⟩ (fun i σ H' _ h => lstNew (h.2 _ _ e1)) (fun i x σ H7 hx h => ?_) fun σ H7 h => ?_
    · obtain ⟨⟨y5, y7, rfl⟩, s7⟩ := h
      obtain ⟨zt, g, rfl⟩ := map_at hx
      have lzt := hz zt (List.mem_of_getElem? g)
      dsimp only [gName]
      have sh := both_shows lzt
      refine ⟨.str zt, rfl, ?_⟩
      try dsimp only [tNil]
      refine spLR_of lzt fun v1 H8 s8 hv1 => ?_
      refine ⟨.str zt, rfl, ?_⟩
      try dsimp only [tNil]
      refine spLP_of lzt fun v2 H9 s9 hv2 => ?_
      refine ⟨by show 2 ≤ sizeLine; omega, fun E nE => ?_⟩
      have sE := same_upd (o := .lst [v1, v2]) nE
      have eE : (upd H9 E (.lst [v1, v2])) E = some (.lst [v1, v2]) := upd_same
      have s7E := (s8.trans s9).trans sE
      have dE : ∀ {H' : Hp}, Same (upd H9 E (.lst [v1, v2])) H' → Dp K H' (.ref E) (dBoth zt (ringF zt) (planF zt)) := fun s' => .lst (lstNew (s' _ _ eE)) (.cons (hv1.same ((s9.trans sE).trans s')).dp (.cons (hv2.same (sE.trans s')).dp .nil))
      generalize upd H9 E (.lst [v1, v2]) = HE at sE eE s7E dE ⊢
      refine nx_step ?_
      refine ⟨.str zt, rfl, ?_⟩
      try dsimp only [tNil]
      refine spTd0_of lzt fun w1 Ha sa hw1 => ?_
      refine ⟨.str zt, rfl, ?_⟩
      try dsimp only [tNil]
      refine spTd1_of lzt fun w2 Hb sb hw2 => ?_
      refine ⟨by show 2 ≤ sizeLine; omega, fun U nU => ?_⟩
      have sU := same_upd (o := .lst [w1, w2]) nU
      have dU : Dp K (upd Hb U (.lst [w1, w2])) (.ref U) (dBoth zt (ringF zt) (planF zt)) := .lst (lstNew upd_same) (.cons (hw1.same (sb.trans sU)).dp (.cons (hw2.same sU).dp .nil))
      refine ⟨.ref U, dBoth zt (ringF zt) (planF zt), rfl, .inl dU, sh, ?_⟩
      refine ⟨.ref E, rfl, .ref E, dBoth zt (ringF zt) (planF zt), rfl, .inl (dE ((sa.trans sb).trans sU)), sh, rfl, _, rfl, ?_⟩
      rw [decide_eq_true rfl]
      exact iteF ⟨⟨_, _, rfl⟩, s7.trans (s7E.trans ((sa.trans sb).trans sU))⟩
    obtain ⟨⟨y5, y7, rfl⟩, s7⟩ := h
    dsimp only
    refine ⟨by show 1 ≤ sizeLine; omega, fun c1 n1 => ?_⟩
    have s1 := same_upd (o := .tup [.str (Str.ofString "1*0")]) n1
    have g1 : (upd H7 c1 (.tup [.str (Str.ofString "1*0")])) c1 = some (.tup [.str (Str.ofString "1*0")]) := upd_same
    generalize upd H7 c1 (.tup [.str (Str.ofString "1*0")]) = G1 at s1 g1 ⊢
    refine ⟨by show 1 ≤ sizeLine; omega, fun c2 n2 => ?_⟩
    have s2 := same_upd (o := .lst [.str (Str.ofString "1*0")]) n2
    have g2 : (upd G1 c2 (.lst [.str (Str.ofString "1*0")])) c2 = some (.lst [.str (Str.ofString "1*0")]) := upd_same
    generalize upd G1 c2 (.lst [.str (Str.ofString "1*0")]) = G2 at s2 g2 ⊢
    refine fun c3 n3 => ?_
    have s3 := same_upd (o := .dK []) n3
    have g3 : (upd G2 c3 (.dK [])) c3 = some (.dK []) := upd_same
    generalize upd G2 c3 (.dK []) = G3 at s3 g3 ⊢
    refine ⟨by show 0 ≤ sizeLine; omega, fun c4 n4 => ?_⟩
    have s4 := same_upd (o := .tup []) n4
    have g4 : (upd G3 c4 (.tup [])) c4 = some (.tup []) := upd_same
    generalize upd G3 c4 (.tup []) = G4 at s4 g4 ⊢
    refine ⟨by show 1 ≤ sizeLine; omega, fun c5 n5 => ?_⟩
    have s5 := same_upd (o := .tup [.int 0]) n5
    have g5 : (upd G4 c5 (.tup [.int 0])) c5 = some (.tup [.int 0]) := upd_same
    generalize upd G4 c5 (.tup [.int 0]) = G5 at s5 g5 ⊢
    refine ⟨by show 2 ≤ sizeLine; omega, fun c6 n6 => ?_⟩
    have s6 := same_upd (o := .tup [.int 1, .ref c5]) n6
    have g6 : (upd G5 c6 (.tup [.int 1, .ref c5])) c6 = some (.tup [.int 1, .ref c5]) := upd_same
    generalize upd G5 c6 (.tup [.int 1, .ref c5]) = G6 at s6 g6 ⊢
    refine ⟨by show 1 ≤ sizeLine; omega, fun c7 n7 => ?_⟩
    have s7' := same_upd (o := .tup [.ref c6]) n7
    have g7 : (upd G6 c7 (.tup [.ref c6])) c7 = some (.tup [.ref c6]) := upd_same
    generalize upd G6 c7 (.tup [.ref c6]) = G7 at s7' g7 ⊢
    refine ⟨by show 8 ≤ sizeLine; omega, fun c8 n8 => ?_⟩
    have s8 := same_upd (o := .tup [.non, .bl true, .int 0, .ref c1, .ref c2, .ref c3, .ref c4, .ref c7]) n8
    have g8 : (upd G7 c8 (.tup [.non, .bl true, .int 0, .ref c1, .ref c2, .ref c3, .ref c4, .ref c7])) c8 = some (.tup [.non, .bl true, .int 0, .ref c1, .ref c2, .ref c3, .ref c4, .ref c7]) := upd_same
    generalize upd G7 c8 (.tup [.non, .bl true, .int 0, .ref c1, .ref c2, .ref c3, .ref c4, .ref c7]) = G8 at s8 g8 ⊢
    have x7 := s8
    have x6 := s7'.trans x7
    have x5 := s6.trans x6
    have x4 := s5.trans x5
    have x3 := s4.trans x4
    have x2 := s3.trans x3
    have x1 := s2.trans x2
    have things : ∀ v ∈ [V.non, V.bl true, V.int 0, V.ref c1, V.ref c2, V.ref c3, V.ref c4, V.ref c7], ∃ d : PyData, Dq K G8 v d ∧ isiD d "str" = false := by
      intro v hv
      simp only [List.mem_cons, List.mem_nil_iff, or_false, List.not_mem_nil] at hv
      rcases hv with rfl | rfl | rfl | rfl | rfl | rfl | rfl | rfl
      · exact ⟨_, .non, by decide⟩
      · exact ⟨_, .bl true, by decide⟩
      · exact ⟨_, .int 0, by decide⟩
      · exact ⟨_, .tup (tupNew (x1 _ _ g1)) (.cons (.str _) .nil), by decide⟩
      · exact ⟨_, .lst (x2 _ _ g2) (.cons (.str _) .nil), by decide⟩
      · exact ⟨_, .dct (x3 _ _ g3) .nil, by decide⟩
      · exact ⟨_, .tup (tupNew (x4 _ _ g4)) .nil, by decide⟩
      · exact ⟨_, .tup (tupNew (x7 _ _ g7)) (.cons (.tup (tupNew (x6 _ _ g6)) (.cons (.int 1) (.cons (.tup (tupNew (x5 _ _ g5)) (.cons (.int 0) .nil)) .nil))) .nil), by decide⟩
    have lS : SqT K G8 c8 [.non, .bl true, .int 0, .ref c1, .ref c2, .ref c3, .ref c4, .ref c7] := tupNew g8
    refine nx_step ?_
    dsimp only
    refine ⟨.ref c8, rfl, c8, rfl, ⟨_, lS⟩, fun D nD => ?_⟩
    refine lc_tup (K := K) (a := c8) (xs := [.non, .bl true, .int 0, .ref c1, .ref c2, .ref c3, .ref c4, .ref c7]) (fun i H' => Same G8 H' ∧ H' D = some (.lst (List.replicate i (V.bl true)))) ⟨same_upd nD, upd_same⟩ (fun i H' _ p => sqT_same p.1 lS) (fun i x H' hx p => ?_) fun H2 p => ?_
    · obtain ⟨d, hd, no⟩ := things x (List.mem_of_getElem? hx)
      have hi : i < 8 := (List.getElem?_eq_some_iff.mp hx).1
      refine ⟨rfl, tt_yes ⟨x, rfl, 0, x, rfl, .inl ⟨.inl rfl, d, hd.same p.1, no, fun H8 s8' => ⟨rfl, true, rfl, iteT ?_⟩⟩⟩⟩
      refine ⟨x, rfl, 1, x, rfl, .inl ⟨.inr rfl, d, hd.same (fun b o w => s8' _ _ (p.1 b o w)), no, fun H9 s9' => ⟨rfl, _, s9' _ _ (s8' _ _ p.2), ?_, ?_, ?_⟩⟩⟩
      · rw [List.length_replicate]; omega
      · exact fun c o w => by rw [upd_ne (ne_of_none w nD)]; exact s9' _ _ (s8' c o (p.1 c o w))
      · rw [upd_same, decide_eq_true rfl, rep_next]
    · have p2 := p.2
      rw [rep_bl] at p2
      refine ⟨D, _, rfl, lstNew p2, ?_⟩
      rw [all_true]
      exact q _
end
end K53
set_option maxHeartbeats 4000000
namespace K53
open PySem PySem.Spec PyProof.Rows L2 RV
theorem all_x {l : PySem.W.OpenLaw} {w : World} {K : PySem.W.Frag} {h : Heap} {mg : Str → Option Value} {fa : Addr} (X : K.In h) (G : h.Ns mainGlobals mg) (hfa : mg "law" = some (.ref fa)) (cS : RV.SaysS hdFa hdFn hdEx hdSn K) (hfile : ((l.prog.main.file : Str) == ("/claim/cut.py" : Str)) = true) (htop : (l.prog.main.scope.names.lookup ("super" : Str)).isSome = false) :
    ∃ (fd : FuncData) (sp : Sp), (∀ (s : Shared) (v : Value), BindsTo s fd ⟨[v], []⟩ [("_law_script", v)]) ∧ (∀ (H : Hp) (a : Addr) (ns : List Int), ns.length ≤ 63 → Only H → SqL K H a (ns.map V.int) → sp [.ref a] H (fun v _ => v = .bl true) fun _ _ _ => False) ∧ ∀ base : Heap, K.In base → base.Ns mainGlobals mg → FnG l.prog w K mg base CX0 8 fa fd ["_law_script"] sp := by
  have c := cS.x
  obtain ⟨f20, fd20, F20, bL, mL⟩ := RV.law_x (st := sLaw) (x := "law") (q := "_law_script") X G c 19 (by kernel_rfl) (by kernel_rfl) (by kernel_rfl) fun _ _ _ _ _ _ _ _ => .of_eq rfl
  have e := hfa.symm.trans mL
  cases e
  obtain ⟨CN, hCN⟩ : ∃ C : Addr, He.ga K "NoText" = C := ⟨_, rfl⟩
  obtain ⟨CR, hCR⟩ : ∃ C : Addr, He.ga K "RingError" = C := ⟨_, rfl⟩
  obtain ⟨f1, fd1, p1, r1, m1⟩ := RV.def_x (st := sWhole) (x := "is_whole") (ps := ["thing"]) X G c 0 (by kernel_rfl) (by kernel_rfl) (by kernel_rfl) fun _ _ _ _ _ _ us hl => match us, hl with | [_], _ => rfl
  have D1 : DefAt K mg "is_whole" sWhole ["thing"] f1 fd1 := ⟨p1, r1, m1⟩
  obtain ⟨f2, fd2, p2, r2, m2⟩ := RV.def_x (st := sMark) (x := "is_below") (ps := ["thing", "many"]) X G c 1 (by kernel_rfl) (by kernel_rfl) (by kernel_rfl) fun _ _ _ _ _ _ us hl => match us, hl with | [_, _], _ => rfl
  have D2 : DefAt K mg "is_below" sMark ["thing", "many"] f2 fd2 := ⟨p2, r2, m2⟩
  obtain ⟨f3, fd3, p3, r3, m3⟩ := RV.def_x (st := sMarks) (x := "are_marks") (ps := ["thing", "many"]) X G c 2 (by kernel_rfl) (by kernel_rfl) (by kernel_rfl) fun _ _ _ _ _ _ us hl => match us, hl with | [_, _], _ => rfl
  have D3 : DefAt K mg "are_marks" sMarks ["thing", "many"] f3 fd3 := ⟨p3, r3, m3⟩
  obtain ⟨f4, fd4, p4, r4, m4⟩ := RV.def_x (st := sNumIn) (x := "number_in") (ps := ["word"]) X G c 3 (by kernel_rfl) (by kernel_rfl) (by kernel_rfl) fun _ _ _ _ _ _ us hl => match us, hl with | [_], _ => rfl
  have D4 : DefAt K mg "number_in" sNumIn ["word"] f4 fd4 := ⟨p4, r4, m4⟩
  obtain ⟨f5, fd5, p5, r5, m5⟩ := RV.def_x (st := sNumsIn) (x := "numbers_in") (ps := ["words"]) X G c 4 (by kernel_rfl) (by kernel_rfl) (by kernel_rfl) fun _ _ _ _ _ _ us hl => match us, hl with | [_], _ => rfl
  have D5 : DefAt K mg "numbers_in" sNumsIn ["words"] f5 fd5 := ⟨p5, r5, m5⟩
  obtain ⟨f6, fd6, p6, r6, m6⟩ := RV.def_x (st := sMarksIn) (x := "marks_in") (ps := ["word"]) X G c 5 (by kernel_rfl) (by kernel_rfl) (by kernel_rfl) fun _ _ _ _ _ _ us hl => match us, hl with | [_], _ => rfl
  have D6 : DefAt K mg "marks_in" sMarksIn ["word"] f6 fd6 := ⟨p6, r6, m6⟩
  obtain ⟨f7, fd7, p7, r7, m7⟩ := RV.def_x (st := sReadRing) (x := "read_ring") (ps := ["text"]) X G c 6 (by kernel_rfl) (by kernel_rfl) (by kernel_rfl) fun _ _ _ _ _ _ us hl => match us, hl with | [_], _ => rfl
  have D7 : DefAt K mg "read_ring" sReadRing ["text"] f7 fd7 := ⟨p7, r7, m7⟩
  obtain ⟨f8, fd8, p8, r8, m8⟩ := RV.def_x (st := sRunIn) (x := "run_in") (ps := ["word"]) X G c 7 (by kernel_rfl) (by kernel_rfl) (by kernel_rfl) fun _ _ _ _ _ _ us hl => match us, hl with | [_], _ => rfl
  have D8 : DefAt K mg "run_in" sRunIn ["word"] f8 fd8 := ⟨p8, r8, m8⟩
  obtain ⟨f9, fd9, p9, r9, m9⟩ := RV.def_x (st := sReadPlan) (x := "read_plan") (ps := ["text"]) X G c 8 (by kernel_rfl) (by kernel_rfl) (by kernel_rfl) fun _ _ _ _ _ _ us hl => match us, hl with | [_], _ => rfl
  have D9 : DefAt K mg "read_plan" sReadPlan ["text"] f9 fd9 := ⟨p9, r9, m9⟩
  obtain ⟨f10, fd10, p10, r10, m10⟩ := RV.def_x (st := sPail) (x := "_law_pail") (ps := ["_law_script", "_law_at"]) X G c 9 (by kernel_rfl) (by kernel_rfl) (by kernel_rfl) fun _ _ _ _ _ _ us hl => match us, hl with | [_, _], _ => rfl
  have D10 : DefAt K mg "_law_pail" sPail ["_law_script", "_law_at"] f10 fd10 := ⟨p10, r10, m10⟩
  obtain ⟨f11, fd11, p11, r11, m11⟩ := RV.def_x (st := sDraw) (x := "_law_draw") (ps := ["_law_pail_here", "_law_many"]) X G c 10 (by kernel_rfl) (by kernel_rfl) (by kernel_rfl) fun _ _ _ _ _ _ us hl => match us, hl with | [_, _], _ => rfl
  have D11 : DefAt K mg "_law_draw" sDraw ["_law_pail_here", "_law_many"] f11 fd11 := ⟨p11, r11, m11⟩
  obtain ⟨f12, fd12, p12, r12, m12⟩ := RV.def_x (st := sOf) (x := "_law_of") (ps := ["_law_pail_here", "_law_some"]) X G c 11 (by kernel_rfl) (by kernel_rfl) (by kernel_rfl) fun _ _ _ _ _ _ us hl => match us, hl with | [_, _], _ => rfl
  have D12 : DefAt K mg "_law_of" sOf ["_law_pail_here", "_law_some"] f12 fd12 := ⟨p12, r12, m12⟩
  obtain ⟨f13, fd13, p13, r13, m13⟩ := RV.def_x (st := sLNumber) (x := "_law_number") (ps := ["_law_pail_here"]) X G c 12 (by kernel_rfl) (by kernel_rfl) (by kernel_rfl) fun _ _ _ _ _ _ us hl => match us, hl with | [_], _ => rfl
  have D13 : DefAt K mg "_law_number" sLNumber ["_law_pail_here"] f13 fd13 := ⟨p13, r13, m13⟩
  obtain ⟨f14, fd14, p14, r14, m14⟩ := RV.def_x (st := sFigures) (x := "_law_figures") (ps := ["_law_word"]) X G c 13 (by kernel_rfl) (by kernel_rfl) (by kernel_rfl) fun _ _ _ _ _ _ us hl => match us, hl with | [_], _ => rfl
  have D14 : DefAt K mg "_law_figures" sFigures ["_law_word"] f14 fd14 := ⟨p14, r14, m14⟩
  obtain ⟨f15, fd15, p15, r15, m15⟩ := RV.def_x (st := sLReadRing) (x := "_law_read_ring") (ps := ["_law_text"]) X G c 14 (by kernel_rfl) (by kernel_rfl) (by kernel_rfl) fun _ _ _ _ _ _ us hl => match us, hl with | [_], _ => rfl
  have D15 : DefAt K mg "_law_read_ring" sLReadRing ["_law_text"] f15 fd15 := ⟨p15, r15, m15⟩
  obtain ⟨f16, fd16, p16, r16, m16⟩ := RV.def_x (st := sLReadPlan) (x := "_law_read_plan") (ps := ["_law_text"]) X G c 15 (by kernel_rfl) (by kernel_rfl) (by kernel_rfl) fun _ _ _ _ _ _ us hl => match us, hl with | [_], _ => rfl
  have D16 : DefAt K mg "_law_read_plan" sLReadPlan ["_law_text"] f16 fd16 := ⟨p16, r16, m16⟩
  obtain ⟨f17, fd17, p17, r17, m17⟩ := RV.def_x (st := sLTold) (x := "_law_told") (ps := ["_law_way", "_law_text"]) X G c 16 (by kernel_rfl) (by kernel_rfl) (by kernel_rfl) fun _ _ _ _ _ _ us hl => match us, hl with | [_, _], _ => rfl
  have D17 : DefAt K mg "_law_told" sLTold ["_law_way", "_law_text"] f17 fd17 := ⟨p17, r17, m17⟩
  obtain ⟨f18, fd18, p18, r18, m18⟩ := RV.def_x (st := sBent) (x := "_law_bent") (ps := ["_law_pail_here", "_law_text"]) X G c 17 (by kernel_rfl) (by kernel_rfl) (by kernel_rfl) fun _ _ _ _ _ _ us hl => match us, hl with | [_, _], _ => rfl
  have D18 : DefAt K mg "_law_bent" sBent ["_law_pail_here", "_law_text"] f18 fd18 := ⟨p18, r18, m18⟩
  obtain ⟨f19, fd19, p19, r19, m19⟩ := RV.def_x (st := sTexts) (x := "_law_texts") (ps := ["_law_pail_here"]) X G c 18 (by kernel_rfl) (by kernel_rfl) (by kernel_rfl) fun _ _ _ _ _ _ us hl => match us, hl with | [_], _ => rfl
  have D19 : DefAt K mg "_law_texts" sTexts ["_law_pail_here"] f19 fd19 := ⟨p19, r19, m19⟩
  obtain ⟨tk1, mN⟩ := RV.strX_ok (x := "NOTHING") (y := dash) (c.look 0 (by kernel_rfl))
  obtain ⟨tk2, mS⟩ := RV.strX_ok (x := "FIGURES") (y := sFig) (c.look 1 (by kernel_rfl))
  obtain ⟨tk3, mF⟩ := RV.intX_ok (x := "MOST_FIGURES") (i := 30) (c.look 2 (by kernel_rfl))
  obtain ⟨tk4, mM⟩ := RV.intX_ok (x := "MOST_MARKS") (i := 8) (c.look 3 (by kernel_rfl))
  have x1 : PySem.W.ks_superIn K CN CN "__init__" = some (some (.builtin "ValueError.__init__")) := by
    rw [← hCN]
    skip
    exact c.dec (P := fun K => PySem.W.ks_superIn K (He.ga K "NoText") (He.ga K "NoText") "__init__" = some (some (.builtin "ValueError.__init__"))) 4 (by kernel_rfl)
  have x2 : PySem.W.subIn K (.ref CN) (.type "ValueError") = some true := by
    rw [← hCN]
    skip
    exact c.dec (P := fun K => PySem.W.subIn K (.ref (He.ga K "NoText")) (.type "ValueError") = some true) 5 (by kernel_rfl)
  have x3 : PySem.W.mroIn K CN (.ref CN) = some true := by
    rw [← hCN]
    skip
    exact c.dec (P := fun K => PySem.W.mroIn K (He.ga K "NoText") (.ref (He.ga K "NoText")) = some true) 6 (by kernel_rfl)
  have x4 : PySem.W.nsIn K cStatics "thirdparty.any" = some none := by
    skip
    skip
    exact c.dec (P := fun K => PySem.W.nsIn K cStatics "thirdparty.any" = some none) 7 (by kernel_rfl)
  have x5 : PySem.W.subIn K (.ref CN) (.type "BaseException") = some true := by
    rw [← hCN]
    skip
    exact c.dec (P := fun K => PySem.W.subIn K (.ref (He.ga K "NoText")) (.type "BaseException") = some true) 8 (by kernel_rfl)
  have x6 : PySem.W.findIn K (.ref CN) "__setattr__" = some (some (.builtin "object.__setattr__")) := by
    rw [← hCN]
    skip
    exact c.dec (P := fun K => PySem.W.findIn K (.ref (He.ga K "NoText")) "__setattr__" = some (some (.builtin "object.__setattr__"))) 9 (by kernel_rfl)
  have x7 : PySem.W.typeIn K (.ref CN) = some (.type "type") := by
    rw [← hCN]
    skip
    exact c.dec (P := fun K => PySem.W.typeIn K (.ref (He.ga K "NoText")) = some (.type "type")) 10 (by kernel_rfl)
  have x8 : PySem.W.keepIn K (.ref CN) = true := by
    rw [← hCN]
    skip
    exact c.dec (P := fun K => PySem.W.keepIn K (.ref (He.ga K "NoText")) = true) 11 (by kernel_rfl)
  have x9 : PySem.W.findIn K (.ref CN) "row" = some none := by
    rw [← hCN]
    skip
    exact c.dec (P := fun K => PySem.W.findIn K (.ref (He.ga K "NoText")) "row" = some none) 12 (by kernel_rfl)
  have y1 : PySem.W.exmOne K (.ref CN) (.ref CN) = some true := by
    rw [← hCN]
    skip
    exact c.dec (P := fun K => PySem.W.exmOne K (.ref (He.ga K "NoText")) (.ref (He.ga K "NoText")) = some true) 13 (by kernel_rfl)
  have y2 : PySem.W.kitOne K (.ref CN) (.ref CR) = some true := by
    rw [← hCN]
    rw [← hCR]
    exact c.dec (P := fun K => PySem.W.kitOne K (.ref (He.ga K "NoText")) (.ref (He.ga K "RingError")) = some true) 14 (by kernel_rfl)
  have y3 : PySem.W.kitOne K (.ref CN) (.type "ValueError") = some true := by
    rw [← hCN]
    skip
    exact c.dec (P := fun K => PySem.W.kitOne K (.ref (He.ga K "NoText")) (.type "ValueError") = some true) 15 (by kernel_rfl)
  have zS : PySem.W.nsIn K mainGlobals "super" = some none := by
    skip
    skip
    exact c.dec (P := fun K => PySem.W.nsIn K mainGlobals "super" = some none) 16 (by kernel_rfl)
  have zV : PySem.W.nsIn K mainGlobals "ValueError" = some none := by
    skip
    skip
    exact c.dec (P := fun K => PySem.W.nsIn K mainGlobals "ValueError" = some none) 17 (by kernel_rfl)
  have aCN : PySem.W.nsIn K mainGlobals "NoText" = some (some (.ref CN)) := by
    rw [← hCN]
    skip
    exact c.dec (P := fun K => PySem.W.nsIn K mainGlobals "NoText" = some (some (.ref (He.ga K "NoText")))) 37 (by kernel_rfl)
  have aCR : PySem.W.nsIn K mainGlobals "RingError" = some (some (.ref CR)) := by
    skip
    rw [← hCR]
    exact c.dec (P := fun K => PySem.W.nsIn K mainGlobals "RingError" = some (some (.ref (He.ga K "RingError")))) 38 (by kernel_rfl)
  have z0 : PySem.W.nsIn K mainGlobals "len" = some none := by
    skip
    skip
    exact c.dec (P := fun K => PySem.W.nsIn K mainGlobals "len" = some none) 18 (by kernel_rfl)
  have z1 : PySem.W.nsIn K mainGlobals "isinstance" = some none := by
    skip
    skip
    exact c.dec (P := fun K => PySem.W.nsIn K mainGlobals "isinstance" = some none) 19 (by kernel_rfl)
  have z2 : PySem.W.nsIn K mainGlobals "int" = some none := by
    skip
    skip
    exact c.dec (P := fun K => PySem.W.nsIn K mainGlobals "int" = some none) 20 (by kernel_rfl)
  have z3 : PySem.W.nsIn K mainGlobals "bool" = some none := by
    skip
    skip
    exact c.dec (P := fun K => PySem.W.nsIn K mainGlobals "bool" = some none) 21 (by kernel_rfl)
  have z4 : PySem.W.nsIn K mainGlobals "tuple" = some none := by
    skip
    skip
    exact c.dec (P := fun K => PySem.W.nsIn K mainGlobals "tuple" = some none) 22 (by kernel_rfl)
  have z5 : PySem.W.nsIn K mainGlobals "all" = some none := by
    skip
    skip
    exact c.dec (P := fun K => PySem.W.nsIn K mainGlobals "all" = some none) 23 (by kernel_rfl)
  have z6 : PySem.W.nsIn K mainGlobals "enumerate" = some none := by
    skip
    skip
    exact c.dec (P := fun K => PySem.W.nsIn K mainGlobals "enumerate" = some none) 24 (by kernel_rfl)
  have z7 : PySem.W.nsIn K mainGlobals "zip" = some none := by
    skip
    skip
    exact c.dec (P := fun K => PySem.W.nsIn K mainGlobals "zip" = some none) 25 (by kernel_rfl)
  have z8 : PySem.W.nsIn K mainGlobals "range" = some none := by
    skip
    skip
    exact c.dec (P := fun K => PySem.W.nsIn K mainGlobals "range" = some none) 26 (by kernel_rfl)
  have z9 : PySem.W.nsIn K mainGlobals "list" = some none := by
    skip
    skip
    exact c.dec (P := fun K => PySem.W.nsIn K mainGlobals "list" = some none) 27 (by kernel_rfl)
  have z10 : PySem.W.nsIn K mainGlobals "set" = some none := by
    skip
    skip
    exact c.dec (P := fun K => PySem.W.nsIn K mainGlobals "set" = some none) 28 (by kernel_rfl)
  have z11 : PySem.W.nsIn K mainGlobals "sorted" = some none := by
    skip
    skip
    exact c.dec (P := fun K => PySem.W.nsIn K mainGlobals "sorted" = some none) 29 (by kernel_rfl)
  have z12 : PySem.W.nsIn K mainGlobals "abs" = some none := by
    skip
    skip
    exact c.dec (P := fun K => PySem.W.nsIn K mainGlobals "abs" = some none) 30 (by kernel_rfl)
  have z13 : PySem.W.nsIn K mainGlobals "max" = some none := by
    skip
    skip
    exact c.dec (P := fun K => PySem.W.nsIn K mainGlobals "max" = some none) 31 (by kernel_rfl)
  have z14 : PySem.W.nsIn K mainGlobals "min" = some none := by
    skip
    skip
    exact c.dec (P := fun K => PySem.W.nsIn K mainGlobals "min" = some none) 32 (by kernel_rfl)
  have z15 : PySem.W.nsIn K mainGlobals "repr" = some none := by
    skip
    skip
    exact c.dec (P := fun K => PySem.W.nsIn K mainGlobals "repr" = some none) 33 (by kernel_rfl)
  have z16 : PySem.W.nsIn K mainGlobals "dict" = some none := by
    skip
    skip
    exact c.dec (P := fun K => PySem.W.nsIn K mainGlobals "dict" = some none) 34 (by kernel_rfl)
  have z17 : PySem.W.nsIn K mainGlobals "any" = some none := by
    skip
    skip
    exact c.dec (P := fun K => PySem.W.nsIn K mainGlobals "any" = some none) 35 (by kernel_rfl)
  have z18 : PySem.W.nsIn K mainGlobals "str" = some none := by
    skip
    skip
    exact c.dec (P := fun K => PySem.W.nsIn K mainGlobals "str" = some none) 36 (by kernel_rfl)
  have B : Bare mg := ⟨PySem.W.mg_none_of X G z0, PySem.W.mg_none_of X G z1, PySem.W.mg_none_of X G z2, PySem.W.mg_none_of X G z3, PySem.W.mg_none_of X G z4, PySem.W.mg_none_of X G z5, PySem.W.mg_none_of X G z6, PySem.W.mg_none_of X G z7, PySem.W.mg_none_of X G z8, PySem.W.mg_none_of X G z9, PySem.W.mg_none_of X G z10, PySem.W.mg_none_of X G z11, PySem.W.mg_none_of X G z12, PySem.W.mg_none_of X G z13, PySem.W.mg_none_of X G z14, PySem.W.mg_none_of X G z15, PySem.W.mg_none_of X G z16, PySem.W.mg_none_of X G z17, PySem.W.mg_none_of X G z18⟩
  obtain ⟨fN, cdN, ccN, fdN, nl, nf, nc, nfi, nce, nb, ni, nt⟩ := RV.sup_x (st := sNTInit) (file := "/claim/cut.py") (q := "NoText.__init__") (x := "NoText") (ps := ["self", "row"]) cS hCN 0 39 (by kernel_rfl) (by kernel_rfl) fun _ _ _ _ _ _ _ us hl => match us, hl with | [_, _], _ => rfl
  have nfi' : ∃ ccl cdd vs ccs g tf, K.lookup cdN = some ⟨ccl, cdd, .fields vs, ccs⟩ ∧ vs[2]? = some (.str g tf) ∧ ((l.prog.main.file : Str) == g) = true := by
    obtain ⟨a1, a2, a3, a4, a5, e1, e2⟩ := nfi
    exact ⟨a1, a2, a3, a4, _, a5, e1, e2, hfile⟩
  have oN : RV.oexB CN K = true := by
    rw [← hCN]
    exact c.look (p := fun K => RV.oexB (He.ga K "NoText") K) 40 (by kernel_rfl)
  have y4 : xfB K CN = true := by
    rw [← hCN]
    exact c.look (p := fun K => xfB K (He.ga K "NoText")) 41 (by kernel_rfl)
  have mm := PySem.W.mg_of X G mM
  refine ⟨fd20, (spLaw K), bL, fun _ a ns hl _ hS => ⟨a, ns, rfl, hS, hl, fun _ => rfl⟩, fun base _ _ => ?_⟩
  have ms := PySem.W.mg_of X G mS
  have mf := PySem.W.mg_of X G mF
  have mn := PySem.W.mg_of X G mN
  have NR : NRule l.prog K mg CN fN cdN ccN fdN := ⟨⟨RV.oexB_ok oN, x6, x5, x7, x8⟩, ⟨nl, nf, nc, nfi', nce, x1, x2, x3, x4, htop⟩, nb, ni, nt, x9, PySem.W.mg_of X G aCN, PySem.W.mg_none_of X G zS⟩
  have RE : RErr K mg CN CR := ⟨PySem.W.mg_of X G aCR, PySem.W.mg_none_of X G zV, y1, y2, y3, xfB_ok y4⟩
  have R : RD K mg f4 f5 f6 f8 f3 f2 f1 _ _ _ _ _ _ _ := ⟨D4, D5, D6, D8, D3, D2, D1⟩
  have GG : RG mg _ _ _ _ := ⟨mn, ms, mf, mm⟩
  have GR : FnOk l.prog w K mg base (L2.CX l.prog w) 6 f7 _ ["text"] (spRR K CN) := ok_rr D7.fn NR R B GG
  have GP : FnOk l.prog w K mg base (L2.CX l.prog w) 6 f9 _ ["text"] (spRP K CN) := ok_rp D9.fn NR R B GG
  have GT : FnOk l.prog w K mg base CX0 7 f17 _ ["_law_way", "_law_text"] (spTd K) := ok_td D17.fn NR RE D7 GR D9 GP B
  exact ok_law F20 B ⟨D10, D11, D12, D13, D19, D18, D17, D15, D16, D14⟩ GT
end K53
open PySem PySem.W PyProof.Rows
set_option maxRecDepth 100000 in
set_option maxHeartbeats 0 in
theorem PySem.Challenge.cw_ringvouch_k53_texts_of_rings_and_plans_b_holds : PySem.Challenge.rw_ringvouch_k53_texts_of_rings_and_plans_b.Holds := by
  refine K53.hdHolds ?hc
  case hc =>
    refine RV.walk_GE (l := PySem.Challenge.rw_ringvouch_k53_texts_of_rings_and_plans_b) (n := 63) (k := 8) (x := "_law_script") rfl (by decide) (by kernel_rfl) ⟨rfl, by decide, by decide⟩ ?F
    intro w mg fa h Y G hmg0
    obtain ⟨K, KX, c⟩ := Y
    have hmg : mg ("law" : PySem.Str) = some (.ref fa) := by
      rw [← K53.hdName]
      exact hmg0
    obtain ⟨fd, sp, hb, hs, hF⟩ := K53.all_x (l := PySem.Challenge.rw_ringvouch_k53_texts_of_rings_and_plans_b) (w := w) KX G hmg c (by kernel_rfl) (by kernel_rfl)
    exact ⟨K, fd, sp, KX, hb, hs, hF⟩
