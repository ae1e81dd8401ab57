import PyProof.Rows.All
import Wide.All
import OpenK.AllK
import Wide.FinOn
import HandS.ForMost
import KE.GoesEnum
import HandS.Style
import KE.KRevSl
import PyProof.ReprRoads
import HandS.OwnEq
import PyProof.InstNe
import HandS.TupSets
import HandS.IsInst
import HandS.Walk
import HandS.Zip
import HandS.TupAny
import HandS.Deep
import HandS.Conv
import HandS.More
import HandS.Wide
import HandS.HeadHook1
import HandS.Head2
import HandS.Lambda
import KE.KNestM
import HandS.SortRule
import HandS.SortOrd
import KE.KDictSum
import HandS.Flow
import HandS.TupMul
import HandS.ForExc
import HandS.ExcIs
import HandS.WordsExc
import HandS.Strs
import HandS.SetBool
import KE.DataMinMax
import HandS.NamedTupSort
import PyProof.ReprBulk
import HandS.RaiseMore
import HandS.Iter
import HandS.TupLe
import PySem.Challenge.RW_ringvouch_k43_rules_put_together
set_option Elab.async false
set_option linter.all false
set_option maxRecDepth 100000
namespace RV
open PySem PySem.Spec PyProof.Rows L2
set_option maxHeartbeats 4000000 in
theorem meets_en1 {val : Value} {ob : Obj} {HH : Heap → Prop} (B : Begins val ob HH) :
    Meets (Builtin.«enumerate.__new__» ⟨[.type "enumerate", val], []⟩) (fun _ R st => HH st.heap ∧
      R (.ok (.ret (.ref (st.heap.push ob).objs.size)))
        { st with heap := (st.heap.push ob).push { cls := .type "enumerate", data := .fields #[.none, .bool false, .ref st.heap.objs.size, rawInt 0, .none, .none] } }) :=
  .of_wp fun prog w A R st hyp => by
    obtain ⟨hp, gs, dr, tk, os⟩ := st
    obtain ⟨hyp1, hyp2⟩ := hyp
    have hsub := sub_enumerate
    have it1 : ∀ {A' : Around} {E : Value → Shared → Prop} {Q : Value → Shared → Prop}, Q (.ref hp.objs.size) ⟨hp.push ob, gs, dr, tk, os⟩ →
        wpAny (model prog w) A' (pyIter val) Q E ⟨hp, gs, dr, tk, os⟩ := fun q => B.iter prog w _ _ ⟨hp, gs, dr, tk, os⟩ _ hyp1 q
    wp_walk using it1
    refine wpAny_stack_any fun sk => wpAny_pure ?_
    split
    · rename_i cc _ _ _ _ _
      cases (cc == Value.type "enumerate") <;> (wp_walk using it1; exact ⟨_, rfl, hyp2⟩)
    · wp_walk using it1
      exact ⟨_, rfl, hyp2⟩
section
variable {prog : Program} {w : World} {A : Around} {E : Value → Shared → Prop} {s : Shared}
theorem call_en1 {val : Value} {ob : Obj} {HH : Heap → Prop} {Q : Value → Shared → Prop} (B : Begins val ob HH) (hh : HH s.heap)
    (k : ∀ h', IsEnum h' (s.heap.objs.size + 1) s.heap.objs.size 0 .none → h'.get? s.heap.objs.size = some ob → h'.objs.size = s.heap.objs.size + 2 →
      (∀ b o, s.heap.get? b = some o → h'.get? b = some o) → Q (.ref (s.heap.objs.size + 1)) { s with heap := h' }) :
    wpAny (model prog w) A (call (.type "enumerate") [val]) Q E s := by
  refine callType_new F.called_enumerate (by decide) (F.typeCall_enumerate_1 _) (F.newCall_enumerate_1 _) (fun oo => F.args_object_init_2 oo _) F.entry_enumerate_new (meets_en1 B) ⟨hh, ?_⟩
  have z1 : (s.heap.push ob).objs.size = s.heap.objs.size + 1 := Heap.size_push ..
  show _ ∧ _
  rw [z1]
  have z2 : IsEnum ((s.heap.push ob).push { cls := .type "enumerate", data := .fields #[.none, .bool false, .ref s.heap.objs.size, rawInt 0, .none, .none] }) (s.heap.objs.size + 1) s.heap.objs.size 0 .none := by
    have z3 := Heap.get?_push_size (s.heap.push ob) (o := { cls := .type "enumerate", data := .fields #[.none, .bool false, .ref s.heap.objs.size, rawInt 0, .none, .none] }) rfl
    rw [z1] at z3; exact z3
  refine ⟨⟨_, z2, rfl⟩, k _ z2 (Heap.get?_push_of_some _ (Heap.get?_push_size _ B.free)) (by rw [Heap.size_push, z1]) fun b o x => ?_⟩
  exact Heap.get?_push_of_some _ (Heap.get?_push_of_some _ x)
end
/-- enumerate of a tuple: the items in new pairs -/
def IteT (K : PySem.W.Frag) (a : Addr) : It where
  go i H := ∃ (xs : List V) (x : V), SqT K H a xs ∧ xs[i]? = some x
  yld i H v H' := ∃ T x, v = .ref T ∧ H T = none ∧ H' = upd H T (.tup [.int (i : Nat), x]) ∧ ∀ xs, SqT K H a xs → xs[i]? = some x
  stop i H := ∃ xs : List V, SqT K H a xs ∧ xs.length ≤ i
theorem turn_enT {P : Program} {w : World} {K : PySem.W.Frag} {elts : List Expr} {kk : Nat} {tpos : Pos} (a e it : Addr) :
    Turn P w K (.Tuple elts kk tpos) (IteT K a) [e, it] e (fun i h => (∃ old, IsEnum h e it ((i : Nat) : Int) old) ∧ h.IsTupleIter it a i ∧ e ≠ it ∧ a ≠ it ∧ a ≠ e) where
  mem := by simp
  obj := fun i h st b hb => by
    obtain ⟨⟨old, he⟩, ⟨o, ho, hc, hd⟩, _, _⟩ := st
    have eb : b = e ∨ b = it := by simpa using hb
    rcases eb with rfl | rfl
    · exact ⟨_, he, fun v q => nomatch q⟩
    · exact ⟨o, ho, fun v q => by rw [hd] at q; cases q⟩
  keep := fun i h h' st k => let ⟨⟨old, he⟩, hi, hne⟩ := st; ⟨⟨old, k e (by simp) _ he⟩, hi.at fun o q => k it (by simp) o q, hne⟩
  item := by
    intro X hP hw hK hc i pins s σ H E I hf st hg
    subst hP hw hK
    obtain ⟨⟨old, he⟩, hit, hne, hai, hae⟩ := st
    obtain ⟨xs, x, hq, hx⟩ := hg
    obtain ⟨its, rv, p, hz⟩ := I.tuple hq
    obtain ⟨u, hu, ru⟩ := rv.get hx
    have hel : e < s.heap.objs.size := Heap.lt_size he
    have hil : it < s.heap.objs.size := by obtain ⟨_, q, _⟩ := hit; exact Heap.lt_size q
    have hi : i < its.toArray.size := by
      have := (List.getElem?_eq_some_iff.mp hu).1
      simpa using this
    refine wpAny_pyNext_enum_itemD (A := X.A) (Draws.tuple (A := X.A.in1) (show X.A.in1.handled = none from I.ok.hd hc) it a hai its.toArray) he ⟨hit, p⟩ hi hne (by simp [hne, Ne.symm hae]) fun y h' tk hy ho hst hT hsz hk => ?_
    have hyu : y = u := by
      have e1 : its[i]? = some y := by simpa using hy
      rw [hu] at e1
      exact (Option.some.inj e1).symm
    subst hyu
    refine ⟨_, rfl, wpAny_letOwnedTupleGo_enum (s := { s with heap := h', toks := tk + 1 }) ho fun h'' he' sb => ?_⟩
    have hT2 : h''.get? s.heap.objs.size = some { cls := .type "tuple", data := .seq #[.int i tk, y] } := (sb.2 _ (Nat.ne_of_gt hel)).trans hT
    have new : ObjOk X.prog X.w (upd H s.heap.objs.size (.tup [.int (i : Nat), x])) h'' s.heap.objs.size (.tup [.int (i : Nat), x]) :=
      ⟨by show 2 ≤ sizeLine; decide, [.int i tk, y], .cons ⟨_, rfl⟩ (.cons ru .nil), ⟨_, hT2, rfl, _, rfl⟩⟩
    have I1 : Inv X pins σ (upd H s.heap.objs.size (.tup [.int (i : Nat), x])) { s with heap := h'', toks := tk + 1 } := by
      refine I.turnedNew (ch := [e, it]) (fun b ob hb q => ?_) hf (Nat.le_refl _) new
      exact (sb.2 b (fun z => hb (by simp [z]))).trans (hk b ob (fun z => hb (by simp [z])) (fun z => hb (by simp [z])) q)
    refine ⟨.ref s.heap.objs.size, _, I1, rfl, ⟨_, x, rfl, I.hok.fresh (Nat.le_refl _), rfl, fun ys hy => ?_⟩, ⟨⟨y, ?_⟩, hst.1.at fun o q => (sb.2 it (Ne.symm hne)).trans q, hne, hai, hae⟩, fun b hb => ?_⟩
    · rw [I.tuple_inj hy hq]; exact hx
    · rw [show ((i + 1 : Nat) : Int) = (i : Int) + 1 by omega]; exact he'
    · have eb : b = e ∨ b = it := by simpa using hb
      have hb' : b < s.heap.objs.size := by
        rcases eb with z | z <;> rw [z] <;> assumption
      rw [upd_ne (Nat.ne_of_lt hb')]
      exact (hf b hb).1
  done := by
    intro X hP hw hK hc i pins s σ H E I hf st hg
    subst hP hw hK
    obtain ⟨⟨old, he⟩, hit, hne, hai, hae⟩ := st
    obtain ⟨xs, hq, hx⟩ := hg
    obtain ⟨its, rv, p, hz⟩ := I.tuple hq
    obtain ⟨f0, f1, f2, f3, f4, f5⟩ := hf it (by simp)
    have hl := rv.length
    have hT : s.TypeIs (.ref e) "enumerate" := ⟨_, he, rfl⟩
    unfold pyNext
    refine wpAny_bind (wpAny_attempt (wpAny_callSpecial?_slot (name := Str.ofString "__next__") hT F.slot_enumerate_next (wpAny_call_entry F.slot_enumerate_next hT F.entry_enumerate_next ?_ (F.args_enumerate_next_1 _))))
    show wpAny _ _ (field (.ref e) 2 >>= _) _ _ _
    refine wpAny_bind (wpAny_field he rfl (x := .ref it) rfl ?_)
    refine wpAny_bind (wpAny_nextOf_tuple_end (I.ok.hd hc) hit p (by simp; omega) fun h' x he' hx' => ?_)
    obtain ⟨o, ho, hco⟩ := hx'
    refine wpAny_bind (wpAny_isInstance (T := "StopIteration") (b := true) ⟨o, ho, hco⟩ isSubtype_stop ?_)
    exact wpAny_pure ⟨rfl, I.turned (t' := s.toks) (fun b o hb q => he' b o hb q) f0 f1 f3 f4 f5⟩
  self := fun A i s Q E st h => let ⟨⟨_, he⟩, _⟩ := st; wpAny_pyIter_enum he h
def iEnT (K : PySem.W.Frag) (ta : TA) : TI := fun σ H R => ta σ H fun vs H1 => ∃ a xs, vs = [.ref a] ∧ SqT K H1 a xs ∧ R (IteT K a) H1
theorem pi_enT {X : Cx} {e : Expr} {ta : TA} {p pos tpos : Pos} {elts : List Expr} {kk : Nat} (hg : Gl X "enumerate") (hm : X.mg "enumerate" = none) (ha : PA X [e] ta)
    (hs : starEach [e] X.env = [(false, eval e X.env)] := by rfl) : PI X (.Tuple elts kk tpos) (.Call (.Name "enumerate" p) [e] [] pos) (iEnT X.K ta) := by
  refine ⟨fun pins s σ H R I h => Call_ (ld_blt I hg hm boot_enumerate (PyProof.Rows.callWith_type1 (thn (ha.run pos pins s σ H _ I h) fun us s1 ⟨vs, H1, I1, r1, q1⟩ => ?_) hs rfl))⟩
  obtain ⟨a, xs, ex, hq, q⟩ := q1
  subst ex
  cases r1 with
  | cons r rr =>
    cases rr
    cases r
    obtain ⟨its, rv, p', hz⟩ := I1.tuple hq
    have ha0 : a < s1.heap.objs.size := by
      obtain ⟨o, ho, _⟩ := p'
      exact Heap.lt_size ho
    refine call_en1 (begins_tuple a its.toArray) p' fun h' he hit hsz hk => wpAny_pyIter_enum he ?_
    have I2 : Inv X pins σ H1 { s1 with heap := h' } := I1.kept (t' := s1.toks) hk
    refine ⟨s1.heap.objs.size + 1, [s1.heap.objs.size + 1, s1.heap.objs.size], _, _, H1, rfl, I2, turn_enT a (s1.heap.objs.size + 1) s1.heap.objs.size,
      ⟨⟨.none, he⟩, ⟨_, hit, rfl, rfl⟩, Nat.succ_ne_self _, Nat.ne_of_lt ha0, Nat.ne_of_lt (Nat.lt_succ_of_lt ha0)⟩, fun b hb => ?_, q⟩
    have eb : b = s1.heap.objs.size + 1 ∨ b = s1.heap.objs.size := by simpa using hb
    have hle : s1.heap.objs.size ≤ b := by
      rcases eb with z | z
      · rw [z]; exact Nat.le_add_right _ _
      · rw [z]; exact Nat.le_refl _
    exact I1.fpOk hle (I1.hok.fresh hle)
end RV
set_option maxHeartbeats 4000000
namespace RV
open PySem PySem.Spec PyProof.Rows L2 HT
theorem back_places (n : Nat) : Builtin.Slice.slicePlaces ((n : Int) - 1) (-1) (-1) = n := by
  unfold Builtin.Slice.slicePlaces
  rw [if_neg (show ¬ ((-1 : Int) > 0) by decide)]
  by_cases hn : (n : Int) - 1 > -1
  · rw [if_pos hn, show (- -1 : Int) = 1 from rfl, Int.ediv_one]; omega
  · rw [if_neg hn]; omega
theorem back_pick (xs : Array Value) : ((List.range xs.size).filterMap fun (m : Nat) => xs[((xs.size : Int) - 1 + (m : Int) * (-1)).toNat]?).toArray = xs.toList.reverse.toArray := by
  have e0 : ∀ (l : List Nat), (∀ m ∈ l, m < xs.size) → l.filterMap (fun (m : Nat) => xs[((xs.size : Int) - 1 + (m : Int) * (-1)).toNat]?) = (l.map fun k => xs.size - 1 - k).filterMap (xs[·]?) := by
    intro l
    induction l with
    | nil => intro _; rfl
    | cons m r ih =>
      intro hm
      have h1 := hm m (List.mem_cons_self ..)
      have h2 := ih fun z hz => hm z (List.mem_cons_of_mem _ hz)
      rw [List.map_cons, List.filterMap_cons, List.filterMap_cons, h2, show ((xs.size : Int) - 1 + (m : Int) * (-1)).toNat = xs.size - 1 - m by omega]
  have e1 := e0 (List.range xs.size) fun m hm => List.mem_range.mp hm
  rw [e1, PySem.W.krv_range, List.filterMap_reverse, PySem.W.krv_all]
section
variable {prog : Program} {w : World} {A : Around} {E : Value → Shared → Prop} {s : Shared}
theorem applied_back {sl : Addr} {vl vu vs : Value} {n : Nat} {Q : Int × Int × Nat → Shared → Prop} (hs : s.heap.IsSliceOf sl vl vu vs) (pl : IsPart vl none) (pu : IsPart vu none) (ps : IsPart vs (some (-1)))
    (k : Q ((n : Int) - 1, -1, n) s) : wpAny (model prog w) A (Builtin.Slice.sliceApplied (.ref sl) (pure (n : Int))) Q E s := by
  obtain ⟨os, o1, o2, o3⟩ := id hs
  unfold Builtin.Slice.sliceApplied Builtin.Slice.sliceFields
  refine wpAny_bind (wpAny_bind (wpAny_field o1 o3 (x := vl) rfl (wpAny_bind (wpAny_field o1 o3 (x := vu) rfl (wpAny_bind (wpAny_field o1 o3 (x := vs) rfl (wpAny_pure ?_)))))))
  refine wpAny_bind (slicePart_ ps ?_)
  show wpAny _ _ (if ((-1 : Int) == 0) = true then _ else _) _ _ s
  rw [if_neg (by decide)]
  refine wpAny_bind (slicePart_ pl (wpAny_bind (slicePart_ pu (wpAny_bind (wpAny_pure ?_)))))
  show wpAny _ _ (pure ((n : Int) - 1, (-1 : Int), Builtin.Slice.slicePlaces ((n : Int) - 1) (-1) (-1))) _ _ s
  rw [back_places]
  exact wpAny_pure k
theorem item_back {t sl : Addr} {items : Array Value} {vl vu vs : Value} {Q : Value → Shared → Prop} (ht : IsTup s.heap t items) (hs : s.heap.IsSliceOf sl vl vu vs) (pl : IsPart vl none) (pu : IsPart vu none) (ps : IsPart vs (some (-1)))
    (k : Q (.ref s.heap.objs.size) { s with heap := s.heap.push { cls := .type "tuple", data := .seq items.toList.reverse.toArray } })
    (hsz : items.size ≤ sizeLine) : wpAny (model prog w) A (getItem (.ref t) (.ref sl)) Q E s := by
  have hok : sizeOk (.seq items.toList.reverse.toArray) := by
    show items.toList.reverse.toArray.size ≤ sizeLine
    simpa using hsz
  obtain ⟨os, o1, o2, o3⟩ := id hs
  have hTs : s.TypeIs (.ref sl) "slice" := ⟨os, o1, o2⟩
  unfold getItem
  try with_reducible refine wpAny_holding ?_
  first | refine wpAny_bind (wpAny_pure ?_) | skip
  refine wpAny_bind (wpAny_sequenceKey ht.typeIs (by decide) ?_)
  refine wpAny_bind (wpAny_callSpecial?_slot (name := Str.ofString "__getitem__") ht.typeIs PyProof.Rows.slot_tuple_getitem (wpAny_call_entry PyProof.Rows.slot_tuple_getitem ht.typeIs entry_tuple_getitem ?_ (args_tuple_getitem _ _)))
  show wpAny _ _ (Builtin.Tuple.tupleItemsOf (.ref t) >>= _) _ _ s
  refine wpAny_bind (tupleItemsOf_ ht (wpAny_bind (wpAny_typeOf hTs ?_)))
  rw [if_pos (by decide)]
  refine wpAny_bind (applied_back hs pl pu ps ?_)
  show wpAny _ _ (if (((items.size : Int) - 1) == 0 && (-1 : Int) == 1 && items.size == items.size) = true then _ else _) _ _ s
  rw [if_neg (by simp), back_pick]
  first
    | exact wpAny_bind (m := Builtin.Tuple.tupleExact _) (wpAny_newObj_type (wpAny_pure ⟨_, rfl, wpAny_pure k⟩) hok)
    | exact wpAny_bind (wpAny_bind (m := Builtin.Tuple.tupleExact _) (wpAny_newObj_type (wpAny_pure (wpAny_pure ⟨_, rfl, wpAny_pure k⟩)) hok))
    | exact wpAny_bind (wpAny_bind (m := Builtin.Tuple.tupleExact _) (wpAny_newObj_type (wpAny_pure ⟨_, rfl, wpAny_pure k⟩) hok))
    | exact wpAny_bind (m := Builtin.Tuple.tupleExact _) (wpAny_newObj_type (wpAny_bind (wpAny_pure (wpAny_pure ⟨_, rfl, wpAny_pure k⟩))) hok)
end
section
variable {X : Cx}
/-- t[::-1] of a tuple -/
def tBackT (K : PySem.W.Frag) (te : TE) : TE := fun σ H Q => te σ H fun x H1 => ∃ a xs, x = .ref a ∧ SqT K H1 a xs ∧ ∀ p, H1 p = none → Q (.ref p) (upd H1 p (.tup xs.reverse))
theorem pe_backT {e : Expr} {te : TE} {k : Nat} {p1 p2 p3 pos : Pos} (he : PE X e te) : PE X (.Subscript e (.Slice none none (some (.UnaryOp .USub (.Constant (.int 1) k p1) p2)) p3) pos) (tBackT X.K te) := by
  refine ⟨fun pins s σ H Q I h => Subscript_ (thn (he.run pins s σ H _ I h) fun v s1 ⟨x, H1, I1, r1, q1⟩ => ?_)⟩
  obtain ⟨a, xs, ex, hx, q⟩ := q1
  subst ex
  cases r1
  have hst : PO X (some (.UnaryOp .USub (.Constant (.int 1) k p1) p2)) (tPart (tUn (rU fun i => .int (-i)) (tC (.int 1)))) := po_some (pe_un un_neg pe_int)
  refine wpAny_Slice (thn (po_none.run pins s1 σ H1 (fun o H2 => o = none ∧ H2 = H1) I1 ⟨rfl, rfl⟩) fun vl s2 ⟨l, H2, I2, pl, el, e2⟩ => ?_)
  subst el e2
  refine thn (po_none.run pins s2 σ H2 (fun o H3 => o = none ∧ H3 = H2) I2 ⟨rfl, rfl⟩) fun vu s3 ⟨u, H3, I3, pu, eu, e3⟩ => ?_
  subst eu e3
  refine thn (hst.run pins s3 σ H3 (fun o H4 => o = some (-1) ∧ H4 = H3) I3 ⟨1, rfl, -1, rfl, rfl, rfl⟩) fun vs s4 ⟨o, H4, I4, ps, eo, e4⟩ => ?_
  subst eo e4
  have I5 : Inv X pins σ H4 { s4 with heap := s4.heap.push { cls := .type "slice", data := .fields #[vl, vu, vs] } } := I4.kept (t' := s4.toks) fun b ob q => Heap.get?_push_of_some _ q
  obtain ⟨its, r, ht, hz⟩ := I5.tuple hx
  have hlen := r.length
  show wpAny (model X.prog X.w) X.A (subscriptTail e _ (.ref a) (.ref s4.heap.objs.size)) (EP X pins σ Q) X.xe { s4 with heap := s4.heap.push { cls := .type "slice", data := .fields #[vl, vu, vs] } }
  refine tail_any (ops := [.ref a, .ref s4.heap.objs.size]) ht.typeIs (PyProof.Rows.slot_tuple_getitem.lookup) ?_ (by with_unfolding_all rfl)
  refine item_back ht (Heap.IsSliceOf.new _ vl vu vs) pl pu ps ?_ (by rw [List.size_toArray]; omega)
  refine ⟨.ref _, _, I5.laid (t' := s4.toks) (o := .tup xs.reverse) (fun b ob q => Heap.get?_push_of_some _ q) (Nat.le_refl _) ?_, rfl, q _ (I5.hok.fresh (Nat.le_refl _))⟩
  exact ⟨by rw [List.length_reverse]; exact hz, its.reverse, r.reverse, IsTup.new _ _⟩
end
end RV
set_option maxHeartbeats 4000000
namespace RV
open PySem PySem.Spec PyProof.Rows L2
/-- as the layer's promise of a def, where no repr runs around -/
structure FnG (P : Program) (w : World) (K : PySem.W.Frag) (mg : Str → Option Value) (base : Heap) (CX : CXT) (k : Nat) (f : Addr) (fd : FuncData) (ps : List Str) (sp : Sp) : Prop where
  many : ∀ vs H Q E, sp vs H Q E → vs.length = ps.length
  goes : ∀ (A : Around) (outer : List Env) (s : Shared) (H : Hp) (args : Args) (us : List Value) (vs : List V) (Q : VK) (E : XK), A.guards = some [] → Room k A → Env0 P w K mg base A outer s H →
    BindsTo s fd args (ps.zip us) → Vals vs us → sp vs H Q E → codeAny (model P w) A (.call (.ref f) args) (CR CX outer P w H s Q E) s
section
variable {P : Program} {w : World} {K : PySem.W.Frag} {mg : Str → Option Value} {base : Heap} {CX : CXT} {k : Nat} {f : Addr} {fd : FuncData} {N ps : List Str} {sp : Sp} {x qual : Str} {st : Stmt}
theorem okG (F : Fun K x qual st f fd) (S : FnScope N ps (defScope st)) (len : ∀ vs H Q E, sp vs H Q E → vs.length = ps.length)
    (body : ∀ (cdv : Value) (A : Around) (outer : List Env) (s : Shared) (H : Hp) (vs : List V) (Q : VK) (E : XK), A.guards = some [] → Room k (A.deeper (envOfC qual (defScope st) s.heap.objs.size f cdv)) → sp vs H Q E →
      ∃ t, PSs (cxOf CX0 P w K mg base N qual (defScope st) f cdv A outer s H E).nox (defBody st) t ∧ t { nx := fun _ H' => Q .non H', rt := Q } (start N vs) H) : FnG P w K mg base CX0 (k + 1) f fd ps sp := by
  obtain ⟨oc, od, kV, doc, pm, an, cdv, ct, osl, rfl, lk, hcd⟩ := F.ex
  refine ⟨len, fun A outer s H args us vs Q E gd hr e0 hb r hsp => ?_⟩
  have KX : K.In s.heap := e0.mod.kin.keeps fun b o z => (e0.bs b o z).1
  have lim : s.heap.NoLimit := e0.mod.nolimit.keeps fun b o z => (e0.bs b o z).1
  have kinds : ∀ y ∈ ps.zip us, (defScope st).names.lookup y.1 = some .local ∨ ((defScope st).names.lookup y.1 = some .cell ∧ ((cellsFrom (s.heap.objs.size + 1) (defScope st).names []).lookup y.1).isSome = true) := by
    rintro ⟨n, v⟩ hy
    exact (S.par n (List.of_mem_zip hy).1).imp id fun q => ⟨q, PySem.W.cellsFrom_some _ _ _ (.inl q)⟩
  refine codeAny_call_function hr.depth (KX _ _ lk) rfl S.co S.gen rfl (PySem.W.codeRec_of KX hcd) (hb _ _ _ _ (wpAny_newFunctionEnv_cells S.kind kinds fun env he s1 z => ?_))
  subst he
  refine ⟨lim.keeps z.toInCall.keep, codeAny_func ?_⟩
  obtain ⟨t, ht, hq⟩ := body cdv A outer s H vs Q E gd (hr.deeper _) hsp
  have I : Inv (cxOf CX0 P w K mg base N qual (defScope st) f cdv A outer s H E) [] (start N vs) H s1 := inv_start S hr.hd e0 (len _ _ _ _ hsp) r z
  refine wpAny_mono (ht.nox.run [] s1 (start N vs) H _ I hq) (fun fl s' hs => ?_) fun e s' hs => hs
  cases fl with
  | ret u =>
    obtain ⟨v, σ', H', J, rv, q⟩ := hs
    exact ⟨v, H', J.os, J.bare, J.base, J.hok, rv, q⟩
  | next =>
    obtain ⟨σ', H', J, q⟩ := hs
    exact ⟨V.non, H', J.os, J.bare, J.base, J.hok, rfl, q⟩
  | brk => exact hs.elim fun _ z => z.elim fun _ y => False.elim y.2
  | cont => exact hs.elim fun _ z => z.elim fun _ y => False.elim y.2
end
section
variable {X : Cx} {CX : CXT} {k : Nat} {f : Addr} {fd : FuncData} {ps : List Str} {sp : Sp} {dvs : List V} {ds : List Value} {E : XK} {x : Str} {p pos : Pos} {e : Expr} {es : List Expr} {t : TA}
/-- f(e, ..) of such a def -/
theorem pe_callG (F : FnG X.prog X.w X.K X.mg X.base CX k f fd ps sp) (gd : X.A.guards = some []) (hr : Room k X.A) (hg : Gl X x) (hm : X.mg x = some (.ref f)) (hk : PySem.W.keepIn X.K (.ref f) = true) (hb : Binds X.K fd ps ds) (hd : Vals dvs ds) (hx : Passes CX X E)
    (ha : PA X (e :: es) t) (hdb : (x == ("__debug__" : Str)) = false := by decide) (he : starEach (e :: es) X.env = (false, eval e X.env) :: starEach es X.env := by rfl) (hpl : (backTo pos (starEach es X.env)).any (·.1) = false := by rfl) :
    PE X (.Call (.Name x p) (e :: es) [] pos) (tCall sp dvs E t) := by
  refine ⟨fun pins s σ H Q I h => wpAny_Call_Name_kw (ld_glob I hg hm ?_ hdb)⟩
  refine PySem.W.callWith_K (h₀ := X.base) I.ok.mod.kin hk (thn (ha.run pos pins s σ H _ I h) fun us s1 ⟨vs, H1, I1, r, q⟩ => ⟨I1.kIn, ?_⟩) he hpl
  have r2 : Vals (vs ++ dvs) (us ++ ds) := r.append hd
  have hl : (us ++ ds).length = ps.length := r2.length ▸ F.many _ _ _ _ q
  refine wpAny_call (codeAny_mono (F.goes X.A X.stack s1 H1 ⟨us, []⟩ (us ++ ds) (vs ++ dvs) Q E gd hr I1.env0 (hb s1 us I1.kIn hl) r2 q) fun rr s' hq => ?_)
  cases rr with
  | error ee => exact hx pins σ H1 s1 ee s' I1 hq
  | ok fl => cases fl <;> first | exact I1.after hq | exact False.elim hq
/-- repr(x), x an object read as data -/
theorem call_reprD (gd : X.A.guards = some []) (hu : X.A.units + 65 < cLine) : CallR X (.builtin "repr") (fun xs H Q => ∃ (a : Addr) (d : PyData), xs = [.ref a] ∧ Dp X.K H (.ref a) d ∧ d.showable = true ∧ d.hasDict = false ∧ d.depth ≤ 64 ∧ d.shown.length ≤ sizeLine ∧ Q (.str d.shown) H) := by
  intro pins s σ H xs us Q I r h
  obtain ⟨a, d, rfl, hd, h1, h2, h3, h4, q⟩ := h
  obtain ⟨u, rfl, ru⟩ := vals1 r
  cases ru
  obtain ⟨as, rd⟩ := Dp.reads I d (.ref a) (.ref a) hd rfl
  refine repr_of_reads' rd h1 (fun z => by rw [h2] at z; cases z) gd (by omega) (fun _ _ z => z) (fun h' uu tk k => ?_) h4
  exact ⟨.str d.shown, H, I.kept k, ⟨uu, rfl⟩, q⟩
end
section
/-- the law's call, from such a promise -/
theorem law_callG {P : Program} {w : World} {K : PySem.W.Frag} {mg mb : Str → Option Value} {k : Nat} {fa a : Addr} {fd : FuncData} {x : Str} {sp : Sp} {st : Shared} {vs : List Value} {ns : List Int}
    (KX : K.In st.heap) (n1 : st.heap.Ns mainGlobals mg) (n2 : st.heap.Ns builtinsNs mb) (n3 : ∀ x : Str, x ≠ "__name__" → mb x = bootBuiltins x) (n4 : st.heap.NoLimit) (n5 : st.gens = #[])
    (ha : st.heap.get? a = some { cls := .type "list", data := .seq vs.toArray }) (hi : IntsAre vs ns) (hl : ns.length ≤ sizeLine) (hr : Room k callerA)
    (F : ∀ base : Heap, K.In base → base.Ns mainGlobals mg → FnG P w K mg base CX0 k fa fd [x] sp) (bnd : ∀ (s : Shared) (u : Value), BindsTo s fd ⟨[u], []⟩ [(x, u)])
    (hsp : ∀ H : Hp, Only H → SqL K H a (ns.map V.int) → sp [.ref a] H (fun v _ => v = .bl true) fun _ _ _ => False) :
    codeAny (model P w) callerA (.call (.ref fa) ⟨[.ref a], []⟩) (fun r s' => r = .ok (.ret (.bool true)) ∧ OldK st.heap s'.heap ∧ s'.os = st.os ∧ AllBare s'.gens) st := by
  have rv := vals_ints hi
  have lv := hi.length
  have key : ∀ H : Hp, Only H → SqL K H a (ns.map V.int) → HOk P w H st.heap → (∀ b, H b ≠ none → b = a) → (H a ≠ none → K.lookup a = none) →
      codeAny (model P w) callerA (.call (.ref fa) ⟨[.ref a], []⟩) (fun r s' => r = .ok (.ret (.bool true)) ∧ OldK st.heap s'.heap ∧ s'.os = st.os ∧ AllBare s'.gens) st := by
    intro H hO hS hok hA hK
    have noA : ∀ {b : Addr} {o : Obj} {es : Array DictEntry} {ep : Nat}, st.heap.get? b = some o → o.data = .dict es ep → H b = none := by
      intro b o es ep e d
      cases q : H b with
      | none => rfl
      | some u =>
        obtain rfl : b = a := hA b (by rw [q]; simp)
        rw [ha] at e
        cases e
        cases (show Data.seq vs.toArray _ = Data.dict es ep from d)
    have nsK : ∀ {b : Addr} {m : Str → Option Value}, st.heap.Ns b m → (hidT st.heap H).Ns b m := fun {b m} ⟨o, es, ep, e, d, r⟩ => ⟨o, es, ep, hidT_get e (noA e d), d, r⟩
    have kb : K.In (hidT st.heap H) := fun b o e => hidT_get (KX b o e) (by
      cases q : H b with
      | none => rfl
      | some u =>
        obtain rfl : b = a := hA b (by rw [q]; simp)
        rw [hK (by rw [q]; simp)] at e
        cases e)
    obtain ⟨mc, l1, l2⟩ := n4
    have e0 : Env0 P w K mg (hidT st.heap H) callerA [] st H :=
      ⟨rfl, ⟨kb, nsK n1, ⟨mb, nsK n2, n3⟩, ⟨mc, nsK l1, l2⟩⟩, fun b o e => of_hidT e, Nat.le_of_eq (hidT_size _ _), trivial, fun b hb => absurd (show b ∈ ([] : List Addr) from hb) (by simp), hok, .of_eq n5⟩
    refine codeAny_mono ((F _ kb (nsK n1)).goes callerA [] st H ⟨[.ref a], []⟩ [.ref a] [.ref a] _ _ rfl hr e0 (bnd st (.ref a)) (.cons rfl .nil) (hsp H hO hS)) fun r s' h => ?_
    cases r with
    | error e => exact False.elim h
    | ok fl =>
      cases fl with
      | next => exact False.elim h
      | brk => exact False.elim h
      | cont => exact False.elim h
      | ret u =>
        obtain ⟨v, H', os, bare, un, hok', r', q⟩ := h
        obtain rfl : v = .bl true := q
        obtain rfl : u = Value.bool true := r'
        refine ⟨rfl, OldK.of_keep fun b o e => ?_, os, bare⟩
        rcases hO b with z | ⟨ob, xs, z⟩
        · exact un.keep b o e z (fun y => absurd (show b ∈ ([] : List Addr) from y) (by simp)) (by simp)
        · have z2 := un.frzs b ob _ z
          obtain ⟨e1, _⟩ := hok b _ z
          obtain ⟨e2, _⟩ := hok' b _ z2
          rw [e] at e1
          cases e1
          exact e2
  cases hk : K.lookup a with
  | some o =>
    have e := KX a o hk
    rw [ha] at e
    cases e
    exact key (fun _ => none) (fun _ => .inl rfl) (.inr ⟨_, vs.toArray, _, hk, rfl, rfl, rfl, by rw [List.size_toArray, lv]; exact hl, by simpa using rv⟩)
      (fun b u z => by cases (show (none : Option HO) = some u from z)) (fun b z => absurd rfl z) fun z => absurd rfl z
  | none =>
    refine key (fun b => if b = a then some (.frz { cls := .type "list", data := .seq vs.toArray } (.lst (ns.map V.int))) else none) (fun b => ?_) (.inl (.inr ⟨{ cls := .type "list", data := .seq vs.toArray }, if_pos rfl⟩)) (fun b u z => ?_) (fun b z => ?_) fun _ => hk
    · by_cases hb : b = a
      · exact .inr ⟨_, _, if_pos hb⟩
      · exact .inl (if_neg hb)
    · by_cases hb : b = a
      · cases (if_pos hb).symm.trans z
        subst hb
        exact ⟨ha, by rw [List.length_map]; exact hl, vs, _, rv, ha⟩
      · cases (if_neg hb).symm.trans z
    · exact Classical.byContradiction fun hb => z (if_neg hb)
theorem walk_G {l : PySem.W.OpenLaw} {n k : Nat} {q : Program} {loose : List Str} {XP : (Str → Option Value) → Heap → Prop} {YP : World → Heap → Prop} {d : DefRec} {K : Params → PySem.W.Frag} {sp : World → Sp} {x : Str}
    (hn : l.most = some n) (hn2 : n ≤ sizeLine) (hdf : d.params.defaults = []) (hr : Room k callerA) (hY : ∀ (w : World) (h : Heap), YP w h → (K w.params).In h)
    (F : ∀ (w : World) (mg : Str → Option Value) (fa : Addr) (h : Heap), (K w.params).In h → h.Ns mainGlobals mg → mg d.name = some (.ref fa) →
      ∃ fd : FuncData, (∀ (s : Shared) (u : Value), BindsTo s fd ⟨[u], []⟩ [(x, u)]) ∧ ∀ base : Heap, (K w.params).In base → base.Ns mainGlobals mg → FnG l.prog w (K w.params) mg base CX0 k fa fd [x] (sp w))
    (hsp : ∀ (w : World) (H : Hp) (a : Addr) (ns : List Int), ns.length ≤ n → Only H → SqL (K w.params) H a (ns.map V.int) → sp w [.ref a] H (fun v _ => v = .bl true) fun _ _ _ => False) :
    PySem.W.WalkO q loose XP YP l.row.toRowW d [] (fun f vs => PySem.call f vs) := by
  refine Att.attach_call hn hdf fun w s₀ st mg mb fa o pm cd doc a vs ns G Y ho hd hcd hmg hobj hints hlen hg => ?_
  obtain ⟨fd, hb, hF⟩ := F w mg fa _ (hY w _ Y) G.T.g hmg
  exact law_callG (hY w _ Y) G.T.g G.T.b G.T.builtins G.T.nolimit hg hobj hints (Nat.le_trans hlen hn2) hr hF hb fun H hO hS => hsp w H a ns hlen hO hS
end
end RV
set_option maxHeartbeats 4000000
namespace RV
open PySem PySem.Spec PyProof.Rows L2 PySem.W
section
variable {prog : Program} {w : World} {A : Around} {E : Value → Shared → Prop} {s : Shared} {K : Frag} {x C L f : Addr} {h₀ : Heap} {m : Str → Option Value} {ox : Obj} {od : Option Obj} {b tb : Value}
theorem ne_bound {Q : Option Value → Shared → Prop} (X : K.In s.heap) (I : InstAt s.heap x ox C od) (hs : findIn K (.ref C) "__ne__" = some (some (.builtin "object.__ne__")))
    (h : wpAny (model prog w) A (call (.builtin "object.__ne__") [.ref x, b]) (fun v => Q (some v)) E s) : wpAny (model prog w) A (callSpecialIfBound? (.ref x) "__ne__" [b]) Q E s := by
  simp only [callSpecialIfBound?, bindSpecialIfBound?]
  refine wpAny_holding (wpAny_bind (wpAny_bind (wpAny_bind (I.type.here ((looks_findIn X hs).here ?_)))))
  refine wpAny_bind (wpAny_askSetting (wpAny_ite ?_))
  have fin : wpAny (model prog w) A (call (.builtin "object.__ne__") ([.ref x] ++ [b]) >>= fun v => pure (some v)) Q E s :=
    wpAny_bind (wpAny_mono h (fun v s' z => wpAny_pure z) fun _ _ z => z)
  split
  · rw [F.cmp_object.ne.bind]
    exact wpAny_bind (wpAny_pure (wpAny_pure fin))
  · rw [F.cmp_object.ne.bind]
    exact wpAny_tryCatch (wpAny_bind (wpAny_pure (wpAny_pure fin)))
theorem obj_ne {Q : Fin → Shared → Prop} (X : K.In s.heap) (hu : A.units < cLine) (I : InstAt s.heap x ox C od) (hs : findIn K (.ref C) "__eq__" = some (some (.ref f))) (hf : isFn K (.ref f) = true)
    (h : wpAny (model prog w) A (call (.ref f) [.ref x, b]) (fun v s' => ∃ c, v = .bool c ∧ Q (.done (.ret (.bool (!c)))) s') E s) :
    wpAny (model prog w) A (Builtin.«object.__ne__» ⟨[.ref x, b], []⟩) Q E s := by
  unfold Builtin.«object.__ne__»
  repeat (first
    | with_reducible refine wpAny_cRoomFor hu ?_
    | (refine wpAny_bind (m := callSpecialIfBound? (.ref x) (Str.ofString "__eq__") [b])
        (ifBound_K X I hs hf (wpAny_mono h (fun r s' hr => by
          obtain ⟨c, rfl, hq⟩ := hr
          repeat (first | exact hq | exact wpAny_pure hq | exact wpAny_truthy_bool hq | (refine wpAny_bind (m := truthy (.bool _)) (wpAny_truthy_bool ?_)) | wp_step)) fun _ _ z => z)))
    | wp_step)
theorem cmp_ne {Q : Value → Shared → Prop} (hu : A.units + 1 < cLine) (F0 : Fr h₀ L s.heap m) (X₀ : K.In h₀) (I : InstAt s.heap x ox C od) (hb : Looks (model prog w) s.heap (typeOf b) (.ref C))
    (hn : findIn K (.ref C) "__ne__" = some (some (.builtin "object.__ne__"))) (hm : mroIn K C (.type "object") = some true)
    (hs : findIn K (.ref C) "__eq__" = some (some (.ref f))) (hf : isFn K (.ref f) = true)
    (h : wpAny (model prog w) A.in1 (call (.ref f) [.ref x, b]) (fun v s' => ∃ c, v = .bool c ∧ Q (.bool (!c)) s') E s) : wpAny (model prog w) A (richCompare .NotEq (.ref x) b) Q E s := by
  have X := X₀.keeps F0.keep
  have one : wpAny (model prog w) A (tryCompare (.ref x) "__ne__" b) (fun r s' => ∃ v, r = some v ∧ Q v s') E s := by
    unfold tryCompare
    refine wpAny_bind (ne_bound X I hn (wpAny_call (codeAny_call_builtin F.cmp_object.ne.plain F.cmpEntry_ne ?_)))
    refine check_slot F.cmpKind_ne F.cmpSplit_ne ?_ (F.cmpArgs_ne _ _) ?_
    · exact I.type.andThen (looks_mroIn X hm)
    · refine obj_ne (A := A.in1) X hu I hs hf (wpAny_mono h (fun v s' hv => ?_) fun _ _ z => z)
      obtain ⟨c, rfl, hq⟩ := hv
      exact ⟨c, rfl, wpAny_pure ⟨_, rfl, hq⟩⟩
  unfold richCompare
  simp only [oneThing_ref]
  refine wpAny_holding (wpAny_bind (wpAny_cRoomFor (Nat.lt_of_succ_lt hu) ?_))
  rw [cmpInfo_NotEq]
  dsimp only
  refine wpAny_bind (I.type.here (wpAny_bind (hb.here ?_)))
  rw [show (Value.ref C != Value.ref C) = false from by simp]
  simp only [Bool.false_eq_true, if_false]
  refine wpAny_bind (wpAny_pure ?_)
  simp only [Bool.false_eq_true, if_false]
  refine wpAny_bind (wpAny_mono one (fun r s' z => ?_) fun _ _ z => z)
  obtain ⟨v, rfl, hq⟩ := z
  exact wpAny_pure hq
end
section
variable {X : Cx} {CX : CXT} {n : Nat} {C f : Addr} {fd : FuncData} {ps : List Str} {sp : Sp} {E : XK}
/-- x != y, instances of the class at C, by the text's own == -/
def rNeI (C : Addr) (sp : Sp) (E : XK) : R2 := fun x y H Q => ∃ a b dx dy fs gs, x = .ref a ∧ y = .ref b ∧ H a = some (.ins C dx fs) ∧ H b = some (.ins C dy gs) ∧ sp [.ref a, .ref b] H (fun v H' => ∃ c, v = .bl c ∧ Q (.bl (!c)) H') E
def rEqI (C : Addr) (sp : Sp) (E : XK) : R2 := fun x y H Q => ∃ a b dx dy fs gs, x = .ref a ∧ y = .ref b ∧ H a = some (.ins C dx fs) ∧ H b = some (.ins C dy gs) ∧ sp [.ref a, .ref b] H (fun v H' => ∃ c, v = .bl c ∧ Q (.bl c) H') E
theorem op_neI (G : FnOk X.prog X.w X.K X.mg X.base CX n f fd ps sp) (hr : Room (n + 1) X.A) (hn : findIn X.K (.ref C) "__ne__" = some (some (.builtin "object.__ne__"))) (hm : mroIn X.K C (.type "object") = some true)
    (hs : findIn X.K (.ref C) "__eq__" = some (some (.ref f))) (hf : isFn X.K (.ref f) = true) (hb : Binds X.K fd ps []) (hx : Passes CX X E) : OpR X (compareOp .NotEq) (rNeI C sp E) := by
  intro pins s σ H x y v u Q I rx ry hq
  obtain ⟨a, b, dx, dy, fs, gs, rfl, rfl, ha, hb', q⟩ := hq
  cases rx
  cases ry
  obtain ⟨mA, J, _⟩ := ins_get I.hok ha
  obtain ⟨mB, J', _⟩ := ins_get I.hok hb'
  obtain ⟨od, J, _⟩ := J.look
  obtain ⟨od', J', _⟩ := J'.look
  obtain ⟨m, hF⟩ := I.fr
  show wpAny (model X.prog X.w) X.A (richCompare .NotEq (.ref a) (.ref b)) (EP X pins σ Q) X.xe s
  refine cmp_ne (by have := hr.un; omega) hF I.ok.mod.kin J J'.type hn hm hs hf ?_
  have hl := G.len _ _ _ _ q
  have r2 : Vals [V.ref a, V.ref b] [Value.ref a, Value.ref b] := .cons rfl (.cons rfl .nil)
  refine wpAny_call (codeAny_mono (G.run X.A.in1 X.stack s H ⟨[.ref a, .ref b], []⟩ [.ref a, .ref b] [.ref a, .ref b] _ E hr.in1 I.env0.in1 (by simpa using hb s [.ref a, .ref b] I.kIn (by simpa using hl)) r2 q) fun r s' hq => ?_)
  cases r with
  | error e => exact hx pins σ H s e s' I hq
  | ok fl =>
    cases fl with
    | ret w =>
      obtain ⟨z, H', I', rz, c, ez, ex⟩ := I.after hq
      subst ez
      cases rz
      exact ⟨c, rfl, .bl (!c), H', I', rfl, ex⟩
    | next => exact False.elim hq
    | brk => exact False.elim hq
    | cont => exact False.elim hq
theorem op_eqI (G : FnOk X.prog X.w X.K X.mg X.base CX n f fd ps sp) (hr : Room n X.A)
    (hs : findIn X.K (.ref C) "__eq__" = some (some (.ref f))) (hf : isFn X.K (.ref f) = true) (hb : Binds X.K fd ps []) (hx : Passes CX X E) : OpR X (compareOp .Eq) (rEqI C sp E) := by
  intro pins s σ H x y v u Q I rx ry hq
  obtain ⟨a, b, dx, dy, fs, gs, rfl, rfl, ha, hb', q⟩ := hq
  cases rx
  cases ry
  obtain ⟨mA, J, _⟩ := ins_get I.hok ha
  obtain ⟨mB, J', _⟩ := ins_get I.hok hb'
  obtain ⟨od, J, _⟩ := J.look
  obtain ⟨od', J', _⟩ := J'.look
  obtain ⟨m, hF⟩ := I.fr
  show wpAny (model X.prog X.w) X.A (richCompare .Eq (.ref a) (.ref b)) (EP X pins σ Q) X.xe s
  refine PySem.W.cmp_K (op := .Eq) (tb := .ref C) hr.units0 hF I.ok.mod.kin J J'.type (by simp [PySem.W.notFirst]) hs hf ?_
  have hl := G.len _ _ _ _ q
  have r2 : Vals [V.ref a, V.ref b] [Value.ref a, Value.ref b] := .cons rfl (.cons rfl .nil)
  refine wpAny_call (codeAny_mono (G.run X.A X.stack s H ⟨[.ref a, .ref b], []⟩ [.ref a, .ref b] [.ref a, .ref b] _ E hr I.env0 (by simpa using hb s [.ref a, .ref b] I.kIn (by simpa using hl)) r2 q) fun r s' hq => ?_)
  cases r with
  | error e => exact hx pins σ H s e s' I hq
  | ok fl =>
    cases fl with
    | ret w =>
      obtain ⟨z, H', I', rz, c, ez, ex⟩ := I.after hq
      subst ez
      cases rz
      exact ⟨.bl c, H', I', rfl, ex⟩
    | next => exact False.elim hq
    | brk => exact False.elim hq
    | cont => exact False.elim hq
end
end RV
set_option maxHeartbeats 4000000
/-! set(xs) of tuples of ints, xs of any length, where few of them are unlike -/
namespace RV
open PySem PySem.Spec PyProof.Rows L2
/-- fewer than 63 unlike ones -/
def FewUnlike (ks : List (Addr × List Int)) : Prop := ∀ L : List (Addr × List Int), (L.map (·.2)).Nodup → (∀ p ∈ L, p ∈ ks) → L.length + 1 < 64
abbrev noneYet (w : World) : Obj := { cls := .type "set", dict := none, data := .set #[] 0 (.fresh 0 0 (!w.params.followText "set-order")) }
section
variable {P : Program} {w : World} {A : Around} {E : Value → Shared → Prop} {s : Shared}
theorem setN_loop {R : Result → Shared → Prop} (hh : A.in1.handled = none) (S l it : Addr) (hSl : S ≠ l) (hSi : S ≠ it) (hli : l ≠ it) (items : Array Value) (ks : List (Addr × List Int)) (few : FewUnlike ks)
    (refs : ∀ (i : Nat) (p : Addr × List Int), ks[i]? = some p → items[i]? = some (Value.ref p.1)) (size : items.size = ks.length) (old : Heap) (tups : ∀ p ∈ ks, IsT P w old p.2 p.1) (o1 : old.get? S = none) (o2 : old.get? it = none) (hu : A.in1.units < cLine) :
    ∀ (k i : Nat) (s : Shared), ks.length - i = k → i ≤ ks.length → s.heap.IsListIter it l i → s.heap.IsList l items → (∀ b o, old.get? b = some o → s.heap.get? b = some o) → (∃ L es ep t, SetTR P w s.heap S L es ep t ∧ Got ks i L) →
      (∀ h' tk L es ep t, SetTR P w h' S L es ep t → Got ks ks.length L → (∀ b o, old.get? b = some o → h'.get? b = some o) → R (.ok (.ret .none)) { s with heap := h', toks := tk }) →
      codeAny (model P w) A (.builtin "set.update.loop" ⟨[.ref S, .ref it], []⟩) R s
  | 0, i, s, hk, hi, hit, hl, keep, ⟨L, es, ep, t, hS, got⟩, fin => by
    obtain rfl : i = ks.length := by omega
    refine codeAny_builtin F.entry_set_update_loop ?_
    rw [Around.under_plainId F.plain_set_update_loop _]
    show wpAny _ A.in1 (pyNext (.ref it) >>= _) _ _ s
    refine wpAny_bind (wpAny_pyNext_list_end hh hit hl (by simp [size]) fun h' ext => ?_)
    have keep' : ∀ b o, old.get? b = some o → h'.get? b = some o := fun b o e => ext b o (fun z => by rw [z, o2] at e; cases e) (keep b o e)
    exact wpAny_pure (fin h' s.toks L es ep t (hS.keep (fun o e => ext S o hSi e) fun p hp => isT_keep (tups p (List.mem_of_mem_take (got.sub p hp))) keep') got keep')
  | k + 1, i, s, hk, hi, hit, hl, keep, ⟨L, es, ep, t, hS, got⟩, fin => by
    obtain ⟨p, hp⟩ : ∃ p, ks[i]? = some p := ⟨_, List.getElem?_eq_getElem (by omega)⟩
    refine codeAny_builtin F.entry_set_update_loop ?_
    rw [Around.under_plainId F.plain_set_update_loop _]
    show wpAny _ A.in1 (pyNext (.ref it) >>= _) _ _ s
    refine wpAny_bind (wpAny_pyNext_list_item hit hl (refs i p hp) fun h1 hit1 sb1 => ?_)
    have keep1 : ∀ b o, old.get? b = some o → h1.get? b = some o := fun b o e => (sb1.2 b fun z => by rw [z, o2] at e; cases e).trans (keep b o e)
    have inKs : ∀ q ∈ L, q ∈ ks := fun q hq => List.mem_of_mem_take (got.sub q hq)
    have hS1 : SetTR P w h1 S L es ep t := hS.keep (fun o e => (sb1.2 S hSi).trans e) fun q hq => isT_keep (tups q (inKs q hq)) keep1
    have hT : IsT P w h1 p.2 p.1 := isT_keep (tups p (List.mem_of_getElem? hp)) keep1
    show wpAny _ A.in1 (holding [Value.ref p.1] (setAdd S (.ref p.1)) >>= _) _ _ _
    refine wpAny_bind (wpAny_holding ?_)
    unfold setAdd
    refine wpAny_holding (wpAny_bind (wpAny_pyHash_tuple hu hT ?_))
    refine add_at (s := { s with heap := h1, toks := s.toks + (p.2.length + 1) }) hS1 hT hu (few L hS1.nd inKs) fun b h2 L2 es2 ep2 t2 sb2 hS2 yes no => ?_
    have got2 : Got ks (i + 1) L2 := by
      by_cases c : p.2 ∈ L.map (·.2)
      · rw [yes c]; exact got.same hp c
      · exact got.more hp (no c)
    have keep2 : ∀ b o, old.get? b = some o → h2.get? b = some o := fun b o e => (sb2.2 b fun z => by rw [z, o1] at e; cases e).trans (keep1 b o e)
    refine wpAny_pure ⟨plainId_quiet F.plain_set_update_loop _, setN_loop hh S l it hSl hSi hli items ks few refs size old tups o1 o2 hu k (i + 1) _ (by omega) (by omega)
      (hit1.at fun o e => (sb2.2 it (Ne.symm hSi)).trans e) ((hl.at fun o e => (sb1.2 l hli).trans e).at fun o e => (sb2.2 l (Ne.symm hSl)).trans e) keep2 ⟨L2, es2, ep2, t2, hS2, got2⟩ fun h' tk L' es' ep' t' z1 z2 z3 => ?_⟩
    exact fin h' tk L' es' ep' t' z1 z2 z3
set_option maxHeartbeats 8000000 in
theorem call_setN {l : Addr} {items : Array Value} (ks : List (Addr × List Int)) {Q : Value → Shared → Prop} (hh : A.handled = none) (hl : s.heap.IsList l items) (refs : items.toList = ks.map fun p => Value.ref p.1)
    (tups : ∀ p ∈ ks, IsT P w s.heap p.2 p.1) (few : FewUnlike ks) (hu : A.units + 3 < cLine)
    (k : ∀ (h' : Heap) (tk : Nat) L es ep t, SetTR P w h' s.heap.objs.size L es ep t → Got ks ks.length L → (∀ b o, s.heap.get? b = some o → h'.get? b = some o) → Q (.ref s.heap.objs.size) { s with heap := h', toks := tk }) :
    wpAny (model P w) A (call (.type "set") [.ref l]) Q E s := by
  have size : items.size = ks.length := by simpa using congrArg List.length refs
  have refs' : ∀ (i : Nat) (p : Addr × List Int), ks[i]? = some p → items[i]? = some (Value.ref p.1) := fun i p e => by
    rw [← Array.getElem?_toList, refs, List.getElem?_map, e]; rfl
  obtain ⟨c, tl, hm⟩ := F.called_set.mro
  have a1 := F.called_set.made
  have a2 := F.called_set.sub
  have a3 := F.called_set.notType
  have a4 := F.called_set.canCreate
  have a5 := F.typeCall_set_1 (.ref l)
  refine wpAny_call (codeAny_of_tree ?_)
  show wpAny _ _ (callAny (.type "set") _) _ _ _
  refine wpAny_pure ⟨Code.quiet_builtin _ (by decide +kernel), codeAny_builtin F.entry_type_call ?_⟩
  rw [Around.under_plain (weight_type_call_type "set" [.ref l] []) rfl]
  repeat (any_goals (first | assumption | wp_step))
  refine codeAny_mono (code_set_led1 (.ref l) (E := E) (Q₁ := fun obj s₁ => obj = .ref s.heap.objs.size ∧ s₁ = { s with heap := s.heap.push (noneYet w) }) ⟨rfl, rfl⟩) fun r s₁ hr => ?_
  match r, hr with
  | .error e, hr => exact hr
  | .ok .next, hr => exact hr.elim
  | .ok .brk, hr => exact hr.elim
  | .ok .cont, hr => exact hr.elim
  | .ok (.ret obj), hr =>
    obtain ⟨rfl, rfl⟩ := hr
    have hS : (s.heap.push (noneYet w)).get? s.heap.objs.size = some (noneYet w) := Heap.get?_push_size _ rfl
    have hT : Shared.TypeIs { s with heap := s.heap.push (noneYet w) } (.ref s.heap.objs.size) "set" := ⟨_, hS, rfl⟩
    have b1 := F.called_set.init.lookup
    have b2 := F.called_set.init.bind (.ref s.heap.objs.size)
    repeat (any_goals (first | assumption | wp_step))
    refine codeAny_mono (codeAny_call_builtin (R := wants (fun r s₂ => r = .none ∧ ∃ h' tk L es ep t, s₂ = { s with heap := h', toks := tk } ∧ SetTR P w h' s.heap.objs.size L es ep t ∧ Got ks ks.length L ∧
        (∀ b o, s.heap.get? b = some o → h'.get? b = some o)) E) F.called_set.init.plain F.entry_set_init (check_set_init_1 hT ?_)) fun r₂ s₂ hr₂ => ?_
    · obtain ⟨⟨oc, od, dt, os⟩, g1, g2, nl, g3⟩ := hl
      simp only at g2 g3
      subst g2 g3
      have g4 : (s.heap.push (noneYet w)).get? l = some { cls := .type "list", dict := od, data := .seq items nl, slots := os } := Heap.get?_push_of_some _ g1
      have c1 := F.sub_list_set
      have c2 := F.sub_list_frozenset
      have c3 : (Value.type "list" == Value.type "dict") = false := by decide
      have isl : (s.heap.push (noneYet w)).IsList l items := ⟨_, g4, rfl, nl, rfl⟩
      unfold Builtin.«set.__init__» noKeywords Builtin.Frozenset.updateFrom
      generalize hpi : pyIter = pI
      wp_walk
      subst hpi
      refine wpAny_pyIter_list isl (wpAny_bind (wpAny_runValue ?_))
      have lt : l < s.heap.objs.size := Heap.lt_size g1
      have z1 : (s.heap.push (noneYet w)).objs.size = s.heap.objs.size + 1 := Heap.size_push ..
      have none1 : ∀ b, s.heap.objs.size ≤ b → s.heap.get? b = none := fun b hb => by
        cases q : s.heap.get? b with
        | none => rfl
        | some o => exact absurd (Nat.lt_of_lt_of_le (Heap.lt_size q) hb) (Nat.lt_irrefl _)
      refine setN_loop (A := A.in1.in1) (by simp [hh]) s.heap.objs.size l (s.heap.push (noneYet w)).objs.size (Nat.ne_of_gt lt) (by rw [z1]; exact Nat.ne_of_lt (Nat.lt_succ_self _)) (by rw [z1]; exact Nat.ne_of_lt (Nat.lt_succ_of_lt lt)) items ks few refs' size s.heap tups (none1 _ (Nat.le_refl _)) (none1 _ (by rw [z1]; exact Nat.le_succ _)) hu (ks.length - 0) 0 _ rfl (Nat.zero_le _)
        ⟨_, Heap.get?_push_size _ rfl, rfl, rfl⟩ (isl.push _) (fun b o e => Heap.get?_push_of_some _ (Heap.get?_push_of_some _ e)) ⟨[], #[], 0, _, setTR_fresh (Heap.get?_push_of_some _ hS), Got.zero ks⟩ fun h' tk L es ep t q1 q2 q3 => ?_
      show wpAny _ _ _ _ _ _
      refine wpAny_pure ?_
      show wpAny _ _ (ret Value.none) _ _ _
      exact wpAny_pure ⟨rfl, h', tk, L, es, ep, t, rfl, q1, q2, q3⟩
    · match r₂, hr₂ with
      | .error e, hr₂ => exact hr₂
      | .ok .next, hr₂ => exact hr₂.elim
      | .ok .brk, hr₂ => exact hr₂.elim
      | .ok .cont, hr₂ => exact hr₂.elim
      | .ok (.ret r), hr₂ =>
        obtain ⟨rfl, h', tk, L, es, ep, t, rfl, q1, q2, q3⟩ := hr₂
        repeat (any_goals (first | assumption | wp_step))
        exact k _ _ _ _ _ _ q1 q2 q3
end
section
variable {X : Cx}
def rSetN (K : PySem.W.Frag) (P : Program) (w : World) : List V → Hp → VK → Prop := fun xs H Q => ∃ (l : Addr) (ks : List (Addr × List Int)), xs = [V.ref l] ∧ SqL K H l (ks.map fun p => V.ref p.1) ∧ (∀ p ∈ ks, SqT K H p.1 (p.2.map V.int)) ∧ FewUnlike ks ∧
  ∀ a L, H a = none → (∀ p ∈ L, p ∈ ks) → (∀ p ∈ ks, p.2 ∈ L.map (·.2)) → Q (.ref a) (upd H a (SetTO P w a L))
theorem cr_setN (hc : X.calm = true) (hu : X.A.units + 64 < cLine) : CallR X (.type "set") (rSetN X.K X.prog X.w) := by
  intro pins s σ H xs us Q I r h
  obtain ⟨l, ks, rfl, hl, hk, few, q⟩ := h
  rw [Vals.ref1 r]
  obtain ⟨its, rv, pl, hz⟩ := I.list hl
  refine call_setN ks (I.ok.hd hc) pl.isList (by simpa using refs_of_vals rv) (fun p hp => I.isT (hk p hp)) few (by omega) fun h' tk L es ep t R g kp => ?_
  refine ⟨.ref s.heap.objs.size, upd H s.heap.objs.size (SetTO X.prog X.w s.heap.objs.size L), I.laid (t' := tk) kp (Nat.le_refl _) (setTO_new R.t0), rfl, ?_⟩
  exact q _ L (I.hok.fresh (Nat.le_refl _)) (fun p hp => List.mem_of_mem_take (g.sub p hp)) fun p hp => g.all p (by rw [List.take_length]; exact hp)
end
end RV
set_option maxHeartbeats 4000000
namespace RV
open PySem PySem.Spec PyProof.Rows L2
/-! ### heaps -/
theorem same_upd {H : Hp} {p : Addr} {o : HO} (h : H p = none) : Same H (upd H p o) := fun b x e => by
  rw [upd_ne (ne_of_none e h)]
  exact e
theorem sqT_same {K : PySem.W.Frag} {H H' : Hp} {a : Addr} {xs : List V} (e : Same H H') (h : SqT K H a xs) : SqT K H' a xs := SqT.ext h e
theorem sqL_same {K : PySem.W.Frag} {H H' : Hp} {a : Addr} {xs : List V} (e : Same H H') (h : SqL K H a xs) : SqL K H' a xs := SqL.ext h e
theorem tyT {K : PySem.W.Frag} {H : Hp} {a : Addr} {xs : List V} (h : SqT K H a xs) : TyX K H (.ref a) (.type "tuple") := by
  rcases h with (h | ⟨o, h⟩) | ⟨o, its, n, h1, h2, _⟩
  · exact .base (.tup h)
  · exact .fTuple h
  · exact .kTuple h1 h2
theorem tupNew {K : PySem.W.Frag} {H : Hp} {a : Addr} {xs : List V} (h : H a = some (.tup xs)) : SqT K H a xs := .inl (.inl h)
theorem lstNew {K : PySem.W.Frag} {H : Hp} {a : Addr} {xs : List V} (h : H a = some (.lst xs)) : SqL K H a xs := .inl (.inl h)
theorem walk_enT {K : PySem.W.Frag} {a : Addr} {xs : List V} : Walk (IteT K a) xs.length (fun H => SqT K H a xs) (YPair (fun i => some (.int (i : Nat))) (fun i => xs[i]?)) := by
  refine ⟨fun i _ hi q => ⟨xs, xs[i], q, by simp [hi]⟩, fun _ q => ⟨xs, q, Nat.le_refl _⟩, fun i H v H' _ q y => ?_⟩
  obtain ⟨T, x, h1, h2, h3, h4⟩ := y
  exact ⟨T, .int (i : Nat), x, h1, h2, h3, rfl, h4 xs q⟩
theorem walk_zipT {K : PySem.W.Frag} {a b : Addr} {xs ys : List V} {n : Nat} (hn : n = min xs.length ys.length) : Walk (RZ.ItzT K a b) n (fun H => SqT K H a xs ∧ SqT K H b ys) (YPair (fun i => xs[i]?) (fun i => ys[i]?)) := by
  subst hn
  refine ⟨fun i _ hi q => ⟨xs, ys, xs[i]'(by omega), ys[i]'(by omega), q.1, q.2, List.getElem?_eq_getElem _, List.getElem?_eq_getElem _⟩, fun _ q => ⟨xs, ys, q.1, q.2, by omega⟩, fun i H v H' _ q y => ?_⟩
  obtain ⟨T, x, z, h1, h2, h3, h4, h5⟩ := y
  exact ⟨T, x, z, h1, h2, h3, h4 xs q.1, h5 ys q.2⟩
/-- a tuple of tuples of ints -/
def Tups (K : PySem.W.Frag) (H : Hp) (a : Addr) (ps : List (List Int)) : Prop := ∃ ks : List (Addr × List Int), ks.map (·.2) = ps ∧ SqT K H a (ks.map fun p => V.ref p.1) ∧ ∀ p ∈ ks, SqT K H p.1 (p.2.map V.int)
/-- a list of tuples of ints -/
def Lots (K : PySem.W.Frag) (H : Hp) (a : Addr) (ps : List (List Int)) : Prop := ∃ ks : List (Addr × List Int), ks.map (·.2) = ps ∧ SqL K H a (ks.map fun p => V.ref p.1) ∧ ∀ p ∈ ks, SqT K H p.1 (p.2.map V.int)
theorem Tups.same {K : PySem.W.Frag} {H H' : Hp} {a : Addr} {ps : List (List Int)} (h : Tups K H a ps) (e : Same H H') : Tups K H' a ps :=
  let ⟨ks, h1, h2, h3⟩ := h; ⟨ks, h1, sqT_same e h2, fun p hp => sqT_same e (h3 p hp)⟩
theorem Lots.same {K : PySem.W.Frag} {H H' : Hp} {a : Addr} {ps : List (List Int)} (h : Lots K H a ps) (e : Same H H') : Lots K H' a ps :=
  let ⟨ks, h1, h2, h3⟩ := h; ⟨ks, h1, sqL_same e h2, fun p hp => sqT_same e (h3 p hp)⟩
theorem dpInts {K : PySem.W.Frag} {H : Hp} : ∀ ns : List Int, DpAll K H (ns.map V.int) (ns.map PyData.int)
  | [] => .nil
  | n :: r => .cons (.int n) (dpInts r)
def dI (ns : List Int) : PyData := .tuple (ns.map PyData.int)
def dTT (ps : List (List Int)) : PyData := .tuple (ps.map dI)
theorem dpT {K : PySem.W.Frag} {H : Hp} {a : Addr} {ns : List Int} (h : SqT K H a (ns.map V.int)) : Dp K H (.ref a) (dI ns) := .tup h (dpInts ns)
theorem dpTs {K : PySem.W.Frag} {H : Hp} : ∀ ks : List (Addr × List Int), (∀ p ∈ ks, SqT K H p.1 (p.2.map V.int)) → DpAll K H (ks.map fun p => V.ref p.1) ((ks.map (·.2)).map dI)
  | [], _ => .nil
  | p :: r, h => .cons (dpT (h p (List.mem_cons_self ..))) (dpTs r fun q hq => h q (List.mem_cons_of_mem _ hq))
theorem Tups.dp {K : PySem.W.Frag} {H : Hp} {a : Addr} {ps : List (List Int)} (h : Tups K H a ps) : Dp K H (.ref a) (dTT ps) := by
  obtain ⟨ks, rfl, h2, h3⟩ := h
  exact .tup h2 (dpTs ks h3)
theorem map_at {α β : Type} {f : α → β} {l : List α} {i : Nat} {y : β} (h : (l.map f)[i]? = some y) : ∃ x, l[i]? = some x ∧ y = f x := by
  rw [List.getElem?_map] at h
  cases e : l[i]? with
  | none => rw [e] at h; cases h
  | some x => rw [e] at h; exact ⟨x, rfl, (Option.some.inj h).symm⟩
theorem all_true : ∀ n : Nat, (List.replicate n true).all id = true
  | 0 => rfl
  | n + 1 => by rw [List.replicate_succ, List.all_cons, all_true n]; rfl
theorem rep_bl (n : Nat) : List.replicate n (V.bl true) = (List.replicate n true).map V.bl := by rw [List.map_replicate]
theorem rep_next {α : Type} (n : Nat) (x : α) : List.replicate n x ++ [x] = List.replicate (n + 1) x := by rw [List.replicate_succ', ]
theorem tt_yes {σ : L2.St} {H : Hp} {A B : Hp → Prop} (h : A H) : tYes σ H (fun b H3 => if b = true then A H3 else B H3) := iteT (A := A H) (B := B H) h
theorem un65 {k : Nat} {A : Around} (r : Room k A) : A.units + 65 < cLine := by have := r.un; omega
theorem few1 {n : Nat} (h : n ≤ 1000) : n < sizeLine := small1000 h
/-! ### data of ints, tuples of these -/
theorem lay_ints : ∀ ns : List Int, PyData.canLayAll0 (ns.map PyData.int) = true
  | [] => by simp [PyData.canLayAll0]
  | n :: r => by simp [PyData.canLayAll0, PyData.canLay0, lay_ints r]
theorem dep_ints : ∀ ns : List Int, PyData.depthAll (ns.map PyData.int) = 0
  | [] => by simp [PyData.depthAll]
  | n :: r => by simp [PyData.depthAll, PyData.depth, dep_ints r]
theorem dI_lay (ns : List Int) : (dI ns).canLay0 = true := by simp only [dI, PyData.canLay0]; exact lay_ints ns
theorem dI_dep (ns : List Int) : (dI ns).depth = 1 := by simp only [dI, PyData.depth, dep_ints]
theorem lay_dI : ∀ ps : List (List Int), PyData.canLayAll0 (ps.map dI) = true
  | [] => by simp [PyData.canLayAll0]
  | n :: r => by simp [PyData.canLayAll0, dI_lay, lay_dI r]
theorem dep_dI : ∀ ps : List (List Int), PyData.depthAll (ps.map dI) ≤ 1
  | [] => by simp [PyData.depthAll]
  | n :: r => by
    have h := dep_dI r
    simp only [List.map_cons, PyData.depthAll, dI_dep]
    omega
theorem shapedI (ns : List Int) : SeqAt.shaped (dI ns) = true := by
  show ((dI ns).canLay0 && decide ((dI ns).depth ≤ 64)) = true
  rw [dI_lay, dI_dep]; rfl
theorem shapedTT (ps : List (List Int)) : SeqAt.shaped (dTT ps) = true := by
  have h := dep_dI ps
  have e : (dTT ps).depth ≤ 64 := by simp only [dTT, PyData.depth]; omega
  show ((dTT ps).canLay0 && decide ((dTT ps).depth ≤ 64)) = true
  rw [decide_eq_true e, Bool.and_true]
  simp only [dTT, PyData.canLay0]; exact lay_dI ps
theorem eqv_ints : ∀ ns ms : List Int, PyData.eqvAll (ns.map PyData.int) (ms.map PyData.int) = decide (ns = ms)
  | [], [] => by simp [PyData.eqvAll]
  | [], m :: r => by simp [PyData.eqvAll]
  | n :: r, [] => by simp [PyData.eqvAll]
  | n :: r, m :: q => by
    have h := eqv_ints r q
    simp only [List.map_cons, PyData.eqvAll, PyData.eqv, h]
    by_cases e : n = m
    · subst e; by_cases e2 : r = q <;> simp [e2]
    · simp [e]
theorem eqvI (ns ms : List Int) : PyData.eqv (dI ns) (dI ms) = decide (ns = ms) := by simp only [dI, PyData.eqv, eqv_ints]
theorem eqv_dIs : ∀ ns ms : List (List Int), PyData.eqvAll (ns.map dI) (ms.map dI) = decide (ns = ms)
  | [], [] => by simp [PyData.eqvAll]
  | [], m :: r => by simp [PyData.eqvAll]
  | n :: r, [] => by simp [PyData.eqvAll]
  | n :: r, m :: q => by
    have h := eqv_dIs r q
    simp only [List.map_cons, PyData.eqvAll, eqvI, h]
    by_cases e : n = m
    · subst e; by_cases e2 : r = q <;> simp [e2]
    · simp [e]
theorem eqvTT (ns ms : List (List Int)) : PyData.eqv (dTT ns) (dTT ms) = decide (ns = ms) := by simp only [dTT, PyData.eqv, eqv_dIs]
theorem any_dI (p : List Int) : ∀ ps : List (List Int), (ps.map dI).any (fun y => PyData.eqv y (dI p)) = decide (p ∈ ps)
  | [] => rfl
  | q :: r => by
    rw [List.map_cons, List.any_cons, any_dI p r, eqvI]
    by_cases e : q = p
    · subst e; simp
    · have e' : ¬ p = q := fun z => e z.symm
      by_cases e2 : p ∈ r <;> simp [e, e', e2]
section
variable {X : Cx}
/-- t in ts, of tuples of ints -/
def rInTs (K : PySem.W.Frag) : R2 := fun x y H Q => ∃ (a b : Addr) (p : List Int) (ps : List (List Int)), x = .ref a ∧ y = .ref b ∧ SqT K H a (p.map V.int) ∧ Tups K H b ps ∧ Q (.bl (decide (p ∈ ps))) H
theorem op_inTs (hu : X.A.units + 65 < cLine) : OpR X (compareOp .In) (rInTs X.K) := by
  intro pins s σ H x y v u Q I rx ry h
  obtain ⟨a, b, p, ps, rfl, rfl, h1, h2, q⟩ := h
  obtain ⟨as, r1⟩ := Dp.reads I (dI p) (.ref a) v (dpT h1) rx
  obtain ⟨bs, r2⟩ := Dp.reads I (dTT ps) (.ref b) u h2.dp ry
  refine SeqAt.in_tuple_reads (xs := ps.map dI) r2 r1 (lay_dI ps) (dI_lay p) ?_ ⟨.bl _, H, I, rfl, ?_⟩
  · have := Nat.min_le_right (PyData.depthAll (ps.map dI)) (dI p).depth
    have e := dI_dep p
    omega
  · rw [any_dI]; exact q
/-- two tuples of ints, two tuples of tuples of ints compared -/
def rEqI1 (K : PySem.W.Frag) : R2 := fun x y H Q => ∃ (a b : Addr) (p q : List Int), x = .ref a ∧ y = .ref b ∧ SqT K H a (p.map V.int) ∧ SqT K H b (q.map V.int) ∧ Q (.bl (decide (p = q))) H
def rEqTs (K : PySem.W.Frag) : R2 := fun x y H Q => ∃ (a b : Addr) (p q : List (List Int)), x = .ref a ∧ y = .ref b ∧ Tups K H a p ∧ Tups K H b q ∧ Q (.bl (decide (p = q))) H
theorem op_eqI1 (hu : X.A.units + 64 < cLine) : OpR X (compareOp .Eq) (rEqI1 X.K) := by
  intro pins s σ H x y v u Q I rx ry h
  obtain ⟨a, b, p, ps, rfl, rfl, h1, h2, q⟩ := h
  refine op_eqD hu pins s σ H _ _ v u Q I rx ry ⟨dI p, dI ps, dpT h1, dpT h2, shapedI p, shapedI ps, ?_⟩
  rw [eqvI]; exact q
theorem op_eqTs (hu : X.A.units + 64 < cLine) : OpR X (compareOp .Eq) (rEqTs X.K) := by
  intro pins s σ H x y v u Q I rx ry h
  obtain ⟨a, b, p, ps, rfl, rfl, h1, h2, q⟩ := h
  refine op_eqD hu pins s σ H _ _ v u Q I rx ry ⟨dTT p, dTT ps, h1.dp, h2.dp, shapedTT p, shapedTT ps, ?_⟩
  rw [eqvTT]; exact q
end
section
variable {X : Cx} {K : PySem.W.Frag}
/-! the rules whose reading names the written part, for a comprehension's block -/
theorem ix_tupK (h : X.K = K) : IxR X (rIxT K) := h ▸ ix_tup
theorem pg_tupK {es : List Expr} {k : Nat} {t : TGs} {n : Nat} {pos : Pos} (h : X.K = K) (hc : X.calm = true) (hg : PGs X es t)
    (hn : (assignEach es X.env).length = n := by rfl) (hst : (assignEach es X.env).findIdx? (·.1) = none := by rfl) : PG X (.Tuple es k pos) (gTup K n t) := h ▸ pg_tup hc hg hn hst
theorem op_inTsK (h : X.K = K) (hu : X.A.units + 65 < cLine) : OpR X (compareOp .In) (rInTs K) := h ▸ op_inTs hu
theorem op_ltTK (h : X.K = K) (hu : X.A.units < cLine) : OpR X (compareOp .Lt) (rLtT K) := h ▸ op_ltT hu
def rLenS (K : PySem.W.Frag) : List V → Hp → VK → Prop := fun xs H Q => ∃ p ys, xs = [.ref p] ∧ (SqL K H p ys ∨ SqT K H p ys) ∧ Q (.int ys.length) H
theorem call_lenK (h : X.K = K) : CallR X (.builtin "len") (rLenS K) := h ▸ call_len_seq
end
end RV
set_option maxHeartbeats 4000000
namespace K43
open PySem PySem.Spec PyProof.Rows L2 RV
/-! ### the text by places -/
def topS (i : Nat) : Stmt := PySem.Challenge.pw_ringvouch_k43_rules_put_together.main.body.getD i (.Pass ⟨0, 0, 0, 0⟩)
abbrev sWhole : Stmt := topS 6
abbrev sMark : Stmt := topS 7
abbrev sMarks : Stmt := topS 8
abbrev sMirrors : Stmt := topS 12
abbrev sSteps : Stmt := topS 13
abbrev sStep : Stmt := topS 14
abbrev sRising : Stmt := topS 15
abbrev sBehind : Stmt := topS 16
abbrev sEither : Stmt := topS 18
abbrev sBoth : Stmt := topS 19
abbrev sCheckM : Stmt := topS 20
abbrev sHand : Stmt := topS 22
abbrev sDraw : Stmt := topS 23
abbrev sClosed : Stmt := topS 24
abbrev sDMirrors : Stmt := topS 25
abbrev sRule : Stmt := topS 26
abbrev sMade : Stmt := topS 27
abbrev sLEither : Stmt := topS 28
abbrev sLBoth : Stmt := topS 29
abbrev sLTold : Stmt := topS 30
abbrev sDue : Stmt := topS 31
abbrev sRight : Stmt := topS 32
abbrev sLaw : Stmt := topS 33
abbrev sInit : Stmt := inClass (topS 11) 0
abbrev sEq : Stmt := inClass (topS 11) 4
abbrev sMarksM : Stmt := inClass (topS 11) 1
abbrev sMirrorM : Stmt := inClass (topS 11) 2
abbrev sBehindM : Stmt := inClass (topS 11) 3
/-- a def of the text as the top has left it -/
structure DefAt (K : PySem.W.Frag) (mg : Str → Option Value) (x : Str) (st : Stmt) (ps : List Str) (f : Addr) (fd : FuncData) : Prop where
  fn : Fun K x x st f fd
  bi : Binds K fd ps []
  mg : mg x = some (.ref f)
/-- the names that are the interpreter's own -/
structure Bare (mg : Str → Option Value) : Prop where
  len : mg "len" = none
  isinstance : mg "isinstance" = none
  int : mg "int" = none
  bool : mg "bool" = none
  tuple : mg "tuple" = none
  all : mg "all" = none
  enumerate : mg "enumerate" = none
  zip : mg "zip" = none
  range : mg "range" = none
  list : mg "list" = none
  set : mg "set" = none
  sorted : mg "sorted" = none
  abs : mg "abs" = none
  max : mg "max" = none
  min : mg "min" = none
  repr : mg "repr" = none
  dict : mg "dict" = none
  any : mg "any" = none
  str : mg "str" = none
section
variable {P : Program} {w : World} {K : PySem.W.Frag} {mg : Str → Option Value} {base : Heap}
/-! ### is_whole -/
theorem scWhole : FnScope ["thing"] ["thing"] (defScope sWhole) := ⟨rfl, rfl, rfl, by decide +kernel, rfl, by decide +kernel, by decide +kernel⟩
def spWhole : Sp := fun vs H Q _ => ∃ i : Int, vs = [.int i] ∧ Q (.bl true) H
theorem ok_whole {f : Addr} {fd : FuncData} (F : Fun K "is_whole" "is_whole" sWhole f fd) (B : Bare mg) : FnOk P w K mg base CX0 1 f fd ["thing"] spWhole := by
  refine F.ok scWhole (fun vs H Q E h => ?_) (fun cdv A outer s H vs Q E hr h => ?_)
  · obtain ⟨i, rfl, _⟩ := h
    rfl
  · obtain ⟨i, rfl, q⟩ := h
    refine ⟨_, pss_one (ps_ret (pe_and (pe_callB call_isi (by rfl) B.isinstance (by decide +kernel) (pa_cons (pv 0) (pa_cons (pe_bltn (v := .ty "int") (by rfl) B.int boot_int rfl) pa_nil)))
      (pe_one (pe_not (pe_callB call_isi (by rfl) B.isinstance (by decide +kernel) (pa_cons (pv 0) (pa_cons (pe_bltn (v := .ty "bool") (by rfl) B.bool (by decide +kernel) rfl) pa_nil))))))), ?_⟩
    refine ⟨.int i, rfl, .int i, .ty "int", _, _, true, rfl, .ty "int", .base (.int i), kit_ty (by decide +kernel), true, rfl, iteT ?_⟩
    exact ⟨.int i, rfl, .int i, .ty "bool", _, _, false, rfl, .ty "bool", .base (.int i), kit_ty (by decide +kernel), false, rfl, q⟩
/-! ### is_below -/
theorem scMark : FnScope ["thing", "many"] ["thing", "many"] (defScope sMark) := ⟨rfl, rfl, rfl, by decide +kernel, rfl, by decide +kernel, by decide +kernel⟩
def spMark : Sp := fun vs H Q _ => ∃ i n : Int, vs = [.int i, .int n] ∧ 0 ≤ i ∧ i < n ∧ Q (.bl true) H
theorem ok_mark {f fW : Addr} {fd fdW : FuncData} (F : Fun K "is_below" "is_below" sMark f fd) (D : DefAt K mg "is_whole" sWhole ["thing"] fW fdW) (B : Bare mg) : FnOk P w K mg base CX0 2 f fd ["thing", "many"] spMark := by
  have GW : FnOk P w K mg base CX0 1 fW fdW ["thing"] spWhole := ok_whole D.fn B
  refine F.ok scMark (fun vs H Q E h => ?_) (fun cdv A outer s H vs Q E hr h => ?_)
  · obtain ⟨i, n, rfl, _⟩ := h
    rfl
  · obtain ⟨i, n, rfl, h1, h2, q⟩ := h
    refine ⟨_, pss_one (ps_ret (pe_and (pe_call GW hr (by rfl) D.mg D.fn.kp D.bi .nil pass0 (pa_cons (pv 0) pa_nil)) (pe_one (pe_chain op_le op_lt pe_int (pv 0) (pv 1))))), ?_⟩
    refine ⟨.int i, rfl, i, rfl, true, rfl, iteT ?_⟩
    refine ⟨.int i, rfl, 0, i, rfl, rfl, _, rfl, ?_⟩
    rw [decide_eq_true h1]
    refine iteT ⟨.int n, rfl, i, n, rfl, rfl, ?_⟩
    show Q (.bl (decide (i < n))) H
    rw [decide_eq_true h2]
    exact q
/-! ### are_marks -/
theorem scMarks : FnScope ["thing", "many", "mark"] ["thing", "many"] (defScope sMarks) := ⟨rfl, rfl, rfl, by decide +kernel, rfl, by decide +kernel, by decide +kernel⟩
def spMarks (K : PySem.W.Frag) : Sp := fun vs H Q _ => ∃ (a : Addr) (ns : List Int) (n : Int), vs = [.ref a, .int n] ∧ SqT K H a (ns.map V.int) ∧ 0 < ns.length ∧ ns.length ≤ 1000 ∧ (∀ i ∈ ns, 0 ≤ i ∧ i < n) ∧ ∀ H', Same H H' → Q (.bl true) H'
theorem ok_marks {f fM fW : Addr} {fd fdM fdW : FuncData} (F : Fun K "are_marks" "are_marks" sMarks f fd) (DM : DefAt K mg "is_below" sMark ["thing", "many"] fM fdM) (DW : DefAt K mg "is_whole" sWhole ["thing"] fW fdW) (B : Bare mg) :
    FnOk P w K mg base CX0 3 f fd ["thing", "many"] (spMarks K) := by
  have GM : FnOk P w K mg base CX0 2 fM fdM ["thing", "many"] spMark := ok_mark DM.fn DW B
  refine F.ok scMarks (fun vs H Q E h => ?_) (fun cdv A outer s H vs Q E hr h => ?_)
  · obtain ⟨a, ns, n, rfl, _⟩ := h
    rfl
  · obtain ⟨a, ns, n, rfl, hT, h0, hm, hin, q⟩ := h
    refine ⟨_, pss_one (ps_ret (pe_and (pe_callB call_isi (by rfl) B.isinstance (by decide +kernel) (pa_cons (pv 0) (pa_cons (pe_bltn (v := .ty "tuple") (by rfl) B.tuple (by decide +kernel) rfl) pa_nil)))
      (pe_and (pe_cmpR op_gt (pe_callB call_len_seq (by rfl) B.len PySem.boot_len (pa_cons (pv 0) pa_nil)) pe_int (nomark _))
      (pe_one (pe_callB (cr_all rfl) (by rfl) B.all (by decide +kernel) (pa_cons
        (pe_lc (own := [("mark", 2)]) (g := gName 2) (tt := tYes) rfl scMarks.nd (pi_tup (pv 0)) (blkOk_by (N := ["thing", "many", "mark"]) (sc := defScope sMarks) (by decide +kernel)) (fun _ _ _ _ _ => pg_name (i := 2) scMarks.nd rfl (Or.inl rfl)) (fun _ _ _ _ _ => pts_nil)
          (fun _ _ _ _ _ => pe_call GM hr (by rfl) DM.mg DM.fn.kp DM.bi .nil pass0 (pa_cons (pv 2) (pa_cons (pv 1) pa_nil)))) pa_nil)))))), ?_⟩
    refine ⟨.ref a, rfl, .ref a, .ty "tuple", _, _, true, rfl, .ty "tuple", tyT hT, kit_ty (by decide +kernel), true, rfl, iteT ?_⟩
    refine ⟨.ref a, rfl, a, _, rfl, .inr hT, _, _, rfl, rfl, decide (((ns.map V.int).length : Int) > 0), rfl, ?_⟩
    rw [decide_eq_true (show ((ns.map V.int).length : Int) > 0 by rw [List.length_map]; omega)]
    refine iteT ⟨.ref a, rfl, a, rfl, ⟨_, hT⟩, fun D nD => ?_⟩
    refine lc_tup (K := K) (a := a) (xs := ns.map V.int) (fun i H' => Same H H' ∧ H' D = some (.lst (List.replicate i (V.bl true)))) ⟨same_upd nD, upd_same⟩ (fun i H' _ p => sqT_same p.1 hT) (fun i x H' hx p => ?_) fun H' p => ?_
    · obtain ⟨m, hm', rfl⟩ := map_at hx
      have hi : i < ns.length := (List.getElem?_eq_some_iff.mp hm').1
      have hr' := hin m (List.mem_of_getElem? hm')
      refine ⟨rfl, tt_yes ⟨.int m, rfl, .int n, rfl, m, n, rfl, hr'.1, hr'.2, _, p.2, ?_, ?_, ?_⟩⟩
      · rw [List.length_replicate]; exact few1 (by omega)
      · exact fun b o e => by rw [upd_ne (ne_of_none e nD)]; exact p.1 b o e
      · rw [upd_same, rep_next]
    · rw [List.length_map, rep_bl] at p
      refine ⟨D, _, rfl, lstNew p.2, ?_⟩
      rw [all_true]
      exact q H' p.1
end
end K43
set_option maxHeartbeats 4000000
/-! a law's head by a hook of my own: a part of the heap that only follows tables, functions and classes, the functions by He's facts, the rest as a list of looks. -/
namespace RV
open PySem PySem.Spec PyProof.Rows L2
/-- what a table, a function, a class names -/
def refsX (o : Obj) : List Addr := match o.data with
  | .dict es _ => es.toList.flatMap fun e => He.refV e.val
  | .func fd => He.refV fd.code
  | .cls cd => [cd.ns]
  | _ => []
def growX (g : Addr → Option Obj) (as : List Addr) : List Addr := as.flatMap fun a => match g a with
  | some o => refsX o
  | none => []
def asX (g : Addr → Option Obj) : List Addr :=
  let a1 := growX g [mainGlobals]
  let a2 := growX g a1
  let a3 := growX g a2
  let a4 := growX g a3
  mainGlobals :: (a1 ++ (a2 ++ (a3 ++ a4)))
abbrev AlX : Type := He.Al × Bool
def obsX (fa : List He.Fa) (fn : List He.FnD) (ex : List (PySem.W.Frag → Bool)) (K : PySem.W.Frag) : AlX := (He.obsE fa fn K, ex.all fun p => p K)
def valX (fn : List He.FnD) : AlX := (He.valE fn, true)
def obsXG (fa : List He.Fa) (fn : List He.FnD) (ex : List (PySem.W.Frag → Bool)) (g : Addr → Option Obj) : AlX := obsX fa fn ex (He.frG g (asX g))
structure SaysX (fa : List He.Fa) (fn : List He.FnD) (ex : List (PySem.W.Frag → Bool)) (K : PySem.W.Frag) : Prop where
  e : He.SaysE fa fn K
  x : (ex.all fun p => p K) = true
def hookX (fa : List He.Fa) (fn : List He.FnD) (ex : List (PySem.W.Frag → Bool)) : PySem.W.Hook where
  α := AlX
  obs := fun s => obsXG fa fn ex s.heap.get?
  val := fun _ => valX fn
  says := fun _ h => ∃ K : PySem.W.Frag, K.In h ∧ SaysX fa fn ex K
  of := fun _ _ e => ⟨_, He.frG_in, congrArg (fun z : AlX => z.1) e, congrArg (fun z : AlX => z.2) e⟩
  keeps := fun _ _ _ ⟨K, hK, c⟩ k => ⟨K, PySem.W.Frag.In.keeps hK k, c⟩
theorem obsXG_eq {fa : List He.Fa} {fn : List He.FnD} {ex : List (PySem.W.Frag → Bool)} {g : Addr → Option Obj} {s : Shared} (h : ∀ a, g a = s.heap.get? a) : obsXG fa fn ex g = (hookX fa fn ex).obs s := by
  have e : g = s.heap.get? := funext h
  rw [e] <;> rfl
section
variable {fa : List He.Fa} {fn : List He.FnD} {ex : List (PySem.W.Frag → Bool)} {K : PySem.W.Frag} {h : Heap} {mg : Str → Option Value}
theorem SaysX.look (c : SaysX fa fn ex K) (i : Nat) {p : PySem.W.Frag → Bool} (e : ex[i]? = some p) : p K = true := List.all_eq_true.mp c.x p (List.mem_of_getElem? e)
theorem SaysX.dec (c : SaysX fa fn ex K) (i : Nat) {P : PySem.W.Frag → Prop} [d : ∀ K, Decidable (P K)] (e : ex[i]? = some fun K => decide (P K)) : P K := of_decide_eq_true (c.look i e)
/-- the int that a name stands for -/
def intX (x : Str) (i : Int) (K : PySem.W.Frag) : Bool := match PySem.W.nsIn K mainGlobals x with
  | some (some (.int j _)) => decide (j = i)
  | _ => false
theorem intX_ok {x : Str} {i : Int} (c : intX x i K = true) : ∃ t, PySem.W.nsIn K mainGlobals x = some (some (.int i t)) := by
  unfold intX at c
  cases e : PySem.W.nsIn K mainGlobals x with
  | none =>
    rw [e] at c
    cases c
  | some o =>
    rw [e] at c
    cases o with
    | none => cases c
    | some v =>
      cases v with
      | int j t =>
        have ej : j = i := of_decide_eq_true c
        rw [ej]
        exact ⟨t, rfl⟩
      | _ => cases c
/-- a def of the top -/
theorem def_x (X : K.In h) (G : h.Ns mainGlobals mg) (c : SaysX fa fn ex K) {x : Str} {st : Stmt} {ps : List Str} (i : Nat) (hd : fn[i]? = some ⟨(x, none), x, x, defArgs st, defBody st, defScope st⟩) (hg : fa[2 * i]? = some (.glo x)) (hk : fa[2 * i + 1]? = some (.keep x))
    (hb : ∀ (kV doc pm : Value) (an : Option Addr) (cdv ct : Value) (us : List Value), us.length = ps.length → bindArgs (PySem.W.fnOf x x (defArgs st) (defBody st) (defScope st) .none kV doc pm an cdv ct) ⟨us, []⟩ = pure (ps.zip us)) :
    ∃ (f : Addr) (fd : FuncData), Fun K x x st f fd ∧ Binds K fd ps [] ∧ mg x = some (.ref f) := by
  obtain ⟨oc, od, osl, kV, doc, pm, an, cdv, ct, lk, cd⟩ := c.e.def_ i hd
  have F : Fun K x x st _ _ := fun_mk (st := st) lk cd (He.keep_ok (c.e.fact (2 * i + 1) hk))
  exact ⟨_, _, F, F.binds hb, He.glo_ok X G (c.e.fact (2 * i) hg)⟩
/-- the law -/
theorem law_x (X : K.In h) (G : h.Ns mainGlobals mg) (c : SaysX fa fn ex K) {x q : Str} {st : Stmt} (i : Nat) (hd : fn[i]? = some ⟨(x, none), x, x, defArgs st, defBody st, defScope st⟩) (hg : fa[2 * i]? = some (.glo x)) (hk : fa[2 * i + 1]? = some (.keep x))
    (hb : ∀ (kV doc pm : Value) (an : Option Addr) (cdv ct : Value) (s : Shared) (v : Value), BindsTo s (PySem.W.fnOf x x (defArgs st) (defBody st) (defScope st) .none kV doc pm an cdv ct) ⟨[v], []⟩ [(q, v)]) :
    ∃ (f : Addr) (fd : FuncData), Fun K x x st f fd ∧ (∀ (s : Shared) (v : Value), BindsTo s fd ⟨[v], []⟩ [(q, v)]) ∧ mg x = some (.ref f) := by
  obtain ⟨oc, od, osl, kV, doc, pm, an, cdv, ct, lk, cd⟩ := c.e.def_ i hd
  have F : Fun K x x st _ _ := fun_mk (st := st) lk cd (He.keep_ok (c.e.fact (2 * i + 1) hk))
  exact ⟨_, _, F, hb kV doc pm an cdv ct, He.glo_ok X G (c.e.fact (2 * i) hg)⟩
/-- a method -/
theorem meth_x (c : SaysX fa fn ex K) {C : Addr} {x m q : Str} {st : Stmt} {ps : List Str} (hC : He.ga K x = C) (i j : Nat) (hd : fn[i]? = some ⟨(x, some m), m, q, defArgs st, defBody st, defScope st⟩) (hm : fa[j]? = some (.meth x m))
    (hb : ∀ (kV doc pm : Value) (an : Option Addr) (cdv ct : Value) (us : List Value), us.length = ps.length → bindArgs (PySem.W.fnOf m q (defArgs st) (defBody st) (defScope st) .none kV doc pm an cdv ct) ⟨us, []⟩ = pure (ps.zip us)) :
    ∃ (f : Addr) (fd : FuncData), Fun K m q st f fd ∧ Binds K fd ps [] ∧ PySem.W.findIn K (.ref C) m = some (some (.ref f)) ∧ PySem.W.isFn K (.ref f) = true ∧ PySem.W.keepIn K (.ref f) = true := by
  subst hC
  obtain ⟨oc, od, osl, kV, doc, pm, an, cdv, ct, lk, cd⟩ := c.e.def_ i hd
  have hf := c.e.fact j hm
  obtain ⟨h1, h2⟩ := He.ba hf
  obtain ⟨h3, h4⟩ := He.ba h2
  have F : Fun K m q st _ _ := fun_mk (st := st) lk cd h4
  exact ⟨_, _, F, F.binds hb, He.eqO_ok h1, h3, h4⟩
end
theorem walk_GE {l : PySem.W.OpenLaw} {n k : Nat} {q : Program} {loose : List Str} {XP : (Str → Option Value) → Heap → Prop} {YP : World → Heap → Prop} {d : DefRec} {x : Str}
    (hn : l.most = some n) (hn2 : n ≤ sizeLine) (hdf : d.params.defaults = []) (hr : Room k callerA)
    (F : ∀ (w : World) (mg : Str → Option Value) (fa : Addr) (h : Heap), YP w h → h.Ns mainGlobals mg → mg d.name = some (.ref fa) →
      ∃ (K : PySem.W.Frag) (fd : FuncData) (sp : Sp), K.In h ∧ (∀ (s : Shared) (u : Value), BindsTo s fd ⟨[u], []⟩ [(x, u)]) ∧
        (∀ (H : Hp) (a : Addr) (ns : List Int), ns.length ≤ n → Only H → SqL K H a (ns.map V.int) → sp [.ref a] H (fun v _ => v = .bl true) fun _ _ _ => False) ∧
        ∀ base : Heap, K.In base → base.Ns mainGlobals mg → FnG l.prog w K mg base CX0 k fa fd [x] sp) :
    PySem.W.WalkO q loose XP YP l.row.toRowW d [] (fun f vs => PySem.call f vs) := by
  refine Att.attach_call hn hdf fun w s₀ st mg mb fa o pm cd doc a vs ns G Y ho hd hcd hmg hobj hints hlen hg => ?_
  obtain ⟨K, fd, sp, KX, hb, hsp, hF⟩ := F w mg fa _ Y G.T.g hmg
  exact law_callG KX G.T.g G.T.b G.T.builtins G.T.nolimit hg hobj hints (Nat.le_trans hlen hn2) hr hF hb fun H hO hS => hsp H a ns hlen hO hS
end RV
set_option maxHeartbeats 4000000
/-! the head of a law in whose program some defs make lambdas: their tables of code objects are followed from the start -/
namespace RV
open PySem PySem.Spec PyProof.Rows L2
def isNewT : Option Obj → Bool
  | some ⟨.none, none, .fields us, sl⟩ => us.isEmpty && sl.isEmpty
  | _ => false
theorem isNewT_ok {o : Option Obj} (h : isNewT o = true) : o = some (PySem.W.tabObj #[]) := by
  unfold isNewT at h
  split at h
  · rename_i us sl
    rw [Bool.and_eq_true] at h
    have e1 : us = #[] := Array.isEmpty_iff.mp h.1
    have e2 : sl = #[] := Array.isEmpty_iff.mp h.2
    rw [e1, e2]
  · cases h
/-- the code object of the def at f, and its table -/
def tabAt (K : PySem.W.Frag) (g : Addr → Option Obj) (f : Addr) : Option (Addr × Addr) := match K.lookup f with
  | some ⟨_, _, .func fd, _⟩ => (match fd.code with
    | .ref c => (match K.lookup c with
      | some ⟨_, _, .fields vs, _⟩ => (match (vs[11]? : Option Value) with
        | some (.ref t) => if (PySem.W.codeHdIn K c t && (K.lookup t).isNone && isNewT (g t)) = true then some (c, t) else none
        | _ => none)
      | _ => none)
    | _ => none)
  | _ => none
structure TabW (K : PySem.W.Frag) (h : Heap) (f c t : Addr) : Prop where
  fd : ∃ oc od fd osl, K.lookup f = some ⟨oc, od, .func fd, osl⟩ ∧ fd.code = .ref c
  hd : PySem.W.codeHdIn K c t = true
  out : K.lookup t = none
  new : h.get? t = some (PySem.W.tabObj #[])
theorem tabAt_ok {K : PySem.W.Frag} {h : Heap} {f c t : Addr} (e : tabAt K h.get? f = some (c, t)) : TabW K h f c t := by
  unfold tabAt at e
  split at e
  · rename_i oc od fd osl lk
    split at e
    · rename_i c' ec
      split at e
      · split at e
        · rename_i t' _
          split at e
          · rename_i ok
            obtain ⟨rfl, rfl⟩ : c' = c ∧ t' = t := by cases e; exact ⟨rfl, rfl⟩
            rw [Bool.and_eq_true, Bool.and_eq_true] at ok
            obtain ⟨⟨h1, h2⟩, h3⟩ := ok
            refine ⟨⟨oc, od, fd, osl, lk, ec⟩, h1, ?_, isNewT_ok h3⟩
            cases z : K.lookup t' with
            | none => rfl
            | some o => rw [z] at h2; cases h2
          · cases e
        · cases e
      · cases e
    · cases e
  · cases e
theorem TabW.keeps {K : PySem.W.Frag} {h h' : Heap} {f c t : Addr} (x : TabW K h f c t) (k : ∀ b o, h.get? b = some o → h'.get? b = some o) : TabW K h' f c t := ⟨x.fd, x.hd, x.out, k _ _ x.new⟩
abbrev AlT : Type := AlX × Bool
/-- ts: the defs and methods that make lambdas -/
def obsTG (fa : List He.Fa) (fn : List He.FnD) (ex : List (PySem.W.Frag → Bool)) (ts : List (Str × Option Str)) (g : Addr → Option Obj) : AlT := (obsXG fa fn ex g, ts.all fun p => (tabAt (He.frG g (asX g)) g (He.fAd (He.frG g (asX g)) p)).isSome)
def hookT (fa : List He.Fa) (fn : List He.FnD) (ex : List (PySem.W.Frag → Bool)) (ts : List (Str × Option Str)) : PySem.W.Hook where
  α := AlT
  obs := fun s => obsTG fa fn ex ts s.heap.get?
  val := fun _ => (valX fn, true)
  says := fun _ h => ∃ K : PySem.W.Frag, K.In h ∧ SaysX fa fn ex K ∧ ∀ p ∈ ts, ∃ c t, TabW K h (He.fAd K p) c t
  of := fun w s e => ⟨_, He.frG_in, ⟨congrArg (fun z : AlT => z.1.1) e, congrArg (fun z : AlT => z.1.2) e⟩, fun p hp => by
    have z := List.all_eq_true.mp (congrArg (fun z : AlT => z.2) e) p hp
    obtain ⟨⟨c, t⟩, q⟩ := Option.isSome_iff_exists.mp z
    exact ⟨c, t, tabAt_ok q⟩⟩
  keeps := fun _ _ _ ⟨K, hK, c, T⟩ k => ⟨K, PySem.W.Frag.In.keeps hK k, c, fun p hp => let ⟨c, t, x⟩ := T p hp; ⟨c, t, x.keeps k⟩⟩
theorem obsTG_eq {fa : List He.Fa} {fn : List He.FnD} {ex : List (PySem.W.Frag → Bool)} {ts : List (Str × Option Str)} {g : Addr → Option Obj} {s : Shared} (h : ∀ a, g a = s.heap.get? a) : obsTG fa fn ex ts g = (hookT fa fn ex ts).obs s := by
  have e : g = s.heap.get? := funext h
  rw [e] <;> rfl
/-- what a def that makes lambdas leans on: its code object, and that one's table -/
structure LamT (K : PySem.W.Frag) (mg : Str → Option Value) (base : Heap) (f c t : Addr) : Prop where
  fd : ∃ oc od fd osl, K.lookup f = some ⟨oc, od, .func fd, osl⟩ ∧ fd.code = .ref c
  tb : LamX.TabB base mg c t
section
variable {P : Program} {w : World} {K : PySem.W.Frag} {mg mb : Str → Option Value} {k : Nat} {fa a : Addr} {fd : FuncData} {x : Str} {sp : Sp} {st : Shared} {vs : List Value} {ns : List Int} {cs : List (Addr × Addr)}
theorem law_callGT (KX : K.In st.heap) (n1 : st.heap.Ns mainGlobals mg) (n2 : st.heap.Ns builtinsNs mb) (n3 : ∀ x : Str, x ≠ "__name__" → mb x = bootBuiltins x) (n4 : st.heap.NoLimit) (n5 : st.gens = #[])
    (tn : ∀ q ∈ cs, st.heap.get? q.2 = some (PySem.W.tabObj #[])) (tk : ∀ q ∈ cs, K.lookup q.2 = none) (tc : ∀ q ∈ cs, PySem.W.CodeHd st.heap q.1 q.2)
    (bmn : ∃ (bm : Addr) (ob : Obj), mg "__builtins__" = some (.ref bm) ∧ bm ≠ builtinsNs ∧ st.heap.get? bm = some ob ∧ ob.cls = .type "module" ∧ ob.dict = some builtinsNs ∧ ob.data = .plain)
    (ha : st.heap.get? a = some { cls := .type "list", data := .seq vs.toArray }) (hi : IntsAre vs ns) (hl : ns.length ≤ sizeLine) (hr : Room k callerA)
    (F : ∀ base : Heap, K.In base → base.Ns mainGlobals mg → (∀ q ∈ cs, LamX.TabB base mg q.1 q.2) → FnG P w K mg base CX0 k fa fd [x] sp) (bnd : ∀ (s : Shared) (u : Value), BindsTo s fd ⟨[u], []⟩ [(x, u)])
    (hsp : ∀ H : Hp, (∀ q ∈ cs, H q.2 = some (.tbl #[])) → SqL K H a (ns.map V.int) → sp [.ref a] H (fun v _ => v = .bl true) fun _ _ _ => False) :
    codeAny (model P w) callerA (.call (.ref fa) ⟨[.ref a], []⟩) (fun r s' => r = .ok (.ret (.bool true)) ∧ OldK st.heap s'.heap ∧ s'.os = st.os ∧ AllBare s'.gens) st := by
  have rv := vals_ints hi
  have lv := hi.length
  have tab : ∀ b : Addr, b ∈ cs.map (·.2) → st.heap.get? b = some (PySem.W.tabObj #[]) := fun b hb => by
    obtain ⟨q, hq, rfl⟩ := List.mem_map.mp hb
    exact tn q hq
  have out : ∀ b : Addr, b ∈ cs.map (·.2) → K.lookup b = none := fun b hb => by
    obtain ⟨q, hq, rfl⟩ := List.mem_map.mp hb
    exact tk q hq
  have aOut : a ∉ cs.map (·.2) := fun z => by
    have w1 := tab a z
    rw [ha] at w1
    cases (Option.some.inj w1 : _)
  have key : ∀ H : Hp, (∀ b, b ∈ cs.map (·.2) → H b = some (.tbl #[])) → (∀ b, b ∉ cs.map (·.2) → H b = none ∨ ∃ o xs, H b = some (.frz o (.lst xs))) → SqL K H a (ns.map V.int) → HOk P w H st.heap → (∀ b, b ∉ cs.map (·.2) → H b ≠ none → b = a) → (H a ≠ none → K.lookup a = none) →
      codeAny (model P w) callerA (.call (.ref fa) ⟨[.ref a], []⟩) (fun r s' => r = .ok (.ret (.bool true)) ∧ OldK st.heap s'.heap ∧ s'.os = st.os ∧ AllBare s'.gens) st := by
    intro H hT hO hS hok hA hK
    -- what is neither a list nor an empty table isn't followed
    have free : ∀ {b : Addr} {o : Obj}, st.heap.get? b = some o → (∀ us n, o.data ≠ .seq us n) → o.data ≠ .fields #[] → H b = none := by
      intro b o e h1 h2
      by_cases hb : b ∈ cs.map (·.2)
      · rw [tab b hb] at e
        cases e
        exact absurd rfl h2
      · cases q : H b with
        | none => rfl
        | some u =>
          obtain rfl : b = a := hA b hb (by rw [q]; simp)
          rw [ha] at e
          cases e
          exact absurd rfl (h1 _ _)
    have dic : ∀ {b : Addr} {o : Obj} {es : Array DictEntry} {ep : Nat}, st.heap.get? b = some o → o.data = .dict es ep → H b = none := fun {b o es ep} e d => free e (fun _ _ z => by rw [d] at z; cases z) (fun z => by rw [d] at z; cases z)
    have nsK : ∀ {b : Addr} {m : Str → Option Value}, st.heap.Ns b m → (hidT st.heap H).Ns b m := fun {b m} ⟨o, es, ep, e, d, r⟩ => ⟨o, es, ep, hidT_get e (dic e d), d, r⟩
    have kb : K.In (hidT st.heap H) := fun b o e => hidT_get (KX b o e) (by
      by_cases hb : b ∈ cs.map (·.2)
      · rw [out b hb] at e; cases e
      · cases q : H b with
        | none => rfl
        | some u =>
          obtain rfl : b = a := hA b hb (by rw [q]; simp)
          rw [hK (by rw [q]; simp)] at e
          cases e)
    have TB : ∀ q ∈ cs, LamX.TabB (hidT st.heap H) mg q.1 q.2 := fun q hq => by
      have eq := tn q hq
      obtain ⟨og, es, ep, eg, dg, _⟩ := id n1
      refine ⟨?_, ?_, fun z => by rw [z, eq] at eg; cases eg; cases dg⟩
      · obtain ⟨o, us, file, tf, flags, tg, inF, text, tt, e1, c1, c2, c3, rest⟩ := tc q hq
        refine ⟨o, us, file, tf, flags, tg, inF, text, tt, hidT_get e1 (free e1 (fun _ _ z => by rw [c2] at z; cases z) fun z => ?_), c1, c2, c3, rest⟩
        rw [c2] at z
        cases z
        simp at c3
      · obtain ⟨bm, ob, b1, b2, b3, b4, b5, b6⟩ := bmn
        refine ⟨bm, ob, b1, b2, fun z => ?_, fun z => ?_, hidT_get b3 (free b3 (fun _ _ z => by rw [b6] at z; cases z) fun z => by rw [b6] at z; cases z), b4, b5, b6⟩
        · rw [z, eg] at b3
          cases b3
          rw [dg] at b6
          cases b6
        · rw [z, eq] at b3
          cases b3
          cases b6
    obtain ⟨mc, l1, l2⟩ := n4
    have e0 : Env0 P w K mg (hidT st.heap H) callerA [] st H :=
      ⟨rfl, ⟨kb, nsK n1, ⟨mb, nsK n2, n3⟩, ⟨mc, nsK l1, l2⟩⟩, fun b o e => of_hidT e, Nat.le_of_eq (hidT_size _ _), trivial, fun b hb => absurd (show b ∈ ([] : List Addr) from hb) (by simp), hok, .of_eq n5⟩
    refine codeAny_mono ((F _ kb (nsK n1) TB).goes callerA [] st H ⟨[.ref a], []⟩ [.ref a] [.ref a] _ _ rfl hr e0 (bnd st (.ref a)) (.cons rfl .nil) (hsp H (fun q hq => hT _ (List.mem_map_of_mem hq)) hS)) fun r s' h => ?_
    match r, h with
    | .error _, h => exact False.elim h
    | .ok .next, h => exact False.elim h
    | .ok .brk, h => exact False.elim h
    | .ok .cont, h => exact False.elim h
    | .ok (.ret u), h =>
      obtain ⟨v, H', os, bare, un, hok', r', q⟩ := h
      obtain rfl : v = .bl true := q
      obtain rfl : u = Value.bool true := r'
      have stay : ∀ b o, b ∉ cs.map (·.2) → st.heap.get? b = some o → s'.heap.get? b = some o := fun b o hb e => by
        rcases hO b hb with z | ⟨ob, xs, z⟩
        · exact un.keep b o e z (fun y => absurd (show b ∈ ([] : List Addr) from y) (by simp)) (by simp)
        · have z2 := un.frzs b ob _ z
          obtain ⟨e1, _⟩ := hok b _ z
          obtain ⟨e2, _⟩ := hok' b _ z2
          rw [e] at e1
          cases e1
          exact e2
      have grows : ∀ q ∈ cs, ∃ more : Array Value, s'.heap.get? q.2 = some (PySem.W.tabObj more) := fun q hq => by
        obtain ⟨more, z⟩ := un.tbls q.2 #[] (hT _ (List.mem_map_of_mem hq))
        exact ⟨_, hok' q.2 _ z⟩
      refine ⟨rfl, ⟨fun b o e => ?_, fun b o e => ?_⟩, os, bare⟩
      all_goals by_cases hb : b ∈ cs.map (·.2)
      · obtain ⟨q, hq, rfl⟩ := List.mem_map.mp hb
        obtain ⟨more, hm⟩ := grows q hq
        rw [tn q hq] at e
        cases e
        refine .inr (.inl ⟨((tc q hq).tab (tn q hq)).isCodeTable, rfl, #[], more, rfl, ?_⟩)
        rw [Array.empty_append]
        exact hm
      · exact .inl (stay b o hb e)
      · obtain ⟨q, hq, rfl⟩ := List.mem_map.mp hb
        exact (grows q hq).elim fun more hm => ⟨_, hm⟩
      · exact ⟨o, stay b o hb e⟩
  have tabOk : ∀ {H : Hp} (b : Addr), b ∈ cs.map (·.2) → ObjOk P w H st.heap b (.tbl #[]) := fun {H} b hb => tab b hb
  cases hk : K.lookup a with
  | some o =>
    have e := KX a o hk
    rw [ha] at e
    cases e
    have no : ∀ b, b ∉ cs.map (·.2) → (fun b => if b ∈ cs.map (·.2) then some (HO.tbl #[]) else none : Hp) b = none := fun b hb => if_neg hb
    refine key (fun b => if b ∈ cs.map (·.2) then some (.tbl #[]) else none) (fun b hb => if_pos hb) (fun b hb => .inl (no b hb)) (.inr ⟨_, vs.toArray, _, hk, rfl, rfl, rfl, by rw [List.size_toArray, lv]; exact hl, by simpa using rv⟩)
      (fun b u z => ?_) (fun b hb z => absurd (no b hb) z) fun z => absurd (no a aOut) z
    by_cases hb : b ∈ cs.map (·.2)
    · cases (if_pos hb).symm.trans z
      exact tabOk b hb
    · cases (no b hb).symm.trans z
  | none =>
    refine key (fun b => if b ∈ cs.map (·.2) then some (.tbl #[]) else if b = a then some (.frz { cls := .type "list", data := .seq vs.toArray } (.lst (ns.map V.int))) else none) (fun b hb => if_pos hb) (fun b hb => ?_) (.inl (.inr ⟨{ cls := .type "list", data := .seq vs.toArray }, (if_neg aOut).trans (if_pos rfl)⟩)) (fun b u z => ?_) (fun b hb z => ?_) fun _ => hk
    · by_cases hc : b = a
      · exact .inr ⟨_, _, (if_neg hb).trans (if_pos hc)⟩
      · exact .inl ((if_neg hb).trans (if_neg hc))
    · by_cases hb : b ∈ cs.map (·.2)
      · cases (if_pos hb).symm.trans z
        exact tabOk b hb
      · by_cases hc : b = a
        · cases ((if_neg hb).trans (if_pos hc)).symm.trans z
          subst hc
          exact ⟨ha, by rw [List.length_map]; exact hl, vs, _, rv, ha⟩
        · cases ((if_neg hb).trans (if_neg hc)).symm.trans z
    · exact Classical.byContradiction fun hc => z ((if_neg hb).trans (if_neg hc))
end
theorem walk_GT {l : PySem.W.OpenLaw} {n k : Nat} {q : Program} {loose : List Str} {XP : (Str → Option Value) → Heap → Prop} {YP : World → Heap → Prop} {d : DefRec} {x : Str}
    (hn : l.most = some n) (hn2 : n ≤ sizeLine) (hdf : d.params.defaults = []) (hr : Room k callerA)
    (F : ∀ (w : World) (mg : Str → Option Value) (fa : Addr) (h : Heap), YP w h → h.Ns mainGlobals mg → mg d.name = some (.ref fa) →
      ∃ (K : PySem.W.Frag) (fd : FuncData) (sp : Sp) (cs : List (Addr × Addr)), K.In h ∧ (∀ q ∈ cs, h.get? q.2 = some (PySem.W.tabObj #[])) ∧ (∀ q ∈ cs, K.lookup q.2 = none) ∧ (∀ q ∈ cs, PySem.W.CodeHd h q.1 q.2) ∧ (∀ (s : Shared) (u : Value), BindsTo s fd ⟨[u], []⟩ [(x, u)]) ∧
        (∀ (H : Hp) (a : Addr) (ns : List Int), ns.length ≤ n → (∀ q ∈ cs, H q.2 = some (.tbl #[])) → SqL K H a (ns.map V.int) → sp [.ref a] H (fun v _ => v = .bl true) fun _ _ _ => False) ∧
        ∀ base : Heap, K.In base → base.Ns mainGlobals mg → (∀ q ∈ cs, LamX.TabB base mg q.1 q.2) → FnG l.prog w K mg base CX0 k fa fd [x] sp) :
    PySem.W.WalkO q loose XP YP l.row.toRowW d [] (fun f vs => PySem.call f vs) := by
  refine Att.attach_call hn hdf fun w s₀ st mg mb fa o pm cd doc a vs ns G Y ho hd hcd hmg hobj hints hlen hg => ?_
  obtain ⟨K, fd, sp, cs, KX, t1, t2, t3, hb, hsp, hF⟩ := F w mg fa _ Y G.T.g hmg
  exact law_callGT KX G.T.g G.T.b G.T.builtins G.T.nolimit hg t1 t2 t3 G.T.bmain hobj hints (Nat.le_trans hlen hn2) hr hF hb fun H hH hS => hsp H a ns hlen hH hS
/-- as okG, of a def whose code object is known -/
theorem okGC {P : Program} {w : World} {K : PySem.W.Frag} {mg : Str → Option Value} {base : Heap} {k : Nat} {f c t : Addr} {fd : FuncData} {N ps : List Str} {sp : Sp} {x qual : Str} {st : Stmt} (L : LamT K mg base f c t)
    (F : Fun K x qual st f fd) (S : FnScope N ps (defScope st)) (len : ∀ vs H Q E, sp vs H Q E → vs.length = ps.length)
    (body : ∀ (A : Around) (outer : List Env) (s : Shared) (H : Hp) (vs : List V) (Q : VK) (E : XK), A.guards = some [] → Room k (A.deeper (envOfC qual (defScope st) s.heap.objs.size f (.ref c))) → sp vs H Q E →
      ∃ t, PSs (cxOf CX0 P w K mg base N qual (defScope st) f (.ref c) A outer s H E).nox (defBody st) t ∧ t { nx := fun _ H' => Q .non H', rt := Q } (start N vs) H) : FnG P w K mg base CX0 (k + 1) f fd ps sp := by
  obtain ⟨oc, od, kV, doc, pm, an, cdv, ct, osl, rfl, lk, hcd⟩ := F.ex
  obtain rfl : cdv = .ref c := by
    obtain ⟨oc', od', fd', osl', lk', ec⟩ := L.fd
    rw [lk] at lk'
    cases lk'
    exact ec
  refine ⟨len, fun A outer s H args us vs Q E gd hr e0 hb r hsp => ?_⟩
  have KX : K.In s.heap := e0.mod.kin.keeps fun b o z => (e0.bs b o z).1
  have lim : s.heap.NoLimit := e0.mod.nolimit.keeps fun b o z => (e0.bs b o z).1
  have kinds : ∀ y ∈ ps.zip us, (defScope st).names.lookup y.1 = some .local ∨ ((defScope st).names.lookup y.1 = some .cell ∧ ((cellsFrom (s.heap.objs.size + 1) (defScope st).names []).lookup y.1).isSome = true) := by
    rintro ⟨n, v⟩ hy
    exact (S.par n (List.of_mem_zip hy).1).imp id fun q => ⟨q, PySem.W.cellsFrom_some _ _ _ (.inl q)⟩
  refine codeAny_call_function hr.depth (KX _ _ lk) rfl S.co S.gen rfl (PySem.W.codeRec_of KX hcd) (hb _ _ _ _ (wpAny_newFunctionEnv_cells S.kind kinds fun env he s1 z => ?_))
  subst he
  refine ⟨lim.keeps z.toInCall.keep, codeAny_func ?_⟩
  obtain ⟨t, ht, hq⟩ := body A outer s H vs Q E gd (hr.deeper _) hsp
  have I : Inv (cxOf CX0 P w K mg base N qual (defScope st) f (.ref c) A outer s H E) [] (start N vs) H s1 := inv_start S hr.hd e0 (len _ _ _ _ hsp) r z
  refine wpAny_mono (ht.nox.run [] s1 (start N vs) H _ I hq) (fun fl s' hs => ?_) fun e s' hs => hs
  cases fl with
  | ret u =>
    obtain ⟨v, σ', H', J, rv, q⟩ := hs
    exact ⟨v, H', J.os, J.bare, J.base, J.hok, rv, q⟩
  | next =>
    obtain ⟨σ', H', J, q⟩ := hs
    exact ⟨V.non, H', J.os, J.bare, J.base, J.hok, rfl, q⟩
  | brk => exact hs.elim fun _ z => z.elim fun _ y => False.elim y.2
  | cont => exact hs.elim fun _ z => z.elim fun _ y => False.elim y.2
end RV
set_option maxHeartbeats 4000000
namespace K43
open PySem PySem.Spec PyProof.Rows L2 RV
def hdFn1 : List He.FnD := [⟨("is_whole", none), "is_whole", "is_whole", defArgs sWhole, defBody sWhole, defScope sWhole⟩, ⟨("is_below", none), "is_below", "is_below", defArgs sMark, defBody sMark, defScope sMark⟩, ⟨("are_marks", none), "are_marks", "are_marks", defArgs sMarks, defBody sMarks, defScope sMarks⟩, ⟨("are_mirrors", none), "are_mirrors", "are_mirrors", defArgs sMirrors, defBody sMirrors, defScope sMirrors⟩, ⟨("are_steps", none), "are_steps", "are_steps", defArgs sSteps, defBody sSteps, defScope sSteps⟩, ⟨("is_step", none), "is_step", "is_step", defArgs sStep, defBody sStep, defScope sStep⟩, ⟨("is_rising", none), "is_rising", "is_rising", defArgs sRising, defBody sRising, defScope sRising⟩, ⟨("marks_behind", none), "marks_behind", "marks_behind", defArgs sBehind, defBody sBehind, defScope sBehind⟩, ⟨("either", none), "either", "either", defArgs sEither, defBody sEither, defScope sEither⟩, ⟨("both", none), "both", "both", defArgs sBoth, defBody sBoth, defScope sBoth⟩, ⟨("check_marks", none), "check_marks", "check_marks", defArgs sCheckM, defBody sCheckM, defScope sCheckM⟩, ⟨("_law_hand", none), "_law_hand", "_law_hand", defArgs sHand, defBody sHand, defScope sHand⟩, ⟨("_law_take", none), "_law_take", "_law_take", defArgs sDraw, defBody sDraw, defScope sDraw⟩, ⟨("_law_closed", none), "_law_closed", "_law_closed", defArgs sClosed, defBody sClosed, defScope sClosed⟩, ⟨("_law_mirrors", none), "_law_mirrors", "_law_mirrors", defArgs sDMirrors, defBody sDMirrors, defScope sDMirrors⟩, ⟨("_law_rule", none), "_law_rule", "_law_rule", defArgs sRule, defBody sRule, defScope sRule⟩, ⟨("_law_made", none), "_law_made", "_law_made", defArgs sMade, defBody sMade, defScope sMade⟩, ⟨("_law_either", none), "_law_either", "_law_either", defArgs sLEither, defBody sLEither, defScope sLEither⟩, ⟨("_law_both", none), "_law_both", "_law_both", defArgs sLBoth, defBody sLBoth, defScope sLBoth⟩, ⟨("_law_told", none), "_law_told", "_law_told", defArgs sLTold, defBody sLTold, defScope sLTold⟩, ⟨("_law_due", none), "_law_due", "_law_due", defArgs sDue, defBody sDue, defScope sDue⟩, ⟨("_law_right", none), "_law_right", "_law_right", defArgs sRight, defBody sRight, defScope sRight⟩, ⟨("law", none), "law", "law", defArgs sLaw, defBody sLaw, defScope sLaw⟩, ⟨("Rule", some "__init__"), "__init__", "Rule.__init__", defArgs sInit, defBody sInit, defScope sInit⟩, ⟨("Rule", some "marks"), "marks", "Rule.marks", defArgs sMarksM, defBody sMarksM, defScope sMarksM⟩, ⟨("Rule", some "mirror"), "mirror", "Rule.mirror", defArgs sMirrorM, defBody sMirrorM, defScope sMirrorM⟩, ⟨("Rule", some "behind"), "behind", "Rule.behind", defArgs sBehindM, defBody sBehindM, defScope sBehindM⟩]
def hdFn : List He.FnD := hdFn1
def hdFa1 : List He.Fa := [.glo "is_whole", .keep "is_whole", .glo "is_below", .keep "is_below", .glo "are_marks", .keep "are_marks", .glo "are_mirrors", .keep "are_mirrors", .glo "are_steps", .keep "are_steps", .glo "is_step", .keep "is_step", .glo "is_rising", .keep "is_rising", .glo "marks_behind", .keep "marks_behind", .glo "either", .keep "either", .glo "both", .keep "both", .glo "check_marks", .keep "check_marks", .glo "_law_hand", .keep "_law_hand", .glo "_law_take", .keep "_law_take", .glo "_law_closed", .keep "_law_closed", .glo "_law_mirrors", .keep "_law_mirrors"]
def hdFa2 : List He.Fa := [.glo "_law_rule", .keep "_law_rule", .glo "_law_made", .keep "_law_made", .glo "_law_either", .keep "_law_either", .glo "_law_both", .keep "_law_both", .glo "_law_told", .keep "_law_told", .glo "_law_due", .keep "_law_due", .glo "_law_right", .keep "_law_right", .glo "law", .keep "law", .meth "Rule" "__init__", .meth "Rule" "marks", .meth "Rule" "mirror", .meth "Rule" "behind"]
def hdFa : List He.Fa := hdFa1 ++ (hdFa2)
def hdEx1 : List (PySem.W.Frag → Bool) := [fun K => decide (PySem.W.plainGet K (He.ga K "Rule") Str.empty = true), fun K => decide (PySem.W.hasDictIn K (He.ga K "Rule") = true), fun K => decide (PySem.W.plainOver K (He.ga K "Rule") = true), fun K => decide (PySem.W.findIn K (.ref (He.ga K "Rule")) "__setattr__" = some (some (.builtin "object.__setattr__"))), fun K => decide (PySem.W.makesIn K (He.ga K "Rule") = true), fun K => decide (PySem.W.keepIn K (.ref (He.ga K "Rule")) = true), fun K => decide (PySem.W.findIn K (.ref (He.ga K "Rule")) "mirrors" = some none), fun K => decide (PySem.W.findIn K (.ref (He.ga K "Rule")) "steps" = some none), fun K => decide (PySem.W.findIn K (.ref (He.ga K "Rule")) "followers" = some none), fun K => decide (PySem.W.findIn K (.ref (He.ga K "Rule")) "__class__" = some (some (.builtin "object.__class__"))), fun K => decide (PySem.W.specialIn K (.builtin "object.__class__") "__get__" = some (some (.builtin "getset_descriptor.__get__"))), fun K => decide (PySem.W.takesIn K (.builtin "object.__class__") = some true), fun K => decide (PySem.W.mroIn K (He.ga K "Rule") (.type "object") = some true), RV.intX "MOST_MARKS" (8), fun K => decide (PySem.W.excIn K (He.ga K "TooMany") [.type "ValueError", .type "Exception", .type "BaseException", .type "object"] "ValueError.__new__" = true), fun K => decide (PySem.W.keepIn K (.ref (He.ga K "TooMany")) = true), fun K => decide (PySem.W.subIn K (.ref (He.ga K "TooMany")) (.type "BaseException") = some true), fun K => decide (PySem.W.typeIn K (.ref (He.ga K "TooMany")) = some (.type "type")), fun K => decide (PySem.W.findIn K (.ref (He.ga K "TooMany")) "__getattribute__" = some (some (.builtin "BaseException.__getattribute__"))), fun K => decide (PySem.W.findIn K (.ref (He.ga K "TooMany")) "__getattr__" = some none), fun K => decide (PySem.W.hasDictIn K (He.ga K "TooMany") = true), fun K => decide (PySem.W.findIn K (.ref (He.ga K "TooMany")) "__class__" = some (some (.builtin "object.__class__"))), fun K => decide (PySem.W.mroIn K (He.ga K "TooMany") (.type "object") = some true), fun K => decide (PySem.W.exmOne K (.ref (He.ga K "TooMany")) (.ref (He.ga K "RingError")) = some true), fun K => decide (PySem.W.kitOne K (.ref (He.ga K "TooMany")) (.ref (He.ga K "TooMany")) = some true), fun K => decide (PySem.W.kitOne K (.ref (He.ga K "TooMany")) (.ref (He.ga K "NoRule")) = some false), fun K => decide (PySem.W.kitOne K (.ref (He.ga K "TooMany")) (.ref (He.ga K "TooFar")) = some false), fun K => decide (PySem.W.nsIn K mainGlobals "len" = some none), fun K => decide (PySem.W.nsIn K mainGlobals "isinstance" = some none), fun K => decide (PySem.W.nsIn K mainGlobals "int" = some none)]
def hdEx2 : List (PySem.W.Frag → Bool) := [fun K => decide (PySem.W.nsIn K mainGlobals "bool" = some none), fun K => decide (PySem.W.nsIn K mainGlobals "tuple" = some none), fun K => decide (PySem.W.nsIn K mainGlobals "all" = some none), fun K => decide (PySem.W.nsIn K mainGlobals "enumerate" = some none), fun K => decide (PySem.W.nsIn K mainGlobals "zip" = some none), fun K => decide (PySem.W.nsIn K mainGlobals "range" = some none), fun K => decide (PySem.W.nsIn K mainGlobals "list" = some none), fun K => decide (PySem.W.nsIn K mainGlobals "set" = some none), fun K => decide (PySem.W.nsIn K mainGlobals "sorted" = some none), fun K => decide (PySem.W.nsIn K mainGlobals "abs" = some none), fun K => decide (PySem.W.nsIn K mainGlobals "max" = some none), fun K => decide (PySem.W.nsIn K mainGlobals "min" = some none), fun K => decide (PySem.W.nsIn K mainGlobals "repr" = some none), fun K => decide (PySem.W.nsIn K mainGlobals "dict" = some none), fun K => decide (PySem.W.nsIn K mainGlobals "any" = some none), fun K => decide (PySem.W.nsIn K mainGlobals "str" = some none), fun K => decide (PySem.W.nsIn K mainGlobals "Rule" = some (some (.ref (He.ga K "Rule")))), fun K => decide (PySem.W.nsIn K mainGlobals "TooMany" = some (some (.ref (He.ga K "TooMany")))), fun K => decide (PySem.W.nsIn K mainGlobals "RingError" = some (some (.ref (He.ga K "RingError")))), fun K => decide (PySem.W.nsIn K mainGlobals "NoRule" = some (some (.ref (He.ga K "NoRule")))), fun K => decide (PySem.W.nsIn K mainGlobals "TooFar" = some (some (.ref (He.ga K "TooFar"))))]
def hdEx : List (PySem.W.Frag → Bool) := hdEx1 ++ (hdEx2)
def hdLoose1 : List Str := ["RingError", "ValueError", "NoRule", "TooMany", "TooFar", "is_whole", "is_below", "are_marks", "MOST_MARKS", "Rule", "are_mirrors", "are_steps", "is_step", "is_rising", "marks_behind", "either", "both", "check_marks", "_law_hand", "_law_take", "_law_closed", "_law_mirrors", "_law_rule", "_law_made", "_law_either", "_law_both", "_law_told", "_law_due", "_law_right"]
def hdLoose : List Str := hdLoose1
abbrev hdR : PySem.W.OpenRow := PySem.W.OpenLaw.row PySem.Challenge.rw_ringvouch_k43_rules_put_together
abbrev hdV : Program := PySem.W.view hdR.prog [33]
def hdTs : List (Str × Option Str) := [("_law_right", none)]
abbrev hdK : PySem.W.Hook := RV.hookT hdFa hdFn hdEx hdTs
def hdOb (s : PySem.W.SharedT) : RV.AlT := RV.obsTG hdFa hdFn hdEx hdTs (HandSHeadRun.getT s)
theorem hdOb_eq (s : PySem.W.SharedT) : hdOb s = hdK.obs s.abs := RV.obsTG_eq (HandSHeadRun.getT_eq s)
set_option maxHeartbeats 0 in
theorem hdRun (w : World) : HandSHeadRun.RunEq hdR hdV hdK hdOb 20000 hdLoose w := by
  intro os
  kernel_rfl
end K43
section
open PySem PySem.W PySem.Calls PyProof.Rows
set_option maxRecDepth 100000 in
set_option maxHeartbeats 0 in
theorem K43.hdHolds (hc : PySem.W.WalkO K43.hdV K43.hdLoose (XL K43.hdV []) K43.hdK.says K43.hdR.toRowW (HandSHeadRun.topDef K43.hdR.prog 33) [] fun f vs => PySem.call f vs) : PySem.Challenge.rw_ringvouch_k43_rules_put_together.Holds := by
  w_on; o_law
  refine HandSHeadRun.head_any (r := K43.hdR) (q := K43.hdV) (H := K43.hdK) (ob := K43.hdOb) (M := 20000) (loose := K43.hdLoose) (d := HandSHeadRun.topDef K43.hdR.prog 33) (kwd := []) K43.hdOb_eq
    (by kernel_rfl) (fun s => by kernel_rfl) K43.hdRun (by kernel_rfl) (by kernel_rfl) (by kernel_rfl) (by rfl) (by first | assumption | decide +kernel) (by decide +kernel) ⟨rfl, rfl, rfl, rfl, rfl, by decide +kernel⟩ ?hw hc
  case hw => w_witness2
theorem K43.hdName : (HandSHeadRun.topDef K43.hdR.prog 33).name = ("law" : PySem.Str) := by kernel_rfl
end
namespace RV
open PySem L2
/-! ### lists that rise -/
theorem sorted_eq {α : Type} {f : α → Int} : ∀ {l l' : List α}, l.Pairwise (fun a b => f a < f b) → l'.Pairwise (fun a b => f a < f b) → (∀ x, x ∈ l ↔ x ∈ l') → l = l'
  | [], [], _, _, _ => rfl
  | [], y :: r, _, _, h => nomatch (h y).mpr (List.mem_cons_self ..)
  | x :: r, [], _, _, h => nomatch (h x).mp (List.mem_cons_self ..)
  | x :: l, y :: l', h1, h2, h => by
    rw [List.pairwise_cons] at h1 h2
    have exy : x = y := by
      rcases List.mem_cons.mp ((h x).mp (List.mem_cons_self ..)) with e | e
      · exact e
      · rcases List.mem_cons.mp ((h y).mpr (List.mem_cons_self ..)) with e' | e'
        · exact e'.symm
        · have := h2.1 x e
          have := h1.1 y e'
          omega
    subst exy
    rw [sorted_eq h1.2 h2.2 fun z => ⟨fun hz => ?_, fun hz => ?_⟩]
    · rcases List.mem_cons.mp ((h z).mp (List.mem_cons_of_mem _ hz)) with e | e
      · have := h1.1 z hz
        rw [e] at this; omega
      · exact e
    · rcases List.mem_cons.mp ((h z).mpr (List.mem_cons_of_mem _ hz)) with e | e
      · have := h2.1 z hz
        rw [e] at this; omega
      · exact e
theorem nodup_le {α : Type} [DecidableEq α] : ∀ {l us : List α}, l.Nodup → (∀ x ∈ l, x ∈ us) → l.length ≤ us.length
  | [], _, _, _ => Nat.zero_le _
  | x :: l, us, h, hs => by
    rw [List.nodup_cons] at h
    have hx := hs x (List.mem_cons_self ..)
    have ih : l.length ≤ (us.erase x).length := nodup_le h.2 fun z hz => by
      refine (List.mem_erase_of_ne fun e => ?_).mpr (hs z (List.mem_cons_of_mem _ hz))
      subst e; exact h.1 hz
    have hl := List.length_erase_of_mem hx
    have hp : 0 < us.length := List.length_pos_of_mem hx
    rw [List.length_cons]; omega
/-! ### pairs -/
/-- a pair of marks below b -/
def Pr (b : Int) (p : List Int) : Prop := ∃ x y : Int, p = [x, y] ∧ (0 ≤ x ∧ x < b) ∧ (0 ≤ y ∧ y < b)
abbrev cd (p : List Int) : Int := TS.code 64 p
theorem cd_pair (x y : Int) : cd [x, y] = x * 64 + y := code_pair x y
theorem lt_lex {p q : List Int} (hp : Pr 64 p) (hq : Pr 64 q) (h : cd p < cd q) : HT.lexLt p q = true := by
  obtain ⟨x, y, rfl, hx, hy⟩ := hp
  obtain ⟨x', y', rfl, hx', hy'⟩ := hq
  rw [cd_pair, cd_pair] at h
  rw [HT.lexLt_cons, HT.lexLt_cons, HT.lexLt_nil_nil]
  by_cases e : x = x'
  · rw [if_pos e]
    have : y < y' := by omega
    rw [if_neg (by omega)]; exact decide_eq_true this
  · rw [if_neg e]; exact decide_eq_true (by omega)
theorem lt_of {p q : List Int} (hp : Pr 64 p) (hq : Pr 64 q) (h : cd p ≤ cd q) (ne : p ≠ q) : cd p < cd q := by
  obtain ⟨x, y, rfl, hx, hy⟩ := hp
  obtain ⟨x', y', rfl, hx', hy'⟩ := hq
  have z := pair_lt h ne hx hy hx' hy'
  rw [cd_pair, cd_pair]
  omega
theorem Pr.mono {b c : Int} {p : List Int} (h : Pr b p) (hbc : b ≤ c) : Pr c p := by
  obtain ⟨x, y, e, hx, hy⟩ := h
  exact ⟨x, y, e, by omega, by omega⟩
theorem sorted_lt {l : List (List Int)} (hb : ∀ p ∈ l, Pr 64 p) (nd : l.Nodup) (h : l.Pairwise fun p q => cd p ≤ cd q) : l.Pairwise fun p q => cd p < cd q := by
  have h2 := List.Pairwise.and h nd
  exact List.Pairwise.imp_of_mem (fun {p q} hp hq z => lt_of (hb p hp) (hb q hq) z.1 z.2) h2
theorem adj_rise {l : List (List Int)} (hb : ∀ p ∈ l, Pr 64 p) (h : l.Pairwise fun p q => cd p < cd q) (i : Nat) (p q : List Int) (h1 : l[i]? = some p) (h2 : l[i + 1]? = some q) : HT.lexLt p q = true := by
  obtain ⟨l1, e1⟩ := List.getElem?_eq_some_iff.mp h1
  obtain ⟨l2, e2⟩ := List.getElem?_eq_some_iff.mp h2
  have := List.pairwise_iff_getElem.mp h i (i + 1) l1 l2 (Nat.lt_succ_self _)
  rw [e1, e2] at this
  exact lt_lex (hb p (List.mem_of_getElem? h1)) (hb q (List.mem_of_getElem? h2)) this
/-! ### all pairs, row by row -/
def rowOf (d : Int) (Pd : Int → Int → Bool) (i n : Nat) : List (List Int) := ((List.range n).filter fun (j : Nat) => Pd (i : Int) (j : Int)).map fun (j : Nat) => [d + (i : Int), d + (j : Int)]
def gridOf (d : Int) (Pd : Int → Int → Bool) (m n : Nat) : List (List Int) := (List.range n).flatMap fun (i : Nat) => rowOf d Pd i m
theorem row_next (d : Int) (Pd : Int → Int → Bool) (i n : Nat) : rowOf d Pd i (n + 1) = rowOf d Pd i n ++ (if Pd (i : Int) (n : Int) = true then [[d + (i : Int), d + (n : Int)]] else []) := by
  unfold rowOf
  rw [List.range_succ, List.filter_append, List.map_append]
  by_cases h : Pd (i : Int) (n : Int) = true <;> simp [h]
theorem grid_next (d : Int) (Pd : Int → Int → Bool) (m n : Nat) : gridOf d Pd m (n + 1) = gridOf d Pd m n ++ rowOf d Pd n m := by
  unfold gridOf
  rw [List.range_succ, List.flatMap_append]; simp
theorem row_len (d : Int) (Pd : Int → Int → Bool) (i n : Nat) : (rowOf d Pd i n).length ≤ n := by
  unfold rowOf
  rw [List.length_map]
  exact Nat.le_trans (List.length_filter_le _ _) (by rw [List.length_range]; exact Nat.le_refl _)
theorem grid_len (d : Int) (Pd : Int → Int → Bool) (m : Nat) : ∀ n, (gridOf d Pd m n).length ≤ n * m
  | 0 => by simp [gridOf]
  | n + 1 => by
    have h := grid_len d Pd m n
    have h2 := row_len d Pd n m
    rw [grid_next, List.length_append, Nat.succ_mul]; omega
theorem mem_row {d : Int} {Pd : Int → Int → Bool} {i n : Nat} {p : List Int} : p ∈ rowOf d Pd i n ↔ ∃ j : Nat, j < n ∧ Pd (i : Int) (j : Int) = true ∧ p = [d + (i : Int), d + (j : Int)] := by
  unfold rowOf
  rw [List.mem_map]
  constructor
  · rintro ⟨j, hj, e⟩
    rw [List.mem_filter, List.mem_range] at hj
    exact ⟨j, hj.1, hj.2, e.symm⟩
  · rintro ⟨j, h1, h2, e⟩
    exact ⟨j, List.mem_filter.mpr ⟨List.mem_range.mpr h1, h2⟩, e.symm⟩
theorem mem_grid {d : Int} {Pd : Int → Int → Bool} {m n : Nat} {p : List Int} : p ∈ gridOf d Pd m n ↔ ∃ i j : Nat, i < n ∧ j < m ∧ Pd (i : Int) (j : Int) = true ∧ p = [d + (i : Int), d + (j : Int)] := by
  unfold gridOf
  rw [List.mem_flatMap]
  constructor
  · rintro ⟨i, hi, hp⟩
    obtain ⟨j, h1, h2, h3⟩ := mem_row.mp hp
    exact ⟨i, j, List.mem_range.mp hi, h1, h2, h3⟩
  · rintro ⟨i, j, h1, h2, h3, h4⟩
    exact ⟨i, List.mem_range.mpr h1, mem_row.mpr ⟨j, h2, h3, h4⟩⟩
theorem grid_rise {d : Int} {Pd : Int → Int → Bool} {m n : Nat} (hd : 0 ≤ d) (hm : d + (m : Int) ≤ 64) : (gridOf d Pd m n).Pairwise fun p q => cd p < cd q := by
  unfold gridOf
  rw [List.pairwise_flatMap]
  refine ⟨fun i _ => ?_, ?_⟩
  · unfold rowOf
    rw [List.pairwise_map]
    refine List.Pairwise.imp (fun {a b} (h : a < b) => ?_) (List.Pairwise.filter _ List.pairwise_lt_range)
    rw [cd_pair, cd_pair]; omega
  · refine List.Pairwise.imp (fun {a b} (h : a < b) x hx y hy => ?_) List.pairwise_lt_range
    obtain ⟨j, h1, _, rfl⟩ := mem_row.mp hx
    obtain ⟨k, h2, _, rfl⟩ := mem_row.mp hy
    rw [cd_pair, cd_pair]; omega
theorem grid_pr {d : Int} {Pd : Int → Int → Bool} {m n : Nat} {b : Int} (hd : 0 ≤ d) (hm : d + (m : Int) ≤ b) (hn : d + (n : Int) ≤ b) : ∀ p ∈ gridOf d Pd m n, Pr b p := by
  intro p hp
  obtain ⟨i, j, h1, h2, _, rfl⟩ := mem_grid.mp hp
  exact ⟨_, _, rfl, by omega, by omega⟩
end RV
set_option maxHeartbeats 4000000
namespace K43
open PySem PySem.Spec PyProof.Rows L2 RV
/-- mirrors of one to eight marks -/
structure Mir (ns : List Int) : Prop where
  pos : 0 < ns.length
  few : ns.length ≤ 8
  inn : ∀ i ∈ ns, 0 ≤ i ∧ i < (ns.length : Int)
  back : ∀ (k : Nat) (m : Int), ns[k]? = some m → ns[m.toNat]? = some (k : Int)
/-- a rising tuple of steps, with their mirror steps -/
structure Stp (ns : List Int) (ps : List (List Int)) : Prop where
  few : ps.length ≤ 64
  pair : ∀ p ∈ ps, ∃ x y : Int, p = [x, y] ∧ (0 ≤ x ∧ x < (ns.length : Int)) ∧ (0 ≤ y ∧ y < (ns.length : Int))
  rise : ∀ (i : Nat) (p q : List Int), ps[i]? = some p → ps[i + 1]? = some q → HT.lexLt p q = true
  mirr : ∀ x y mx my : Int, [x, y] ∈ ps → ns[x.toNat]? = some mx → ns[y.toNat]? = some my → [my, mx] ∈ ps
  nd : ps.Nodup
section
variable {P : Program} {w : World} {K : PySem.W.Frag} {mg : Str → Option Value} {base : Heap}
/-! ### are_mirrors -/
theorem scMirrors : FnScope ["thing", "mark", "mirror"] ["thing"] (defScope sMirrors) := ⟨rfl, rfl, rfl, by decide +kernel, rfl, by decide +kernel, by decide +kernel⟩
def spMirrors (K : PySem.W.Frag) : Sp := fun vs H Q _ => ∃ (a : Addr) (ns : List Int), vs = [.ref a] ∧ SqT K H a (ns.map V.int) ∧ Mir ns ∧ ∀ H', Same H H' → Q (.bl true) H'
theorem ok_mirrors {f fA : Addr} {fd fdA : FuncData} {t : Tok} (F : Fun K "are_mirrors" "are_mirrors" sMirrors f fd) (DA : DefAt K mg "are_marks" sMarks ["thing", "many"] fA fdA) (GA : FnOk P w K mg base CX0 3 fA fdA ["thing", "many"] (spMarks K)) (B : Bare mg)
    (mM : mg "MOST_MARKS" = some (.int 8 t)) : FnOk P w K mg base CX0 4 f fd ["thing"] (spMirrors K) := by
  refine F.ok scMirrors (fun vs H Q E h => ?_) (fun cdv A outer s H vs Q E hr h => ?_)
  · obtain ⟨a, ns, rfl, _⟩ := h
    rfl
  · obtain ⟨a, ns, rfl, hT, hM, q⟩ := h
    refine ⟨_, pss_cons (ps_if (PW.pt (pw_or (pt_not (pt_val (pe_callB call_isi (by rfl) B.isinstance (by decide +kernel) (pa_cons (pv 0) (pa_cons (pe_bltn (v := .ty "tuple") (by rfl) B.tuple (by decide +kernel) rfl) pa_nil)))))
        (pw_or1 (pt_cmpR op_gt (pe_callB call_len_seq (by rfl) B.len PySem.boot_len (pa_cons (pv 0) pa_nil)) (pe_glob (v := .int 8) rfl mM ⟨_, rfl⟩) (nomark _))))) (pss_one (ps_ret pe_bl)) pss_nil)
      (pss_cons (ps_if (pt_not (pt_val (pe_call GA hr (by rfl) DA.mg DA.fn.kp DA.bi .nil pass0 (pa_cons (pv 0) (pa_cons (pe_callB call_len_seq (by rfl) B.len PySem.boot_len (pa_cons (pv 0) pa_nil)) pa_nil))))) (pss_one (ps_ret pe_bl)) pss_nil)
      (pss_one (ps_ret (pe_callB (cr_all rfl) (by rfl) B.all (by decide +kernel) (pa_cons
        (pe_lc (own := [("mark", 1), ("mirror", 2)]) (g := gTup K 2 (gCons (gName 1) (gCons (gName 2) gNil))) (tt := tYes) rfl scMirrors.nd (pi_enT (by rfl) B.enumerate (pa_cons (pv 0) pa_nil)) (blkOk_by (N := ["thing", "mark", "mirror"]) (sc := defScope sMirrors) (by decide +kernel))
          (fun _ _ _ _ _ => pg_tupK rfl rfl (pgs_cons (pg_name (i := 1) scMirrors.nd rfl (Or.inl rfl)) (pgs_cons (pg_name (i := 2) scMirrors.nd rfl (Or.inl rfl)) pgs_nil))) (fun _ _ _ _ _ => pts_nil)
          (fun _ _ _ _ _ => pe_cmpR op_eq (pe_ix (ix_tupK (K := K) rfl) (pv 0) (pv 2) (fun _ _ => rfl)) (pv 1) (nomark _))) pa_nil))))), ?_⟩
    refine ⟨.ref a, rfl, .ref a, .ty "tuple", _, _, true, rfl, .ty "tuple", tyT hT, kit_ty (by decide +kernel), true, rfl, iteF ?_⟩
    refine ⟨.ref a, rfl, a, _, rfl, .inr hT, _, _, rfl, rfl, decide (((ns.map V.int).length : Int) > 8), rfl, ?_⟩
    have h8 := hM.few
    rw [decide_eq_false (show ¬ ((ns.map V.int).length : Int) > 8 by rw [List.length_map]; omega)]
    refine iteF ?_
    refine ⟨.ref a, rfl, .ref a, rfl, a, _, rfl, .inr hT, a, ns, _, rfl, hT, hM.pos, by omega, fun i hi => ?_, fun H1 s1 => ⟨true, rfl, iteF ?_⟩⟩
    · rw [List.length_map]; exact hM.inn i hi
    · refine ⟨.ref a, rfl, a, _, rfl, sqT_same s1 hT, fun D nD => ?_⟩
      refine lc_it (walk_enT (K := K) (a := a) (xs := ns.map V.int)) (fun i H' => Same H1 H' ∧ H' D = some (.lst (List.replicate i (V.bl true)))) ⟨same_upd nD, upd_same⟩ (fun i H' _ p => sqT_same p.1 (sqT_same s1 hT)) (fun i x H2 H3 hi p y => ?_) fun H' p => ?_
      · obtain ⟨T, x1, x2, rfl, nT, rfl, e1, e2⟩ := y
        have e1' : x1 = .int (i : Nat) := (Option.some.inj e1).symm
        subst e1'
        obtain ⟨m, hm, rfl⟩ := map_at e2
        have hin := hM.inn m (List.mem_of_getElem? hm)
        have hil : i < ns.length := (List.getElem?_eq_some_iff.mp hm).1
        have hDT : D ≠ T := ne_of_none p.2 nT
        have sT : Same H2 (upd H2 T (.tup [.int (i : Nat), .int m])) := same_upd nT
        have hA : SqT K (upd H2 T (.tup [.int (i : Nat), .int m])) a (ns.map V.int) := sqT_same sT (sqT_same p.1 (sqT_same s1 hT))
        have gm : (ns.map V.int)[m.toNat]? = some (.int (i : Nat)) := by
          rw [List.getElem?_map, hM.back i m hm]; rfl
        refine ⟨T, _, rfl, tupNew upd_same, rfl, _, _, rfl, _, _, rfl, rfl, rfl, tt_yes ⟨.ref a, rfl, .int m, rfl, a, _, m, .int (i : Nat), rfl, rfl, hA, ?_, .int (i : Nat), rfl, rfl, _, (sT _ _ p.2), ?_, ?_, ?_⟩⟩
        · have e : m = ((m.toNat : Nat) : Int) := by omega
          rw [e]; exact atI_nat gm
        · rw [List.length_replicate]; exact few1 (by omega)
        · exact fun b o e => by rw [upd_ne (ne_of_none e nD)]; exact sT b o (p.1 b o e)
        · rw [upd_same, decide_eq_true rfl, rep_next]
      · rw [List.length_map, rep_bl] at p
        refine ⟨D, _, rfl, lstNew p.2, ?_⟩
        rw [all_true]
        exact q H' (s1.trans p.1)
end
end K43
namespace K43
open PySem PySem.Spec PyProof.Rows L2 RV
def rgI (a b : Int) : List Int := (List.range (b - a).toNat).map fun (i : Nat) => a + (i : Int)
theorem rgV_rgI (a b : Int) : rgV a b = (rgI a b).map V.int := by
  unfold rgV rgI
  rw [List.map_map]; rfl
theorem rgI_len (a b : Int) : (rgI a b).length = (b - a).toNat := by unfold rgI; rw [List.length_map, List.length_range]
theorem rgI_get {a b : Int} {k : Nat} {m : Int} : (rgI a b)[k]? = some m ↔ k < (b - a).toNat ∧ m = a + (k : Int) := by
  unfold rgI
  rw [List.getElem?_map]
  by_cases h : k < (b - a).toNat
  · rw [List.getElem?_range h]
    simp [h, eq_comm]
  · rw [List.getElem?_eq_none (by rw [List.length_range]; omega)]
    simp [h]
/-! ### mirrors drawn: fs so far, ls the marks left -/
structure Half (m : Nat) (fs ls : List Int) : Prop where
  len : fs.length = m
  inn : ∀ (k : Nat) (x : Int), fs[k]? = some x → 0 ≤ x ∧ x < (m : Int)
  back : ∀ (k : Nat) (x : Int), fs[k]? = some x → fs[x.toNat]? = some (k : Int)
  nd : ls.Nodup
  lin : ∀ x ∈ ls, 0 ≤ x ∧ x < (m : Int)
  self : ∀ x ∈ ls, fs[x.toNat]? = some x
theorem half_start (m : Nat) : Half m (rgI 0 (m : Int)) (rgI 0 (m : Int)) := by
  have mem : ∀ x ∈ rgI 0 (m : Int), 0 ≤ x ∧ x < (m : Int) := fun x hx => by
    obtain ⟨k, hk, e⟩ := List.getElem_of_mem hx
    have z : (rgI 0 (m : Int))[k]? = some x := by rw [List.getElem?_eq_getElem hk, e]
    rw [rgI_get] at z; omega
  refine ⟨by rw [rgI_len]; omega, fun k x h => ?_, fun k x h => ?_, ?_, mem, fun x hx => ?_⟩
  · rw [rgI_get] at h; omega
  · rw [rgI_get] at h ⊢; omega
  · unfold rgI
    refine List.Pairwise.map _ (fun a b (h : a < b) => ?_) List.pairwise_lt_range
    omega
  · have := mem x hx
    rw [rgI_get]; omega
theorem half_drop {m : Nat} {fs ls : List Int} {x : Int} (h : Half m fs (x :: ls)) : Half m fs ls :=
  ⟨h.len, h.inn, h.back, (List.nodup_cons.mp h.nd).2, fun y hy => h.lin y (List.mem_cons_of_mem _ hy), fun y hy => h.self y (List.mem_cons_of_mem _ hy)⟩
theorem not_in_erase : ∀ {ls : List Int} {r : Nat} {z : Int}, ls.Nodup → ls[r]? = some z → z ∉ ls.eraseIdx r
  | [], _, _, _, h => by simp at h
  | a :: l, 0, z, nd, h => by
    have e : a = z := Option.some.inj h
    subst e
    exact (List.nodup_cons.mp nd).1
  | a :: l, r + 1, z, nd, h => by
    have h' : l[r]? = some z := h
    intro hz
    rcases List.mem_cons.mp (show z ∈ a :: l.eraseIdx r from hz) with e | e
    · exact (List.nodup_cons.mp nd).1 (e ▸ List.mem_of_getElem? h')
    · exact not_in_erase (List.nodup_cons.mp nd).2 h' e
theorem half_pair {m : Nat} {fs ls : List Int} {x y : Int} {r : Nat} (h : Half m fs (x :: ls)) (hy : ls[r]? = some y) : Half m ((fs.set x.toNat y).set y.toNat x) (ls.eraseIdx r) := by
  have hx := h.lin x (List.mem_cons_self ..)
  have hyl : y ∈ ls := List.mem_of_getElem? hy
  have hy1 := h.lin y (List.mem_cons_of_mem _ hyl)
  have hxy : x ≠ y := fun e => (List.nodup_cons.mp h.nd).1 (e ▸ hyl)
  have sx := h.self x (List.mem_cons_self ..)
  have sy := h.self y (List.mem_cons_of_mem _ hyl)
  have hl := h.len
  have nxy : x.toNat ≠ y.toNat := by omega
  have get : ∀ k : Nat, ((fs.set x.toNat y).set y.toNat x)[k]? = if y.toNat = k then (if k < m then some x else none) else if x.toNat = k then (if k < m then some y else none) else fs[k]? := fun k => by
    rw [List.getElem?_set, List.getElem?_set, List.length_set, hl]
    by_cases e1 : y.toNat = k
    · simp [e1]
    · by_cases e2 : x.toNat = k
      · simp [e1, e2]
      · simp [e1, e2]
  have sub : ∀ z ∈ ls.eraseIdx r, z ∈ ls := fun z hz => List.mem_of_mem_eraseIdx hz
  refine ⟨by rw [List.length_set, List.length_set]; exact hl, fun k z hz => ?_, fun k z hz => ?_, ?_, fun z hz => h.lin z (List.mem_cons_of_mem _ (sub z hz)), fun z hz => ?_⟩
  · rw [get] at hz
    split at hz
    · split at hz
      · cases hz; exact hx
      · cases hz
    · split at hz
      · split at hz
        · cases hz; exact hy1
        · cases hz
      · exact h.inn k z hz
  · rw [get] at hz
    split at hz
    · rename_i e1
      split at hz
      · cases hz
        rw [get, if_neg (by omega), if_pos rfl, if_pos (by omega)]
        congr 1; omega
      · cases hz
    · rename_i e1
      split at hz
      · rename_i e2
        split at hz
        · cases hz
          rw [get, if_pos rfl, if_pos (by omega)]
          congr 1; omega
        · cases hz
      · rename_i e2
        have b1 := h.back k z hz
        have i1 := h.inn k z hz
        have n1 : y.toNat ≠ z.toNat := fun e => by
          have : z = y := by omega
          subst this
          rw [sy] at b1
          have := Option.some.inj b1
          omega
        have n2 : x.toNat ≠ z.toNat := fun e => by
          have : z = x := by omega
          subst this
          rw [sx] at b1
          have := Option.some.inj b1
          omega
        rw [get, if_neg n1, if_neg n2]; exact b1
  · exact List.Nodup.sublist (List.eraseIdx_sublist ls r) (List.nodup_cons.mp h.nd).2
  · have hzl := sub z hz
    have z1 := h.lin z (List.mem_cons_of_mem _ hzl)
    have zx : z ≠ x := fun e => (List.nodup_cons.mp h.nd).1 (e ▸ hzl)
    have zy : z ≠ y := fun e => by
      subst e
      exact not_in_erase (List.nodup_cons.mp h.nd).2 hy hz
    rw [get, if_neg (by omega), if_neg (by omega)]
    exact h.self z (List.mem_cons_of_mem _ hzl)
theorem half_mir {m : Nat} {fs : List Int} (h : Half m fs []) (h1 : 1 ≤ m) (h8 : m ≤ 8) : Mir fs := by
  have hl := h.len
  refine ⟨by omega, by omega, fun x hx => ?_, h.back⟩
  obtain ⟨k, hk, e⟩ := List.getElem_of_mem hx
  have := h.inn k x (by rw [List.getElem?_eq_getElem hk, e])
  omega
end K43
set_option maxHeartbeats 4000000
namespace K43
open PySem PySem.Spec PyProof.Rows L2 RV
/-- a pail of numbers stands at p, t have been mixed -/
def PailAt (H : Hp) (p : Addr) (t : Nat) : Prop := ∃ x y : Int, H p = some (.lst [.int x, .int y, .int (t : Int)]) ∧ 0 ≤ x ∧ 0 ≤ y ∧ y < 2305843010000000000
/-- all stands but what is at p -/
def But (p : Addr) (H H' : Hp) : Prop := ∀ c o, H c = some o → c ≠ p → H' c = some o
theorem But.refl (p : Addr) (H : Hp) : But p H H := fun _ _ e _ => e
theorem But.trans {p : Addr} {H H1 H2 : Hp} (a : But p H H1) (b : But p H1 H2) : But p H H2 := fun c o e z => b c o (a c o e z) z
theorem But.of {p : Addr} {H H' : Hp} (s : Same H H') : But p H H' := fun c o e _ => s c o e
theorem flag01 (b : Bool) : -(2 ^ 64) < (if b = true then (1 : Int) else 0) ∧ (if b = true then (1 : Int) else 0) < 2 ^ 64 := by cases b <;> decide
theorem mul_flag {x : Int} (h : 0 ≤ x) (b : Bool) : 0 ≤ x * (if b = true then (1 : Int) else 0) := by
  cases b
  · show 0 ≤ x * 0
    rw [Int.mul_zero]; exact Int.le_refl _
  · show 0 ≤ x * 1
    rw [Int.mul_one]; exact h
theorem pow60 : ((10 : Int) ^ (60 : Int).toNat).natAbs < 2 ^ 200 := by decide +kernel
theorem pow120 : ((10 : Int) ^ (60 : Int).toNat * (10 : Int) ^ (60 : Int).toNat).natAbs < 2 ^ 400 := by decide +kernel
theorem pow180 : (0 : Int) < (10 : Int) ^ (60 : Int).toNat * (10 : Int) ^ (60 : Int).toNat * (10 : Int) ^ (60 : Int).toNat := by decide +kernel
section
variable {P : Program} {w : World} {K : PySem.W.Frag} {mg : Str → Option Value} {base : Heap}
/-! ### _law_hand -/
def spHand (K : PySem.W.Frag) : Sp := fun vs H Q _ => ∃ (a : Addr) (ns : List Int) (k : Nat), vs = [.ref a, .int (k : Int)] ∧ SqL K H a (ns.map V.int) ∧ k < 64 ∧ ∀ H' p, Same H H' → H p = none → PailAt H' p 0 → Q (.ref p) H'
end
end K43
set_option maxHeartbeats 4000000
namespace K43
open PySem PySem.Spec PyProof.Rows L2 RV
section
variable {P : Program} {w : World} {K : PySem.W.Frag} {mg : Str → Option Value} {base : Heap}
/-! ### _law_take -/
def spDraw : Sp := fun vs H Q _ => ∃ (p : Addr) (t : Nat) (m : Int), vs = [.ref p, .int m] ∧ PailAt H p t ∧ t ≤ 4000 ∧ 1 ≤ m ∧ m ≤ 1000000000000000000000000000000 ∧
  ∀ (r : Int) (t' : Nat) (H' : Hp), 0 ≤ r → r < m → t' ≤ t + 1 → PailAt H' p t' → But p H H' → Q (.int r) H'
theorem primes_at (t : Int) (h : 0 ≤ t) : ∃ v : Int, atI [V.int 2305843009213693951, V.int 999999999989, V.int 1000000000039, V.int 67280421310721] (t % 4) = some (.int v) ∧ 0 < v ∧ v < 2305843009213693952 := by
  have h4 : t % 4 = 0 ∨ t % 4 = 1 ∨ t % 4 = 2 ∨ t % 4 = 3 := by omega
  rcases h4 with e | e | e | e <;> rw [e] <;> exact ⟨_, rfl, by decide, by decide⟩
end
end K43
set_option maxHeartbeats 4000000
namespace K43
open PySem PySem.Spec PyProof.Rows L2 RV
/-! ### what a draw leaves -/
theorem sqT_pail {K : PySem.W.Frag} {H H' : Hp} {p : Addr} {t : Nat} (hp : PailAt H p t) (b : But p H H') {a : Addr} {xs : List V} (h : SqT K H a xs) : SqT K H' a xs := by
  obtain ⟨x, y, e, _⟩ := hp
  rcases h with (h | ⟨o, h⟩) | h
  · exact .inl (.inl (b _ _ h fun z => by rw [z, e] at h; cases h))
  · exact .inl (.inr ⟨o, b _ _ h fun z => by rw [z, e] at h; cases h⟩)
  · exact .inr h
theorem sqL_but {K : PySem.W.Frag} {H H' : Hp} {p a : Addr} (b : But p H H') (n : a ≠ p) {xs : List V} (h : SqL K H a xs) : SqL K H' a xs := by
  rcases h with (h | ⟨o, h⟩) | h
  · exact .inl (.inl (b _ _ h n))
  · exact .inl (.inr ⟨o, b _ _ h n⟩)
  · exact .inr h
theorem tups_pail {K : PySem.W.Frag} {H H' : Hp} {p : Addr} {t : Nat} (hp : PailAt H p t) (b : But p H H') {a : Addr} {ps : List (List Int)} (h : Tups K H a ps) : Tups K H' a ps := by
  obtain ⟨ks, h1, h2, h3⟩ := h
  exact ⟨ks, h1, sqT_pail hp b h2, fun q hq => sqT_pail hp b (h3 q hq)⟩
theorem same_but {p : Addr} {H H1 H2 : Hp} (s : Same H H1) (n : H p = none) (b : But p H1 H2) : Same H H2 := fun c o e => b c o (s c o e) (ne_of_none e n)
theorem pail_same {p : Addr} {H H' : Hp} {t : Nat} (h : PailAt H p t) (s : Same H H') : PailAt H' p t := by
  obtain ⟨x, y, e, r⟩ := h
  exact ⟨x, y, s _ _ e, r⟩
theorem pail_new {p a : Addr} {H : Hp} {o : HO} {t : Nat} (h : PailAt H p t) (n : H a = none) : PailAt (upd H a o) p t := pail_same h (same_upd n)
theorem pail_set {p l : Addr} {H : Hp} {o : HO} {t : Nat} (h : PailAt H p t) (n : l ≠ p) : PailAt (upd H l o) p t := by
  obtain ⟨x, y, e, r⟩ := h
  exact ⟨x, y, by rw [upd_ne n.symm]; exact e, r⟩
theorem pail_ne {p a : Addr} {H : Hp} {t : Nat} (h : PailAt H p t) (n : H a = none) : a ≠ p := by
  obtain ⟨x, y, e, r⟩ := h
  exact (ne_of_none e n).symm
section
variable {P : Program} {w : World} {K : PySem.W.Frag} {mg : Str → Option Value} {base : Heap}
/-! ### _law_of -/
def spOf (K : PySem.W.Frag) : Sp := fun vs H Q _ => ∃ (p a : Addr) (t : Nat) (xs : List V), vs = [.ref p, .ref a] ∧ PailAt H p t ∧ t ≤ 4000 ∧ SqL K H a xs ∧ a ≠ p ∧ 0 < xs.length ∧ xs.length ≤ 1000 ∧
  ∀ (j : Nat) (v : V) (t' : Nat) (H' : Hp), xs[j]? = some v → t' ≤ t + 1 → PailAt H' p t' → But p H H' → Q v H'
theorem erase_map {α β : Type} (f : α → β) : ∀ (l : List α) (i : Nat), (l.map f).eraseIdx i = (l.eraseIdx i).map f
  | [], _ => rfl
  | a :: l, 0 => rfl
  | a :: l, i + 1 => by
    show f a :: (l.map f).eraseIdx i = f a :: (l.eraseIdx i).map f
    rw [erase_map f l i]
theorem ix_at {n : Nat} {i : Int} (h1 : i < (n : Int)) (h0 : 0 ≤ i) : ixN n i = some i.toNat := by
  unfold ixN
  rw [if_pos h0, if_pos h1]
def lenAt (H : Hp) (a : Addr) : Nat := match H a with
  | some (.lst xs) => xs.length
  | _ => 0
theorem lenAt_eq {H : Hp} {a : Addr} {xs : List V} (h : H a = some (.lst xs)) : lenAt H a = xs.length := by unfold lenAt; rw [h]
theorem shapedL (ns : List Int) : SeqAt.shaped (.list (ns.map PyData.int)) = true := by
  have h1 : (PyData.list (ns.map PyData.int)).canLay0 = true := by simp only [PyData.canLay0]; exact lay_ints ns
  have h2 : (PyData.list (ns.map PyData.int)).depth ≤ 64 := by simp only [PyData.depth, dep_ints]; omega
  show ((PyData.list (ns.map PyData.int)).canLay0 && decide ((PyData.list (ns.map PyData.int)).depth ≤ 64)) = true
  rw [h1, decide_eq_true h2]; rfl
theorem eqvL (ns ms : List Int) : PyData.eqv (.list (ns.map PyData.int)) (.list (ms.map PyData.int)) = decide (ns = ms) := by simp only [PyData.eqv, eqv_ints]
end
end K43
set_option maxHeartbeats 4000000
/-! sorted(d), d a dict whose keys are pairs of ints -/
namespace RV
open PySem PySem.Spec PyProof.Rows L2
/-- a pair of ints as a key, and back -/
def keyP (p : List Int) : List L2.Key := p.map Sum.inl
def pairOf (k : List L2.Key) : List Int := k.map fun x => match x with | .inl i => i | .inr _ => 0
theorem pairOf_keyP (p : List Int) : pairOf (keyP p) = p := by
  unfold pairOf keyP
  rw [List.map_map]
  exact List.map_id p
theorem kV_keyP (p : List Int) : (keyP p).map kV = p.map V.int := by
  unfold keyP
  rw [List.map_map]; rfl
abbrev two (p : List Int) : Int × Int := (p.getD 0 0, p.getD 1 0)
open Classical in
noncomputable def readP (h : Heap) (v : Value) : Int × Int := if e : ∃ p : Int × Int, Srt.IsPair h v p.1 p.2 then Classical.choose e else (0, 0)
theorem readP_eq {h : Heap} {v : Value} {x y : Int} (e : Srt.IsPair h v x y) : readP h v = (x, y) := by
  have ex : ∃ p : Int × Int, Srt.IsPair h v p.1 p.2 := ⟨(x, y), e⟩
  unfold readP
  rw [dif_pos ex]
  have c := Classical.choose_spec ex
  generalize Classical.choose ex = p at c
  obtain ⟨a, o, t, u, n, e1, e2, e3, e4⟩ := c
  obtain ⟨a', o', t', u', n', f1, f2, f3, f4⟩ := e
  rw [e1] at f1
  cases f1
  rw [e2] at f2
  cases f2
  rw [e4] at f4
  injection f4 with g1 g2
  have g3 : [Value.int p.1 t, Value.int p.2 u] = [Value.int x t', Value.int y u'] := by
    have := congrArg Array.toList g1
    simpa using this
  injection g3 with g4 g5
  injection g5 with g5 _
  injection g4 with g4 _
  injection g5 with g5 _
  obtain ⟨p1, p2⟩ := p
  simp only at g4 g5
  rw [g4, g5]
theorem paired_mem {α β : Type} {F : α → β → Prop} : ∀ {l : List α} {m : List β}, Paired F l m → ∀ y ∈ m, ∃ x ∈ l, F x y
  | _, _, .nil, y, h => nomatch h
  | _, _, .cons f t, y, h => by
    rcases List.mem_cons.mp h with e | e
    · rw [e]; exact ⟨_, List.mem_cons_self .., f⟩
    · obtain ⟨x, hx, fx⟩ := paired_mem t y e
      exact ⟨x, List.mem_cons_of_mem _ hx, fx⟩
theorem paired_map {α β γ : Type} {F : α → β → Prop} {f : α → γ} {g : β → γ} (h : ∀ a b, F a b → f a = g b) : ∀ {l : List α} {m : List β}, Paired F l m → l.map f = m.map g
  | _, _, .nil => rfl
  | _, _, .cons e t => by rw [List.map_cons, List.map_cons, h _ _ e, paired_map h t]
section
variable {X : Cx}
/-- sorted(d) -/
def rSortDT : List V → Hp → VK → Prop := fun xs H Q => ∃ (d : Addr) (kvs : List (List L2.Key × V)) (ps : List (List Int)), xs = [.ref d] ∧ Rd H d (.dT kvs) ∧ kvs.map (·.1) = ps.map keyP ∧ (∀ p ∈ ps, ∃ x y : Int, p = [x, y]) ∧ kvs.length ≤ 1000 ∧
  ∀ (L : List (Addr × List Int)) (q : Addr), H q = none → (L.map (·.2)).Perm ps → L.Pairwise (fun a b => SrtO.lexB (two b.2) (two a.2) = false) → (∀ a ∈ L, H a.1 = some (.tup (a.2.map V.int))) → Q (.ref q) (upd H q (.lst (L.map fun a => V.ref a.1)))
theorem cr_sortedDT (hc : X.calm = true) : CallR X (.builtin "sorted") rSortDT := by
  intro pins s σ H xs us Q I r h
  obtain ⟨d, kvs, ps, rfl, hd, hks, hpr, h1000, q⟩ := h
  obtain ⟨u, rfl, rx⟩ := vals1 r
  cases rx
  obtain ⟨z, hs, ks, pr, o, es, ep, ho, hx, hdt, he, hn⟩ := (show ObjOk X.prog X.w H s.heap d (.dT kvs) from hd.ok I.hok)
  have l1 : es.size = ks.length := size_of_entries he
  have l2 : kvs.length = ks.length := Paired.length pr
  refine Calls.call_function_entry kind_sorted plain_sorted entry_sorted (args_sorted1 _) ?_
  unfold Builtin.«sorted»
  refine wpAny_bind (m := checkCount "sorted" 1 1 _) (wpAny_pure ?_)
  refine wpAny_bind (PySem.W.kdu_collect (A := X.A.in1) (kdl_raw hs hx hdt) (I.ok.hd hc) ho (by rw [l1, ← l2]; exact Nat.le_of_lt (small1000 h1000)) fun h' tk acc kp it => ?_)
  -- what was collected
  have ea : acc.toList = ks.map fun x => Value.ref x.2.1 := by
    have hl : acc.toList.length = ks.length := by rw [Array.length_toList, it.1, l1]
    refine List.ext_getElem (by rw [hl, List.length_map]) fun j j1 j2 => ?_
    have ja : acc.toList[j]? = some acc.toList[j] := List.getElem?_eq_getElem j1
    obtain ⟨en, hen, hv⟩ := it.2 j _ (by rw [← Array.getElem?_toList]; exact ja)
    have qe := entry_at he j
    have jk : j < ks.length := by rw [List.length_map] at j2; exact j2
    rw [hen, List.getElem?_eq_getElem jk] at qe
    have e2 : en = entryOfKey (tupleKind (mixKind X.prog X.w)) ks[j] := Option.some.inj qe
    rw [hv, e2, List.getElem_map]; rfl
  have I1 : Inv X pins σ H { s with heap := h', toks := tk } := I.kept kp
  have hal : acc.toList.length = ks.length := by rw [ea, List.length_map]
  refine wpAny_bind (wpAny_newList ?_ (by rw [hal, ← l2]; exact Nat.le_of_lt (small1000 h1000)))
  have hoL : (h'.push (seqObj "list" acc.toList.toArray 0)).get? h'.objs.size = some (seqObj "list" acc.toList.toArray 0) := Heap.get?_push_size _ rfl
  show wpAny _ _ _ _ _ { s with heap := h'.push (seqObj "list" acc.toList.toArray 0), toks := tk }
  -- each is a pair
  have ent : ∀ v ∈ acc.toList, ∃ (b : Addr) (p : List Int), v = .ref b ∧ p ∈ ps ∧ H b = some (.tup (p.map V.int)) ∧ ∃ x y : Int, p = [x, y] ∧ Srt.IsPair h' v x y := by
    intro v hv
    rw [ea] at hv
    obtain ⟨x, hx1, rfl⟩ := List.mem_map.mp hv
    obtain ⟨kv, hkv, q1, q2, _⟩ := paired_mem pr x hx1
    have hk2 : kv.1 ∈ ps.map keyP := by rw [← hks]; exact List.mem_map_of_mem hkv
    obtain ⟨p, hp, ep⟩ := List.mem_map.mp hk2
    have hb : H x.2.1 = some (.tup (p.map V.int)) := by rw [q2, ← ep, kV_keyP]
    obtain ⟨x', y', e'⟩ := hpr p hp
    refine ⟨x.2.1, p, rfl, hp, hb, x', y', e', ?_⟩
    obtain ⟨_, its2, r2, oo, ho2, hc2, n2, hd2⟩ := (show ObjOk X.prog X.w H s.heap x.2.1 (.tup (p.map V.int)) from I.hok _ _ hb)
    rw [e'] at r2
    obtain ⟨u1, u2, rfl, ri, rj⟩ := vals2 r2
    obtain ⟨t1, rfl⟩ := ri
    obtain ⟨t2, rfl⟩ := rj
    exact ⟨x.2.1, oo, t1, t2, n2, rfl, kp _ _ ho2, hc2, hd2⟩
  have isp : ∀ v ∈ acc.toList, Srt.IsPair h' v (readP h' v).1 (readP h' v).2 := fun v hv => by
    obtain ⟨b, p, _, _, _, x, y, _, e⟩ := ent v hv
    rw [readP_eq e]; exact e
  refine wpAny_bind (wpAny_holding (wpAny_call_entry slot_list_sort ⟨_, hoL, rfl⟩ entry_list_sort (SrtO.list_sort_ord (s := { s with heap := h'.push (seqObj "list" acc.toList.toArray 0), toks := tk }) (ltv := fun v u => SrtO.lexB (readP h' v) (readP h' u)) (SrtO.swo_lex (readP h')) hoL
    (by rw [hal, ← l2]; exact Nat.le_of_lt (small1000 h1000)) (fun h2 => ?_) fun out g1 g2 => ⟨_, rfl, ?_⟩) (args_list_sort _)))
  · refine SrtO.pairs_sortableO (k := readP h') (s := { s with heap := h'.push (seqObj "list" acc.toList.toArray 0), toks := tk }) (by omega) (fun v hm => (isp v hm).keeps fun b o e _ => Heap.get?_push_of_some _ e) fun o e => ?_
    have e' : some o = some (seqObj "list" acc.toList.toArray 0) := e.symm.trans hoL
    cases e'
    intro c
    exact absurd (Value.type.inj c) (by decide)
  · obtain ⟨e', he'⟩ := sortedHeap_at (vs := acc.toList) (out := out.toArray) hoL
    -- as addresses with their ints
    have inV : ∀ v ∈ out, v ∈ acc.toList := fun v hv => g2.perm.mem_iff.mp hv
    let ad : Value → Addr := fun v => match v with | .ref b => b | _ => 0
    let L : List (Addr × List Int) := out.map fun v => (ad v, [(readP h' v).1, (readP h' v).2])
    have tell : ∀ v ∈ out, v = .ref (ad v) ∧ [(readP h' v).1, (readP h' v).2] ∈ ps ∧ H (ad v) = some (.tup (([(readP h' v).1, (readP h' v).2] : List Int).map V.int)) := fun v hv => by
      obtain ⟨b, p, rfl, hp, hb, x, y, rfl, e⟩ := ent v (inV v hv)
      rw [readP_eq e]
      exact ⟨rfl, hp, hb⟩
    have eo : out = L.map fun a => Value.ref a.1 := by
      show out = (out.map _).map _
      rw [List.map_map]
      conv => lhs; rw [← List.map_id out]
      exact List.map_congr_left fun v hv => (tell v hv).1
    have eks : ∀ v ∈ acc.toList, True := fun _ _ => trivial
    have hLlen : (L.map fun a => V.ref a.1).length ≤ sizeLine := by
      rw [List.length_map, List.length_map, g2.len, hal, ← l2]; exact Nat.le_of_lt (small1000 h1000)
    have rv : Vals (L.map fun a => V.ref a.1) out := by
      rw [eo]
      have : ∀ M : List (Addr × List Int), Vals (M.map fun a => V.ref a.1) (M.map fun a => Value.ref a.1) := fun M => by
        induction M with
        | nil => exact .nil
        | cons m r ih => exact .cons rfl ih
      exact this L
    have e2 : L.map (·.2) = out.map fun v => [(readP h' v).1, (readP h' v).2] := by
      show (out.map _).map _ = _
      rw [List.map_map]; rfl
    have e3 : (acc.toList.map fun v => [(readP h' v).1, (readP h' v).2]) = ps := by
      have w1 : ks.map (fun x => pairOf x.1) = ps := by
        rw [← paired_map (f := fun (a : List L2.Key × V) => pairOf a.1) (g := fun (b : List L2.Key × Addr × Value) => pairOf b.1) (fun a b f => by rw [f.1]) pr]
        have w2 : kvs.map (fun a => pairOf a.1) = (kvs.map (·.1)).map pairOf := by rw [List.map_map]; rfl
        rw [w2, hks, List.map_map]
        conv => rhs; rw [← List.map_id ps]
        exact List.map_congr_left fun p _ => pairOf_keyP p
      rw [← w1, ea, List.map_map]
      refine List.map_congr_left fun x hx1 => ?_
      obtain ⟨kv, hkv, q1, q2, _⟩ := paired_mem pr x hx1
      obtain ⟨b, p, eb, hp, hb, x', y', e', isP⟩ := ent (.ref x.2.1) (by rw [ea]; exact List.mem_map.mpr ⟨x, hx1, rfl⟩)
      cases eb
      show [(readP h' (.ref x.2.1)).1, (readP h' (.ref x.2.1)).2] = pairOf x.1
      rw [readP_eq isP, ← q1]
      have hk2 : kv.1 ∈ ps.map keyP := by rw [← hks]; exact List.mem_map_of_mem hkv
      obtain ⟨p2, hp2, ep2⟩ := List.mem_map.mp hk2
      rw [← ep2, pairOf_keyP]
      rw [hb, ← ep2, kV_keyP] at q2
      have q3 : p.map V.int = p2.map V.int := by
        injection q2 with q2
        injection q2
      have q4 : p = p2 := by
        have inj : ∀ l m : List Int, l.map V.int = m.map V.int → l = m := fun l => by
          induction l with
          | nil => intro m e; cases m with | nil => rfl | cons => cases e
          | cons a r ih =>
            intro m e
            cases m with
            | nil => cases e
            | cons b t =>
              rw [List.map_cons, List.map_cons] at e
              injection e with e1 e2
              injection e1 with e1
              rw [e1, ih t e2]
        exact inj p p2 q3
      rw [← q4, e']
    refine wpAny_pure ⟨_, rfl, .ref h'.objs.size, upd H h'.objs.size (.lst (L.map fun a => V.ref a.1)), I1.laid (t' := tk) (fun b u e => ?_) (Nat.le_refl _)
      (show ObjOk X.prog X.w _ _ _ (.lst (L.map fun a => V.ref a.1)) from ⟨hLlen, out, e', rv, he'⟩), rfl, q L _ (I1.hok.fresh (Nat.le_refl _)) ?_ ?_ fun a ha => ?_⟩
    · have hb : b < h'.objs.size := Heap.lt_size e
      rw [sortedHeap_old (Nat.ne_of_lt hb) (by rw [size_push']; exact Nat.lt_succ_of_lt hb)]
      exact Heap.get?_push_of_some _ e
    · rw [e2, ← e3]
      exact g2.perm.map _
    · show (out.map _).Pairwise _
      rw [List.pairwise_map]
      exact g1
    · obtain ⟨v, hv, rfl⟩ := List.mem_map.mp ha
      exact (tell v hv).2.2
end
end RV
set_option maxHeartbeats 4000000
namespace K43
open PySem PySem.Spec PyProof.Rows L2 RV
/-! ### a dict of pairs, by its keys -/
def addP (ps : List (List Int)) (p : List Int) : List (List Int) := if p ∈ ps then ps else ps ++ [p]
theorem keyP_inj {p q : List Int} (h : keyP p = keyP q) : p = q := by
  have := congrArg pairOf h
  rwa [pairOf_keyP, pairOf_keyP] at this
theorem key_mem {p : List Int} {ps : List (List Int)} : keyP p ∈ ps.map keyP ↔ p ∈ ps := by
  constructor
  · intro h
    obtain ⟨q, hq, e⟩ := List.mem_map.mp h
    rw [← keyP_inj e]; exact hq
  · exact fun h => List.mem_map_of_mem h
theorem put_keys {kvs : List (List L2.Key × V)} {ps : List (List Int)} {p : List Int} {v : V} (h : kvs.map (·.1) = ps.map keyP) : (putK kvs (keyP p) v).map (·.1) = (addP ps p).map keyP := by
  unfold addP
  cases e : valV kvs (keyP p) with
  | none =>
    have n : p ∉ ps := fun z => valV_not e (by rw [h]; exact key_mem.mpr z)
    rw [putK_new v e, if_neg n, List.map_append, List.map_append, h]; rfl
  | some x =>
    have y : p ∈ ps := key_mem.mp (by rw [← h]; exact valV_in e)
    rw [if_pos y, ← h]
    unfold putK
    rw [valV_any, e]
    show (kvs.map fun kv => if kv.1 = keyP p then (kv.1, v) else kv).map (·.1) = kvs.map (·.1)
    rw [List.map_map]
    refine List.map_congr_left fun kv _ => ?_
    show (if kv.1 = keyP p then (kv.1, v) else kv).1 = kv.1
    split <;> rfl
theorem mem_addP {ps : List (List Int)} {p q : List Int} : q ∈ addP ps p ↔ q ∈ ps ∨ q = p := by
  unfold addP
  split
  · rename_i h
    constructor
    · exact .inl
    · rintro (z | rfl)
      · exact z
      · exact h
  · rw [List.mem_append, List.mem_singleton]
theorem nd_addP {ps : List (List Int)} {p : List Int} (h : ps.Nodup) : (addP ps p).Nodup := by
  unfold addP
  split
  · exact h
  · rename_i n
    rw [List.nodup_append]
    exact ⟨h, by simp, fun a ha b hb e => n (by rw [← List.mem_singleton.mp hb, ← e]; exact ha)⟩
/-- a tuple of tuples of ints, all of them seen -/
def TupsH (H : Hp) (a : Addr) (ps : List (List Int)) : Prop := ∃ ks : List (Addr × List Int), ks.map (·.2) = ps ∧ H a = some (.tup (ks.map fun p => V.ref p.1)) ∧ ∀ p ∈ ks, H p.1 = some (.tup (p.2.map V.int))
theorem TupsH.tups {K : PySem.W.Frag} {H : Hp} {a : Addr} {ps : List (List Int)} (h : TupsH H a ps) : Tups K H a ps :=
  let ⟨ks, h1, h2, h3⟩ := h; ⟨ks, h1, tupNew h2, fun p hp => tupNew (h3 p hp)⟩
theorem TupsH.same {H H' : Hp} {a : Addr} {ps : List (List Int)} (h : TupsH H a ps) (e : Same H H') : TupsH H' a ps :=
  let ⟨ks, h1, h2, h3⟩ := h; ⟨ks, h1, e _ _ h2, fun p hp => e _ _ (h3 p hp)⟩
theorem TupsH.but {H H' : Hp} {p a : Addr} {t : Nat} {ps : List (List Int)} (h : TupsH H a ps) (hp : PailAt H p t) (b : But p H H') : TupsH H' a ps := by
  obtain ⟨ks, h1, h2, h3⟩ := h
  obtain ⟨x, y, e, _⟩ := hp
  exact ⟨ks, h1, b _ _ h2 fun z => (by rw [z, e] at h2; cases h2), fun q hq => b _ _ (h3 q hq) fun z => (by have h := h3 q hq; rw [z, e] at h; cases h)⟩
/-- steps drawn so far -/
structure Part (ns : List Int) (ps : List (List Int)) : Prop where
  nd : ps.Nodup
  pr : ∀ p ∈ ps, Pr (ns.length : Int) p
  mi : ∀ x y mx my : Int, [x, y] ∈ ps → ns[x.toNat]? = some mx → ns[y.toNat]? = some my → [my, mx] ∈ ps
theorem Part.nil (ns : List Int) : Part ns [] := ⟨List.nodup_nil, (fun _ h => nomatch h), fun _ _ _ _ h => nomatch h⟩
theorem Part.add {ns : List Int} {ps : List (List Int)} {x y mx my : Int} (M : Mir ns) (h : Part ns ps) (hx : 0 ≤ x ∧ x < (ns.length : Int)) (hy : 0 ≤ y ∧ y < (ns.length : Int)) (ex : ns[x.toNat]? = some mx) (ey : ns[y.toNat]? = some my) :
    Part ns (addP (addP ps [x, y]) [my, mx]) := by
  have bx := M.back _ _ ex
  have bY := M.back _ _ ey
  have ix := M.inn mx (List.mem_of_getElem? ex)
  have iy := M.inn my (List.mem_of_getElem? ey)
  refine ⟨nd_addP (nd_addP h.nd), fun p hp => ?_, fun a b ma mb hab ha hb => ?_⟩
  · rcases mem_addP.mp hp with z | rfl
    · rcases mem_addP.mp z with z | rfl
      · exact h.pr p z
      · exact ⟨x, y, rfl, hx, hy⟩
    · exact ⟨my, mx, rfl, iy, ix⟩
  · rw [mem_addP, mem_addP] at hab ⊢
    rcases hab with (z | z) | z
    · exact .inl (.inl (h.mi a b ma mb z ha hb))
    · injection z with z1 z2
      injection z2 with z2 _
      subst z1 z2
      rw [ex] at ha
      rw [ey] at hb
      cases ha
      cases hb
      exact .inr rfl
    · injection z with z1 z2
      injection z2 with z2 _
      subst z1 z2
      rw [bY] at ha
      rw [bx] at hb
      cases ha
      cases hb
      refine .inl (.inr ?_)
      rw [show ((x.toNat : Nat) : Int) = x by omega, show ((y.toNat : Nat) : Int) = y by omega]
theorem Part.len {ns : List Int} {ps : List (List Int)} (h : Part ns ps) (M : Mir ns) : ps.length ≤ 64 := by
  have := nodup_le (us := gridOf 0 (fun _ _ => true) ns.length ns.length) h.nd fun p hp => by
    obtain ⟨x, y, rfl, hx, hy⟩ := h.pr p hp
    refine mem_grid.mpr ⟨x.toNat, y.toNat, by omega, by omega, rfl, ?_⟩
    rw [show (0 + ((x.toNat : Nat) : Int)) = x by omega, show (0 + ((y.toNat : Nat) : Int)) = y by omega]
  have g := grid_len 0 (fun _ _ => true) ns.length ns.length
  have m8 : ns.length * ns.length ≤ 8 * 8 := Nat.mul_le_mul M.few M.few
  omega
theorem le_of_two {p q : List Int} (hp : Pr 64 p) (hq : Pr 64 q) (h : SrtO.lexB (two q) (two p) = false) : cd p ≤ cd q := by
  obtain ⟨x, y, rfl, hx, hy⟩ := hp
  obtain ⟨x', y', rfl, hx', hy'⟩ := hq
  have z := SrtO.lexB_no.mp h
  have z' : ¬ (x' < x ∨ (x' = x ∧ y' < y)) := z
  rw [cd_pair, cd_pair]; omega
/-- sorted, they are a rule's steps -/
theorem Part.stp {ns : List Int} {ps : List (List Int)} {L : List (Addr × List Int)} (M : Mir ns) (h : Part ns ps) (pm : (L.map (·.2)).Perm ps) (pw : L.Pairwise fun a b => SrtO.lexB (two b.2) (two a.2) = false) : Stp ns (L.map (·.2)) := by
  have h8 := M.few
  have pr : ∀ p ∈ L.map (·.2), Pr (ns.length : Int) p := fun p hp => h.pr p (pm.mem_iff.mp hp)
  have pr64 : ∀ p ∈ L.map (·.2), Pr 64 p := fun p hp => (pr p hp).mono (by omega)
  have le : (L.map (·.2)).Pairwise fun p q => cd p ≤ cd q := by
    rw [List.pairwise_map]
    exact List.Pairwise.imp_of_mem (fun {a b} ha hb z => le_of_two (pr64 _ (List.mem_map_of_mem ha)) (pr64 _ (List.mem_map_of_mem hb)) z) pw
  refine ⟨by rw [pm.length_eq]; exact h.len M, fun p hp => pr p hp, adj_rise pr64 (sorted_lt pr64 (pm.nodup_iff.mpr h.nd) le), fun x y mx my hxy hx hy => ?_, pm.nodup_iff.mpr h.nd⟩
  exact pm.mem_iff.mpr (h.mi x y mx my (pm.mem_iff.mp hxy) hx hy)
end K43
set_option maxHeartbeats 4000000
namespace RV
open PySem PySem.Spec PyProof.Rows L2
theorem nx_step {i : Nat} {v : V} {σ : L2.St} {H : Hp} {G : L2.St → Hp → Prop} (h : G (σ.set i (some v)) H) : gName i v σ H G := h
theorem seq_mid {t1 t2 : TS} {D : Ends} {σ : L2.St} {H : Hp} (J : L2.St → Hp → Prop) (h2 : ∀ σ H, J σ H → t2 D σ H) (h1 : (∀ σ H, J σ H → t2 D σ H) → tSeq t1 t2 D σ H) : tSeq t1 t2 D σ H := h1 h2
section
variable {X : Cx} {K : PySem.W.Frag}
theorem op_notInDK (h : X.K = K) (hu : X.A.units + 65 < cLine) : OpR X (compareOp .NotIn) (rNotInD K) := h ▸ op_notInD hu
theorem pe_backTK {e : Expr} {te : TE} {k : Nat} {p1 p2 p3 pos : Pos} (h : X.K = K) (he : PE X e te) : PE X (.Subscript e (.Slice none none (some (.UnaryOp .USub (.Constant (.int 1) k p1) p2)) p3) pos) (tBackT K te) := h ▸ pe_backT he
end
section
variable {X : Cx} {K : PySem.W.Frag}
theorem op_inDK (h : X.K = K) (hu : X.A.units + 65 < cLine) : OpR X (compareOp .In) (rInD K) := h ▸ op_inD hu
theorem ix_listK (h : X.K = K) : IxR X (rIxL K) := h ▸ ix_list
end
theorem take_filt {α : Type} {c : α → Bool} {ks : List α} {k : α} {i : Nat} (g : ks[i]? = some k) : (ks.take (i + 1)).filter c = (ks.take i).filter c ++ (if c k = true then [k] else []) := by
  rw [List.take_add_one, g]
  show (ks.take i ++ [k]).filter c = _
  rw [List.filter_append]
  by_cases e : c k = true
  · rw [if_pos e]; simp [e]
  · rw [if_neg e]; simp [e]
section
variable {K : PySem.W.Frag} {tt : TT} {te : TE} {f : Int → Bool} {σ : L2.St} {H1 : Hp} {a D : Addr} {v : Nat} {ns : List Int} {Qd : Hp → Prop}
/-- [x for x in t if ..], t a tuple of ints -/
theorem lc_filtT (hT : SqT K H1 a (ns.map V.int)) (hl : ns.length ≤ 1000) (nD : H1 D = none)
    (htest : ∀ x ∈ ns, ∀ H', Same H1 H' → ∀ A B : Hp → Prop, (∀ H2, Same H' H2 → if f x = true then A H2 else B H2) → tt ((wipe σ [v]).set v (some (.int x))) H' (fun b H3 => if b = true then A H3 else B H3))
    (hte : ∀ (x : Int) (H' : Hp) (Q : VK), Q (.int x) H' → te ((wipe σ [v]).set v (some (.int x))) H' Q)
    (hd : ∀ H', Same H1 H' → H' D = some (.lst ((ns.filter f).map V.int)) → Qd H') :
    ∃ W : Nat → Nat → Hp → Prop, (∃ m, W 0 m (upd H1 D (.lst []))) ∧ ∀ i m H, W i m H →
      ((Itt K a).stop i H ∧ Qd H) ∨ ((Itt K a).go i H ∧ ∃ Nx : Hp → Prop, (∀ H', Nx H' → ∃ m', m' < m ∧ W (i + 1) m' H') ∧ ∀ x H', (Itt K a).yld i H x H' → gName v x (wipe σ [v]) H' fun σ2 H2 => wipe σ2 [v] = wipe σ [v] ∧ tt σ2 H2 fun b H3 =>
        if b = true then te σ2 H3 fun y H4 => ∃ acc, H4 D = some (.lst acc) ∧ acc.length < sizeLine ∧ Nx (upd H4 D (.lst (acc ++ [y]))) else Nx H3) := by
  refine lc_tup (K := K) (a := a) (xs := ns.map V.int) (fun i H' => Same H1 H' ∧ H' D = some (.lst (((ns.take i).filter f).map V.int))) ⟨same_upd nD, upd_same⟩ (fun i H' _ p => sqT_same p.1 hT) (fun i x H' hx p => ?_) fun H' p => ?_
  · obtain ⟨k, g, rfl⟩ := map_at hx
    refine ⟨by simp [wipe, List.set_set], htest k (List.mem_of_getElem? g) H' p.1 _ _ fun H2 s2 => ?_⟩
    have s12 := p.1.trans s2
    have e2 := s2 _ _ p.2
    by_cases e : f k = true
    · rw [if_pos e]
      refine hte k H2 _ ⟨_, e2, ?_, fun b o z => ?_, ?_⟩
      · rw [List.length_map]
        exact few1 (Nat.le_trans (List.length_filter_le _ _) (by rw [List.length_take]; omega))
      · rw [upd_ne (ne_of_none z nD)]; exact s12 b o z
      · rw [upd_same, take_filt g, if_pos e, List.map_append]; rfl
    · rw [if_neg e]
      exact ⟨s12, by rw [take_filt g, if_neg e, List.append_nil]; exact e2⟩
  · rw [List.length_map, List.take_of_length_le (Nat.le_refl _)] at p
    exact hd H' p.1 p.2
/-- [x for x in l if ..], l a list of ints -/
theorem lc_filtL (hT : SqL K H1 a (ns.map V.int)) (hl : ns.length ≤ 1000) (nD : H1 D = none)
    (htest : ∀ x ∈ ns, ∀ H', Same H1 H' → ∀ A B : Hp → Prop, (∀ H2, Same H' H2 → if f x = true then A H2 else B H2) → tt ((wipe σ [v]).set v (some (.int x))) H' (fun b H3 => if b = true then A H3 else B H3))
    (hte : ∀ (x : Int) (H' : Hp) (Q : VK), Q (.int x) H' → te ((wipe σ [v]).set v (some (.int x))) H' Q)
    (hd : ∀ H', Same H1 H' → H' D = some (.lst ((ns.filter f).map V.int)) → Qd H') :
    ∃ W : Nat → Nat → Hp → Prop, (∃ m, W 0 m (upd H1 D (.lst []))) ∧ ∀ i m H, W i m H →
      ((Itl K a).stop i H ∧ Qd H) ∨ ((Itl K a).go i H ∧ ∃ Nx : Hp → Prop, (∀ H', Nx H' → ∃ m', m' < m ∧ W (i + 1) m' H') ∧ ∀ x H', (Itl K a).yld i H x H' → gName v x (wipe σ [v]) H' fun σ2 H2 => wipe σ2 [v] = wipe σ [v] ∧ tt σ2 H2 fun b H3 =>
        if b = true then te σ2 H3 fun y H4 => ∃ acc, H4 D = some (.lst acc) ∧ acc.length < sizeLine ∧ Nx (upd H4 D (.lst (acc ++ [y]))) else Nx H3) := by
  refine lc_list (K := K) (a := a) (xs := ns.map V.int) (fun i H' => Same H1 H' ∧ H' D = some (.lst (((ns.take i).filter f).map V.int))) ⟨same_upd nD, upd_same⟩ (fun i H' _ p => sqL_same p.1 hT) (fun i x H' hx p => ?_) fun H' p => ?_
  · obtain ⟨k, g, rfl⟩ := map_at hx
    refine ⟨by simp [wipe, List.set_set], htest k (List.mem_of_getElem? g) H' p.1 _ _ fun H2 s2 => ?_⟩
    have s12 := p.1.trans s2
    have e2 := s2 _ _ p.2
    by_cases e : f k = true
    · rw [if_pos e]
      refine hte k H2 _ ⟨_, e2, ?_, fun b o z => ?_, ?_⟩
      · rw [List.length_map]
        exact few1 (Nat.le_trans (List.length_filter_le _ _) (by rw [List.length_take]; omega))
      · rw [upd_ne (ne_of_none z nD)]; exact s12 b o z
      · rw [upd_same, take_filt g, if_pos e, List.map_append]; rfl
    · rw [if_neg e]
      exact ⟨s12, by rw [take_filt g, if_neg e, List.append_nil]; exact e2⟩
  · rw [List.length_map, List.take_of_length_le (Nat.le_refl _)] at p
    exact hd H' p.1 p.2
end
/-! ### x in l, of ints -/
theorem dpL {K : PySem.W.Frag} {H : Hp} {a : Addr} {ns : List Int} (h : SqL K H a (ns.map V.int)) : Dp K H (.ref a) (.list (ns.map PyData.int)) := .lst h (dpInts ns)
theorem shapedLI (ns : List Int) : SeqAt.shaped (.list (ns.map PyData.int)) = true := by
  have h1 : (PyData.list (ns.map PyData.int)).canLay0 = true := by simp only [PyData.canLay0]; exact lay_ints ns
  have h2 : (PyData.list (ns.map PyData.int)).depth ≤ 64 := by simp only [PyData.depth, dep_ints]; omega
  show ((PyData.list (ns.map PyData.int)).canLay0 && decide ((PyData.list (ns.map PyData.int)).depth ≤ 64)) = true
  rw [h1, decide_eq_true h2]; rfl
theorem shapedN (n : Int) : SeqAt.shaped (.int n) = true := by
  show ((PyData.int n).canLay0 && decide ((PyData.int n).depth ≤ 64)) = true
  simp [PyData.canLay0, PyData.depth]
theorem any_int (x : Int) : ∀ ns : List Int, (ns.map PyData.int).any (fun y => PyData.eqv y (.int x)) = decide (x ∈ ns)
  | [] => rfl
  | n :: r => by
    rw [List.map_cons, List.any_cons, any_int x r]
    by_cases e : x = n
    · subst e; simp [PyData.eqv]
    · have e' : ¬ n = x := fun z => e z.symm
      by_cases e2 : x ∈ r <;> simp [PyData.eqv, e, e', e2]
section
variable {X : Cx}
/-- n in t, t a tuple of ints -/
def rInTI (K : PySem.W.Frag) : R2 := fun x y H Q => ∃ (b : Addr) (n : Int) (ns : List Int), x = .int n ∧ y = .ref b ∧ SqT K H b (ns.map V.int) ∧ Q (.bl (decide (n ∈ ns))) H
theorem op_inTI (hu : X.A.units + 65 < cLine) : OpR X (compareOp .In) (rInTI X.K) := by
  intro pins s σ H x y v u Q I rx ry h
  obtain ⟨b, n, ns, rfl, rfl, h2, q⟩ := h
  obtain ⟨as, r1⟩ := Dp.reads I (.int n) (.int n) v (.int n) rx
  obtain ⟨bs, r2⟩ := Dp.reads I (dI ns) (.ref b) u (dpT h2) ry
  refine SeqAt.in_tuple_reads (xs := ns.map PyData.int) r2 r1 (lay_ints ns) (by simp [PyData.canLay0]) ?_ ⟨.bl _, H, I, rfl, ?_⟩
  · have := Nat.min_le_right (PyData.depthAll (ns.map PyData.int)) (PyData.int n).depth
    have e : (PyData.int n).depth = 0 := by simp [PyData.depth]
    omega
  · rw [any_int]; exact q
theorem op_inTIK {K : PySem.W.Frag} (h : X.K = K) (hu : X.A.units + 65 < cLine) : OpR X (compareOp .In) (rInTI K) := h ▸ op_inTI hu
end
end RV
namespace RV
open PySem L2
/-! ### who comes to whom by one step or more -/
inductive Rch (ps : List (List Int)) : Int → Int → Prop where
  | one {i j : Int} : [i, j] ∈ ps → Rch ps i j
  | more {i j k : Int} : Rch ps i j → [j, k] ∈ ps → Rch ps i k
theorem Rch.trans {ps : List (List Int)} {i j k : Int} (h : Rch ps i j) (g : Rch ps j k) : Rch ps i k := by
  induction g with
  | one e => exact .more h e
  | more _ e ih => exact .more ih e
theorem Rch.bound {ps : List (List Int)} {n : Int} (hb : ∀ p ∈ ps, Pr n p) {i j : Int} (h : Rch ps i j) : (0 ≤ i ∧ i < n) ∧ (0 ≤ j ∧ j < n) := by
  induction h with
  | one e =>
    obtain ⟨x, y, e2, hx, hy⟩ := hb _ e
    injection e2 with e3 e4
    injection e4 with e4 _
    subst e3 e4
    exact ⟨hx, hy⟩
  | more _ e ih =>
    obtain ⟨x, y, e2, hx, hy⟩ := hb _ e
    injection e2 with e3 e4
    injection e4 with e4 _
    subst e3 e4
    exact ⟨ih.1, hy⟩
/-- a lot that holds all right behind m and is closed -/
theorem rch_closed {ps : List (List Int)} {m : Int} {fs : List Int} (h1 : ∀ j, [m, j] ∈ ps → j ∈ fs) (h2 : ∀ x ∈ fs, ∀ j, [x, j] ∈ ps → j ∈ fs) {j : Int} (h : Rch ps m j) : j ∈ fs := by
  induction h with
  | one e => exact h1 _ e
  | more _ e ih => exact h2 _ ih _ e
noncomputable def rB (ps : List (List Int)) (i j : Int) : Bool := @decide (Rch ps i j) (Classical.propDecidable _)
theorem rB_iff {ps : List (List Int)} {i j : Int} : rB ps i j = true ↔ Rch ps i j := by
  unfold rB
  exact @decide_eq_true_iff _ (Classical.propDecidable _)
/-! ### numbers below n -/
def upN (n : Nat) : List Int := (List.range n).map fun (i : Nat) => (i : Int)
theorem upN_get {n k : Nat} (h : k < n) : (upN n)[k]? = some (k : Int) := by
  unfold upN
  rw [List.getElem?_map, List.getElem?_range h]; rfl
theorem upN_len (n : Nat) : (upN n).length = n := by unfold upN; rw [List.length_map, List.length_range]
theorem mem_upN {n : Nat} {x : Int} : x ∈ upN n ↔ 0 ≤ x ∧ x < (n : Int) := by
  unfold upN
  rw [List.mem_map]
  constructor
  · rintro ⟨k, hk, rfl⟩
    have := List.mem_range.mp hk
    omega
  · rintro ⟨h0, h1⟩
    exact ⟨x.toNat, List.mem_range.mpr (by omega), by omega⟩
theorem upN_rise (n : Nat) : (upN n).Pairwise (· < ·) := by
  unfold upN
  rw [List.pairwise_map]
  exact List.Pairwise.imp (fun {a b} (h : a < b) => by omega) List.pairwise_lt_range
/-! ### the lot of a mark -/
noncomputable def lotOf (ps : List (List Int)) (n : Nat) (m : Int) : List Int := (upN n).filter fun j => rB ps m j && rB ps j m
theorem mem_lot {ps : List (List Int)} {n : Nat} {m j : Int} : j ∈ lotOf ps n m ↔ (0 ≤ j ∧ j < (n : Int)) ∧ Rch ps m j ∧ Rch ps j m := by
  unfold lotOf
  rw [List.mem_filter, mem_upN, Bool.and_eq_true, rB_iff, rB_iff]
theorem lot_rise (ps : List (List Int)) (n : Nat) (m : Int) : (lotOf ps n m).Pairwise (· < ·) := (upN_rise n).filter _
theorem lot_len (ps : List (List Int)) (n : Nat) (m : Int) : (lotOf ps n m).length ≤ n := by
  have := List.length_filter_le (fun j => rB ps m j && rB ps j m) (upN n)
  rw [upN_len] at this
  exact this
theorem lot_eq {ps : List (List Int)} {n : Nat} {m j : Int} (h : j ∈ lotOf ps n m) : lotOf ps n j = lotOf ps n m := by
  obtain ⟨_, h1, h2⟩ := mem_lot.mp h
  unfold lotOf
  refine List.filter_congr fun x _ => ?_
  rw [Bool.eq_iff_iff, Bool.and_eq_true, Bool.and_eq_true, rB_iff, rB_iff, rB_iff, rB_iff]
  exact ⟨fun ⟨a, b⟩ => ⟨h1.trans a, b.trans h2⟩, fun ⟨a, b⟩ => ⟨h2.trans a, b.trans h1⟩⟩
theorem lot_self {ps : List (List Int)} {n : Nat} {m : Int} (hm : 0 ≤ m ∧ m < (n : Int)) (h : Rch ps m m) : m ∈ lotOf ps n m := mem_lot.mpr ⟨hm, h, h⟩
theorem lot_none {ps : List (List Int)} {n : Nat} {m : Int} (h : ¬ Rch ps m m) : lotOf ps n m = [] := by
  refine List.eq_nil_iff_forall_not_mem.mpr fun j hj => ?_
  obtain ⟨_, h1, h2⟩ := mem_lot.mp hj
  exact h (h1.trans h2)
theorem lot_some {ps : List (List Int)} {n : Nat} {m j : Int} (h : j ∈ lotOf ps n m) : Rch ps m m := by
  obtain ⟨_, h1, h2⟩ := mem_lot.mp h
  exact h1.trans h2
/-! ### the parts -/
noncomputable def isHead (ps : List (List Int)) (n : Nat) (m : Int) : Bool := decide ((lotOf ps n m).head? = some m)
noncomputable def partsOf (ps : List (List Int)) (n : Nat) : List (List Int) := ((upN n).filter (isHead ps n)).map (lotOf ps n)
theorem mem_parts {ps : List (List Int)} {n : Nat} {p : List Int} : p ∈ partsOf ps n ↔ ∃ m : Int, (0 ≤ m ∧ m < (n : Int)) ∧ (lotOf ps n m).head? = some m ∧ p = lotOf ps n m := by
  unfold partsOf isHead
  rw [List.mem_map]
  constructor
  · rintro ⟨m, hm, rfl⟩
    obtain ⟨h1, h2⟩ := List.mem_filter.mp hm
    exact ⟨m, mem_upN.mp h1, of_decide_eq_true h2, rfl⟩
  · rintro ⟨m, h1, h2, rfl⟩
    exact ⟨m, List.mem_filter.mpr ⟨mem_upN.mpr h1, decide_eq_true h2⟩, rfl⟩
theorem lot_part {ps : List (List Int)} {n : Nat} {m j : Int} (h : j ∈ lotOf ps n m) : lotOf ps n m ∈ partsOf ps n := by
  cases e : lotOf ps n m with
  | nil => rw [e] at h; cases h
  | cons x r =>
    have hx : x ∈ lotOf ps n m := by rw [e]; exact List.mem_cons_self ..
    have ex := lot_eq hx
    refine mem_parts.mpr ⟨x, (mem_lot.mp hx).1, ?_, ?_⟩
    · rw [ex, e]; rfl
    · rw [ex, e]
theorem part_ne {ps : List (List Int)} {n : Nat} {p : List Int} (h : p ∈ partsOf ps n) : p ≠ [] := by
  obtain ⟨m, _, h2, rfl⟩ := mem_parts.mp h
  intro e
  rw [e] at h2; cases h2
theorem part_lot {ps : List (List Int)} {n : Nat} {p : List Int} {x : Int} (h : p ∈ partsOf ps n) (hx : x ∈ p) : lotOf ps n x = p := by
  obtain ⟨m, _, _, rfl⟩ := mem_parts.mp h
  exact lot_eq hx
def hd0 (l : List Int) : Int := l.headD 0
theorem parts_rise (ps : List (List Int)) (n : Nat) : (partsOf ps n).Pairwise fun p q => hd0 p < hd0 q := by
  unfold partsOf
  rw [List.pairwise_map]
  refine List.Pairwise.imp_of_mem (fun {a b} ha hb (h : a < b) => ?_) ((upN_rise n).filter _)
  have ea : (lotOf ps n a).head? = some a := of_decide_eq_true (List.mem_filter.mp ha).2
  have eb : (lotOf ps n b).head? = some b := of_decide_eq_true (List.mem_filter.mp hb).2
  unfold hd0
  rw [List.headD_eq_head?_getD, List.headD_eq_head?_getD, ea, eb]
  exact h
theorem parts_nodup (ps : List (List Int)) (n : Nat) : (partsOf ps n).Nodup := (parts_rise ps n).imp fun {a b} h e => by rw [e] at h; omega
theorem parts_len (ps : List (List Int)) (n : Nat) : (partsOf ps n).length ≤ n := by
  unfold partsOf
  rw [List.length_map]
  have := List.length_filter_le (isHead ps n) (upN n)
  rw [upN_len] at this
  exact this
/-- of two lots unlike heads tell which is ahead -/
theorem part_hd {ps : List (List Int)} {n : Nat} {p q : List Int} (hp : p ∈ partsOf ps n) (hq : q ∈ partsOf ps n) (h : hd0 p = hd0 q) : p = q := by
  obtain ⟨a, _, ea, rfl⟩ := mem_parts.mp hp
  obtain ⟨b, _, eb, rfl⟩ := mem_parts.mp hq
  unfold hd0 at h
  rw [List.headD_eq_head?_getD, List.headD_eq_head?_getD, ea, eb] at h
  have h' : a = b := h
  rw [h']
/-! ### the table that is gone on with, mark by mark -/
def Wsh (ps : List (List Int)) : Nat → Int → Int → Prop
  | 0, i, j => [i, j] ∈ ps
  | k + 1, i, j => Wsh ps k i j ∨ (Wsh ps k i (k : Int) ∧ Wsh ps k (k : Int) j)
theorem Wsh.up {ps : List (List Int)} {i j : Int} (h : [i, j] ∈ ps) : ∀ k, Wsh ps k i j
  | 0 => h
  | k + 1 => .inl (Wsh.up h k)
theorem Wsh.rch {ps : List (List Int)} : ∀ {k : Nat} {i j : Int}, Wsh ps k i j → Rch ps i j
  | 0, _, _, h => .one h
  | k + 1, _, _, .inl h => Wsh.rch h
  | k + 1, _, _, .inr h => (Wsh.rch h.1).trans (Wsh.rch h.2)
theorem Wsh.amid {ps : List (List Int)} : ∀ (k : Nat) (m : Nat) (i j : Int), m < k → Wsh ps k i (m : Int) → Wsh ps k (m : Int) j → Wsh ps k i j
  | 0, _, _, _, h, _, _ => absurd h (Nat.not_lt_zero _)
  | k + 1, m, i, j, h, h1, h2 => by
    by_cases e : m = k
    · subst e
      have a1 : Wsh ps m i (m : Int) := h1.elim id fun z => z.1
      have a2 : Wsh ps m (m : Int) j := h2.elim id fun z => z.2
      exact .inr ⟨a1, a2⟩
    · have hm : m < k := by omega
      have T := fun i j => Wsh.amid (ps := ps) k m i j hm
      rcases h1 with h1 | ⟨p1, p2⟩
      · rcases h2 with h2 | ⟨q1, q2⟩
        · exact .inl (T _ _ h1 h2)
        · exact .inr ⟨T _ _ h1 q1, q2⟩
      · rcases h2 with h2 | ⟨q1, q2⟩
        · exact .inr ⟨p1, T _ _ p2 h2⟩
        · exact .inr ⟨p1, q2⟩
theorem rch_wsh {ps : List (List Int)} {n : Nat} (hb : ∀ p ∈ ps, Pr (n : Int) p) {i j : Int} (h : Rch ps i j) : Wsh ps n i j := by
  induction h with
  | one e => exact Wsh.up e n
  | @more j k _ e ih =>
    have b := (Rch.bound hb (.one e)).1
    have ej : j = ((j.toNat : Nat) : Int) := by omega
    rw [ej] at ih e
    exact Wsh.amid n j.toNat _ _ (by omega) ih (Wsh.up e n)
end RV
set_option maxHeartbeats 4000000
namespace RV
open PySem PySem.Spec PyProof.Rows L2
section
variable {K : PySem.W.Frag} {tt : TT} {te : TE} {f : Int → Bool} {σ : L2.St} {H1 : Hp} {D : Addr} {v n : Nat} {Qd : Hp → Prop}
/-- [x for x in range(n) if ..] -/
theorem lc_filtR (hl : n ≤ 1000) (nD : H1 D = none)
    (htest : ∀ x : Int, 0 ≤ x → x < (n : Int) → ∀ H', Same H1 H' → ∀ A B : Hp → Prop, (∀ H2, Same H' H2 → if f x = true then A H2 else B H2) → tt ((wipe σ [v]).set v (some (.int x))) H' (fun b H3 => if b = true then A H3 else B H3))
    (hte : ∀ (x : Int) (H' : Hp) (Q : VK), Q (.int x) H' → te ((wipe σ [v]).set v (some (.int x))) H' Q)
    (hd : ∀ H', Same H1 H' → H' D = some (.lst (((upN n).filter f).map V.int)) → Qd H') :
    ∃ W : Nat → Nat → Hp → Prop, (∃ m, W 0 m (upd H1 D (.lst []))) ∧ ∀ i m H, W i m H →
      ((Itr 0 n).stop i H ∧ Qd H) ∨ ((Itr 0 n).go i H ∧ ∃ Nx : Hp → Prop, (∀ H', Nx H' → ∃ m', m' < m ∧ W (i + 1) m' H') ∧ ∀ x H', (Itr 0 n).yld i H x H' → gName v x (wipe σ [v]) H' fun σ2 H2 => wipe σ2 [v] = wipe σ [v] ∧ tt σ2 H2 fun b H3 =>
        if b = true then te σ2 H3 fun y H4 => ∃ acc, H4 D = some (.lst acc) ∧ acc.length < sizeLine ∧ Nx (upd H4 D (.lst (acc ++ [y]))) else Nx H3) := by
  refine lc_range (lo := 0) (n := n) (fun i H' => Same H1 H' ∧ H' D = some (.lst ((((upN n).take i).filter f).map V.int))) ⟨same_upd nD, upd_same⟩ (fun i H' hi p => ?_) fun H' p => ?_
  · have g : (upN n)[i]? = some (i : Int) := upN_get hi
    rw [Int.zero_add]
    refine ⟨by simp [wipe, List.set_set], htest (i : Int) (by omega) (by omega) H' p.1 _ _ fun H2 s2 => ?_⟩
    have s12 := p.1.trans s2
    have e2 := s2 _ _ p.2
    by_cases e : f (i : Int) = true
    · rw [if_pos e]
      refine hte _ H2 _ ⟨_, e2, ?_, fun b o z => ?_, ?_⟩
      · rw [List.length_map]
        exact few1 (Nat.le_trans (List.length_filter_le _ _) (by rw [List.length_take, upN_len]; omega))
      · rw [upd_ne (ne_of_none z nD)]; exact s12 b o z
      · rw [upd_same, take_filt g, if_pos e, List.map_append]; rfl
    · rw [if_neg e]
      exact ⟨s12, by rw [take_filt g, if_neg e, List.append_nil]; exact e2⟩
  · rw [List.take_of_length_le (by rw [upN_len]; exact Nat.le_refl _)] at p
    exact hd H' p.1 p.2
end
end RV
set_option maxHeartbeats 4000000
namespace RV
open PySem PySem.Spec PyProof.Rows L2
def fromN (lo : Int) (n : Nat) : List Int := (List.range n).map fun (i : Nat) => lo + (i : Int)
theorem fromN_get {lo : Int} {n k : Nat} (h : k < n) : (fromN lo n)[k]? = some (lo + (k : Int)) := by
  unfold fromN
  rw [List.getElem?_map, List.getElem?_range h]; rfl
theorem fromN_len (lo : Int) (n : Nat) : (fromN lo n).length = n := by unfold fromN; rw [List.length_map, List.length_range]
theorem mem_fromN {lo : Int} {n : Nat} {x : Int} : x ∈ fromN lo n ↔ lo ≤ x ∧ x < lo + (n : Int) := by
  unfold fromN
  rw [List.mem_map]
  constructor
  · rintro ⟨k, hk, rfl⟩
    have := List.mem_range.mp hk
    omega
  · rintro ⟨h0, h1⟩
    exact ⟨(x - lo).toNat, List.mem_range.mpr (by omega), by omega⟩
theorem pe_weakR {X : Cx} {e : Expr} {t t' : TE} (h : PE X e t) (imp : ∀ σ H Q, t' σ H Q → t σ H Q) : PE X e t' := ⟨fun pins s σ H Q I q => h.run pins s σ H Q I (imp σ H Q q)⟩
section
variable {X : Cx} {K : PySem.W.Frag}
theorem cr_allK (h : X.K = K) (hc : X.calm = true) : CallR X (.builtin "all") (rAll K) := h ▸ cr_all hc
theorem pi_listK {tg l : Expr} {tl : TE} (h : X.K = K) (hl : PE X l tl) : PI X tg l (iList K tl) := h ▸ pi_list hl
theorem pi_tupK {tg l : Expr} {tl : TE} (h : X.K = K) (hl : PE X l tl) : PI X tg l (iTup K tl) := h ▸ pi_tup hl
end
section
variable {K : PySem.W.Frag} {tt : TT} {te : TE} {f : Int → Bool} {h : Int → Int} {σ : L2.St} {H1 : Hp} {D : Addr} {v n : Nat} {lo : Int} {Qd : Hp → Prop}
/-- [h(x) for x in range(lo, ..) if f(x)] -/
theorem lc_mapR (hl : n ≤ 1000) (nD : H1 D = none)
    (htest : ∀ x ∈ fromN lo n, ∀ H', Same H1 H' → ∀ A B : Hp → Prop, (∀ H2, Same H' H2 → if f x = true then A H2 else B H2) → tt ((wipe σ [v]).set v (some (.int x))) H' (fun b H3 => if b = true then A H3 else B H3))
    (hte : ∀ x ∈ fromN lo n, ∀ (H' : Hp) (Q : VK), Same H1 H' → f x = true → (∀ H2, Same H' H2 → Q (.int (h x)) H2) → te ((wipe σ [v]).set v (some (.int x))) H' Q)
    (hd : ∀ H', Same H1 H' → H' D = some (.lst ((((fromN lo n).filter f).map h).map V.int)) → Qd H') :
    ∃ W : Nat → Nat → Hp → Prop, (∃ m, W 0 m (upd H1 D (.lst []))) ∧ ∀ i m H, W i m H →
      ((Itr lo n).stop i H ∧ Qd H) ∨ ((Itr lo n).go i H ∧ ∃ Nx : Hp → Prop, (∀ H', Nx H' → ∃ m', m' < m ∧ W (i + 1) m' H') ∧ ∀ x H', (Itr lo n).yld i H x H' → gName v x (wipe σ [v]) H' fun σ2 H2 => wipe σ2 [v] = wipe σ [v] ∧ tt σ2 H2 fun b H3 =>
        if b = true then te σ2 H3 fun y H4 => ∃ acc, H4 D = some (.lst acc) ∧ acc.length < sizeLine ∧ Nx (upd H4 D (.lst (acc ++ [y]))) else Nx H3) := by
  refine lc_range (lo := lo) (n := n) (fun i H' => Same H1 H' ∧ H' D = some (.lst (((((fromN lo n).take i).filter f).map h).map V.int))) ⟨same_upd nD, upd_same⟩ (fun i H' hi p => ?_) fun H' p => ?_
  · have g : (fromN lo n)[i]? = some (lo + (i : Int)) := fromN_get hi
    have hm := List.mem_of_getElem? g
    refine ⟨by simp [wipe, List.set_set], htest _ hm H' p.1 _ _ fun H2 s2 => ?_⟩
    have s12 := p.1.trans s2
    have e2 := s2 _ _ p.2
    by_cases e : f (lo + (i : Int)) = true
    · rw [if_pos e]
      refine hte _ hm H2 _ s12 e fun H3 s3 => ⟨_, s3 _ _ e2, ?_, fun b o z => ?_, ?_⟩
      · rw [List.length_map, List.length_map]
        exact few1 (Nat.le_trans (List.length_filter_le _ _) (by rw [List.length_take, fromN_len]; omega))
      · rw [upd_ne (ne_of_none z nD)]; exact s3 _ _ (s12 b o z)
      · rw [upd_same, take_filt g, if_pos e, List.map_append, List.map_append]; rfl
    · rw [if_neg e]
      exact ⟨s12, by rw [take_filt g, if_neg e, List.append_nil]; exact e2⟩
  · rw [List.take_of_length_le (by rw [fromN_len]; exact Nat.le_refl _)] at p
    exact hd H' p.1 p.2
end
/-- [c(x) for x in l] of truths, l a list of ints -/
theorem lc_blL {K : PySem.W.Frag} {te : TE} {c : Int → Bool} {σ : L2.St} {H1 : Hp} {a D : Addr} {v : Nat} {ns : List Int} {Qd : Hp → Prop} (hT : SqL K H1 a (ns.map V.int)) (hl : ns.length ≤ 1000) (nD : H1 D = none)
    (hte : ∀ x ∈ ns, ∀ (H' : Hp) (Q : VK), Same H1 H' → Q (.bl (c x)) H' → te ((wipe σ [v]).set v (some (.int x))) H' Q)
    (hd : ∀ H', Same H1 H' → H' D = some (.lst ((ns.map c).map V.bl)) → Qd H') :
    ∃ W : Nat → Nat → Hp → Prop, (∃ m, W 0 m (upd H1 D (.lst []))) ∧ ∀ i m H, W i m H →
      ((Itl K a).stop i H ∧ Qd H) ∨ ((Itl K a).go i H ∧ ∃ Nx : Hp → Prop, (∀ H', Nx H' → ∃ m', m' < m ∧ W (i + 1) m' H') ∧ ∀ x H', (Itl K a).yld i H x H' → gName v x (wipe σ [v]) H' fun σ2 H2 => wipe σ2 [v] = wipe σ [v] ∧ tYes σ2 H2 fun b H3 =>
        if b = true then te σ2 H3 fun y H4 => ∃ acc, H4 D = some (.lst acc) ∧ acc.length < sizeLine ∧ Nx (upd H4 D (.lst (acc ++ [y]))) else Nx H3) := by
  refine lc_list (K := K) (a := a) (xs := ns.map V.int) (fun i H' => Same H1 H' ∧ H' D = some (.lst (((ns.take i).map c).map V.bl))) ⟨same_upd nD, upd_same⟩ (fun i H' _ p => sqL_same p.1 hT) (fun i x H' hx p => ?_) fun H' p => ?_
  · obtain ⟨k, g, rfl⟩ := map_at hx
    refine ⟨by simp [wipe, List.set_set], tt_yes (hte k (List.mem_of_getElem? g) H' _ p.1 ⟨_, p.2, ?_, fun b o z => ?_, ?_⟩)⟩
    · rw [List.length_map, List.length_map, List.length_take]; exact few1 (by omega)
    · rw [upd_ne (ne_of_none z nD)]; exact p.1 b o z
    · rw [upd_same, List.take_add_one, g, List.map_append, List.map_append]; rfl
  · rw [List.length_map, List.take_of_length_le (Nat.le_refl _)] at p
    exact hd H' p.1 p.2
end RV
set_option maxHeartbeats 4000000
namespace K43
open PySem PySem.Spec PyProof.Rows L2 RV
/-- a list of tuples of ints, all of them seen -/
def LotsH (H : Hp) (a : Addr) (ls : List (List Int)) : Prop := ∃ ks : List (Addr × List Int), ks.map (·.2) = ls ∧ H a = some (.lst (ks.map fun p => V.ref p.1)) ∧ ∀ p ∈ ks, H p.1 = some (.tup (p.2.map V.int))
theorem LotsH.same {H H' : Hp} {a : Addr} {ls : List (List Int)} (h : LotsH H a ls) (s : Same H H') : LotsH H' a ls := by
  obtain ⟨ks, h1, h2, h3⟩ := h
  exact ⟨ks, h1, s _ _ h2, fun p hp => s _ _ (h3 p hp)⟩
theorem half_sub {m : Nat} {fs ls xs : List Int} (h : Half m fs ls) (nd : xs.Nodup) (sub : ∀ x ∈ xs, x ∈ ls) : Half m fs xs := ⟨h.len, h.inn, h.back, nd, fun x hx => h.lin x (sub x hx), fun x hx => h.self x (sub x hx)⟩
theorem half_len {m : Nat} {fs ls : List Int} (h : Half m fs ls) (h8 : m ≤ 8) : ls.length ≤ 8 := by
  have := nodup_le (us := rgI 0 (m : Int)) h.nd fun z hz => by
    have h1 := h.lin z hz
    exact List.mem_of_getElem? (i := z.toNat) (rgI_get.mpr ⟨by omega, by omega⟩)
  rw [rgI_len] at this; omega
def leftAt : L2.St → Hp → Nat
  | [_, _, _, _, some (.ref lf), _, _], H => lenAt H lf
  | _, _ => 0
section
variable {P : Program} {w : World} {K : PySem.W.Frag} {mg : Str → Option Value} {base : Heap}
/-! ### _law_closed -/
def spClosed (K : PySem.W.Frag) : Sp := fun vs H Q _ => ∃ (u l : Addr) (ns : List Int) (qs : List (List Int)), vs = [.ref u, .ref l] ∧ SqT K H u (ns.map V.int) ∧ LotsH H l qs ∧ Mir ns ∧ (∀ q ∈ qs, Pr (ns.length : Int) q) ∧ qs.length ≤ 1000 ∧
  ∀ (H' : Hp) (c : Addr) (ps : List (List Int)), Same H H' → H c = none → TupsH H' c ps → Stp ns ps → Q (.ref c) H'
/-! ### _law_drawn_mirrors -/
def spDrawn (K : PySem.W.Frag) : Sp := fun vs H Q _ => ∃ (p : Addr) (t m : Nat) (st : Int), vs = [.ref p, .int (m : Int), .int st] ∧ PailAt H p t ∧ t ≤ 3000 ∧ 1 ≤ m ∧ m ≤ 8 ∧
  ∀ (H' : Hp) (u : Addr) (t' : Nat) (ns : List Int), PailAt H' p t' → t' ≤ t + 20 → But p H H' → SqT K H' u (ns.map V.int) → Mir ns → ns.length = m → Q (.ref u) H'
end
end K43
set_option maxHeartbeats 4000000
namespace K43
open PySem PySem.Spec PyProof.Rows L2 RV
def Kd (wh : Int) (v : V) : Prop := v = .non ∨ ∃ n : Int, v = .int n ∧ 0 ≤ n ∧ n < wh
section
variable {P : Program} {w : World} {K : PySem.W.Frag} {mg : Str → Option Value} {base : Heap}
/-! ### _law_kinds -/
def spKinds (K : PySem.W.Frag) : Sp := fun vs H Q _ => ∃ (p u : Addr) (t : Nat) (wh : Nat) (kd : Int) (ns : List Int), vs = [.ref p, .ref u, .int (wh : Int), .int kd] ∧ PailAt H p t ∧ t ≤ 3500 ∧ SqT K H u (ns.map V.int) ∧ Mir ns ∧ 1 ≤ wh ∧ wh ≤ 100 ∧ 0 ≤ kd ∧ kd < (wh : Int) ∧
  ∀ (H' : Hp) (L : Addr) (t' : Nat) (xs : List V), PailAt H' p t' → t' ≤ t + 8 → But p H H' → H L = none → H' L = some (.lst xs) → xs.length = ns.length → (∀ v ∈ xs, Kd (wh : Int) v) → Q (.ref L) H'
end
end K43
set_option maxHeartbeats 4000000
namespace K43
open PySem PySem.Spec PyProof.Rows L2 RV
/-- a list of at most n pairs of marks -/
def PairsH (m : Int) (H : Hp) (L : Addr) (n : Nat) : Prop := ∃ qs : List (List Int), LotsH H L qs ∧ (∀ q ∈ qs, Pr m q) ∧ qs.length ≤ n
theorem PairsH.nil {m : Int} {H : Hp} {L : Addr} (e : H L = some (.lst [])) : PairsH m H L 0 := ⟨[], ⟨[], rfl, e, fun _ z => nomatch z⟩, fun _ z => (nomatch z), Nat.le_refl _⟩
theorem PairsH.le {m : Int} {H : Hp} {L : Addr} {n k : Nat} (h : PairsH m H L n) (e : n ≤ k) : PairsH m H L k := let ⟨qs, h1, h2, h3⟩ := h; ⟨qs, h1, h2, Nat.le_trans h3 e⟩
theorem PairsH.same {m : Int} {H H' : Hp} {L : Addr} {n : Nat} (h : PairsH m H L n) (s : Same H H') : PairsH m H' L n := let ⟨qs, h1, h2, h3⟩ := h; ⟨qs, h1.same s, h2, h3⟩
theorem PairsH.but {m : Int} {H H' : Hp} {L p : Addr} {n t : Nat} (h : PairsH m H L n) (hp : PailAt H p t) (b : But p H H') (hn : L ≠ p) : PairsH m H' L n := by
  obtain ⟨qs, ⟨ks, h1, h2, h3⟩, h4, h5⟩ := h
  obtain ⟨x, y, e, _⟩ := hp
  exact ⟨qs, ⟨ks, h1, b _ _ h2 hn, fun k hk => b _ _ (h3 k hk) fun z => by have w := h3 k hk; rw [z, e] at w; cases w⟩, h4, h5⟩
theorem PairsH.lst {m : Int} {H : Hp} {L : Addr} {n : Nat} (h : PairsH m H L n) : ∃ vs : List V, H L = some (.lst vs) ∧ vs.length ≤ n := by
  obtain ⟨qs, ⟨ks, h1, h2, h3⟩, h4, h5⟩ := h
  exact ⟨_, h2, by rw [List.length_map, ← List.length_map (f := fun p : Addr × List Int => p.2), h1]; exact h5⟩
theorem PairsH.add {m : Int} {H : Hp} {L T : Addr} {n : Nat} {x y : Int} {vs : List V} (h : PairsH m H L n) (e : H L = some (.lst vs)) (nT : H T = none) (hx : 0 ≤ x ∧ x < m) (hy : 0 ≤ y ∧ y < m) : PairsH m (upd (upd H T (.tup [.int x, .int y])) L (.lst (vs ++ [.ref T]))) L (n + 1) := by
  obtain ⟨qs, ⟨ks, h1, h2, h3⟩, h4, h5⟩ := h
  have sT := same_upd (o := .tup [.int x, .int y]) nT
  have ev : vs = ks.map fun p => V.ref p.1 := by rw [e] at h2; cases h2; rfl
  subst ev
  refine ⟨qs ++ [[x, y]], ⟨ks ++ [(T, [x, y])], by rw [List.map_append, h1]; rfl, by rw [upd_same, List.map_append]; rfl, fun k hk => ?_⟩, fun q hq => ?_, by rw [List.length_append]; simp; omega⟩
  · rcases List.mem_append.mp hk with hk | hk
    · rw [upd_ne (fun z => by have w := h3 k hk; rw [z, e] at w; cases w)]; exact sT _ _ (h3 k hk)
    · rw [List.mem_singleton.mp hk, upd_ne (ne_of_none e nT).symm]; exact upd_same
  · rcases List.mem_append.mp hq with hq | hq
    · exact h4 q hq
    · rw [List.mem_singleton.mp hq]; exact ⟨x, y, rfl, hx, hy⟩
theorem but_free {p a : Addr} {H H' : Hp} {t : Nat} (b : But p H H') (hp : PailAt H' p t) (n : H' a = none) : H a = none := by
  cases e : H a with
  | none => rfl
  | some o =>
    have z := b a o e (pail_ne hp n)
    rw [n] at z; cases z
section
variable {P : Program} {w : World} {K : PySem.W.Frag} {mg : Str → Option Value} {base : Heap}
/-! ### _law_wheel_pairs -/
def spWheel (K : PySem.W.Frag) : Sp := fun vs H Q _ => ∃ (p u : Addr) (t : Nat) (wh : Nat) (kd th : Int) (ns : List Int), vs = [.ref p, .ref u, .int (wh : Int), .int kd, .int th] ∧ PailAt H p t ∧ t ≤ 3400 ∧ SqT K H u (ns.map V.int) ∧ Mir ns ∧ 1 ≤ wh ∧ wh ≤ 100 ∧ 0 ≤ kd ∧ kd < (wh : Int) ∧
  ∀ (H' : Hp) (L : Addr) (t' : Nat), PailAt H' p t' → t' ≤ t + 80 → But p H H' → H L = none → PairsH (ns.length : Int) H' L 64 → Q (.ref L) H'
end
end K43
set_option maxHeartbeats 4000000
namespace K43
open PySem PySem.Spec PyProof.Rows L2 RV
section
variable {P : Program} {w : World} {K : PySem.W.Frag} {mg : Str → Option Value} {base : Heap}
/-! ### _law_side_pairs -/
def spSide (K : PySem.W.Frag) : Sp := fun vs H Q _ => ∃ (p u : Addr) (t : Nat) (th : Int) (ns : List Int), vs = [.ref p, .ref u, .int th] ∧ PailAt H p t ∧ t ≤ 3400 ∧ SqT K H u (ns.map V.int) ∧ Mir ns ∧
  ∀ (H' : Hp) (L : Addr) (t' : Nat), PailAt H' p t' → t' ≤ t + 128 → But p H H' → H L = none → PairsH (ns.length : Int) H' L 64 → Q (.ref L) H'
end
end K43
set_option maxHeartbeats 4000000
namespace K43
open PySem PySem.Spec PyProof.Rows L2 RV
/-- mirrors and steps as one pair -/
def OwnH (K : PySem.W.Frag) (H : Hp) (R : Addr) (ns : List Int) (ps : List (List Int)) : Prop := ∃ u c : Addr, H R = some (.tup [.ref u, .ref c]) ∧ SqT K H u (ns.map V.int) ∧ TupsH H c ps ∧ Mir ns ∧ Stp ns ps
theorem sqT_lst {K : PySem.W.Frag} {H : Hp} {D : Addr} {vs : List V} {o' : HO} (e : H D = some (.lst vs)) {a : Addr} {xs : List V} (h : SqT K H a xs) : SqT K (upd H D o') a xs := by
  rcases h with (h | ⟨o, h⟩) | h
  · exact .inl (.inl (by rw [upd_ne (fun z => by rw [z, e] at h; cases h)]; exact h))
  · exact .inl (.inr ⟨o, by rw [upd_ne (fun z => by rw [z, e] at h; cases h)]; exact h⟩)
  · exact .inr h
section
variable {P : Program} {w : World} {K : PySem.W.Frag} {mg : Str → Option Value} {base : Heap}
/-! ### _law_rule -/
def spRule (K : PySem.W.Frag) : Sp := fun vs H Q _ => ∃ (p : Addr) (t m : Nat), vs = [.ref p, .int (m : Int)] ∧ PailAt H p t ∧ t ≤ 2500 ∧ 1 ≤ m ∧ m ≤ 8 ∧
  ∀ (H' : Hp) (R : Addr) (t' : Nat) (ns : List Int) (ps : List (List Int)), PailAt H' p t' → t' ≤ t + 200 → But p H H' → OwnH K H' R ns ps → Q (.ref R) H'
end
end K43
set_option maxHeartbeats 4000000
namespace K43
open PySem PySem.Spec PyProof.Rows L2 RV
theorem pow180n : ((10 : Int) ^ (60 : Int).toNat * (10 : Int) ^ (60 : Int).toNat * (10 : Int) ^ (60 : Int).toNat).natAbs < 2 ^ 600 := by decide +kernel
theorem pow240 : (0 : Int) < (10 : Int) ^ (60 : Int).toNat * (10 : Int) ^ (60 : Int).toNat * (10 : Int) ^ (60 : Int).toNat * (10 : Int) ^ (60 : Int).toNat := by decide +kernel
section
variable {P : Program} {w : World} {K : PySem.W.Frag} {mg : Str → Option Value} {base : Heap}
/-! ### _law_hand -/
theorem scHand : FnScope ["_law_script", "_law_k", "_law_cell", "_law_own"] ["_law_script", "_law_k"] (defScope sHand) := ⟨rfl, rfl, rfl, by decide +kernel, rfl, by decide +kernel, by decide +kernel⟩
theorem ok_hand {f : Addr} {fd : FuncData} (F : Fun K "_law_hand" "_law_hand" sHand f fd) (B : Bare mg) : FnOk P w K mg base CX0 1 f fd ["_law_script", "_law_k"] (spHand K) := by
  refine F.ok scHand (fun vs H Q E h => ?_) (fun cdv A outer s H vs Q E hr h => ?_)
  · obtain ⟨a, ns, k, rfl, _⟩ := h
    rfl
  · obtain ⟨a, ns, k, rfl, hS, hk, q⟩ := h
    refine ⟨_, pss_cons (ps_set (i := 2) scHand.nd rfl (Or.inl rfl) (pe_ifExp (pt_cmpR op_lt (pv 1) (pe_callB call_len_seq (by rfl) B.len PySem.boot_len (pa_cons (pv 0) pa_nil)) (nomark _)) (pe_ix ix_list (pv 0) (pv 1) (fun _ _ => rfl)) pe_int))
      (pss_cons (ps_set (i := 3) scHand.nd rfl (Or.inl rfl) (pe_op op_mul (pe_op op_mod (pe_callB call_abs (by rfl) B.abs (by decide +kernel) (pa_cons (pv 2) pa_nil)) (pe_op op_mulW (pe_op op_mulW (pe_op op_mulW (pe_op op_pow pe_int pe_int) (pe_op op_pow pe_int pe_int)) (pe_op op_pow pe_int pe_int)) (pe_op op_pow pe_int pe_int))) (pe_callTy call_int1 (by rfl) B.int boot_int (pa_cons (pe_cmpR op_ge (pe_callB call_abs (by rfl) B.abs (by decide +kernel) (pa_cons (pv 2) pa_nil)) (pe_op op_pow pe_int pe_int) (nomark _)) pa_nil))))
      (pss_one (ps_ret (pe_lst (pa_cons (pv 3) (pa_cons (pe_op op_add (pe_op op_add (pe_op op_mod (pv 2) pe_int) (pe_op op_mul pe_int (pv 1))) pe_int) (pa_cons pe_int pa_nil))))))), ?_⟩
    have go : ∀ (cell : Int), ∃ great : Int, great = ((if cell < 0 then -cell else cell) % ((10 : Int) ^ (60 : Int).toNat * (10 : Int) ^ (60 : Int).toNat * (10 : Int) ^ (60 : Int).toNat * (10 : Int) ^ (60 : Int).toNat)) := fun cell => ⟨_, rfl⟩
    refine ⟨.int (k : Int), rfl, .ref a, rfl, a, _, rfl, .inl hS, (k : Int), _, rfl, rfl, _, rfl, ite2 (fun hlt => ?_) (fun _ => ?_)⟩
    · have hkl : k < ns.length := by
        have z := of_decide_eq_true hlt
        rw [List.length_map] at z; omega
      refine ⟨.ref a, rfl, .int (k : Int), rfl, a, _, (k : Int), .int ns[k], rfl, rfl, hS, atI_nat (by rw [List.getElem?_map, List.getElem?_eq_getElem hkl]; rfl), ?_⟩
      generalize ns[k] = cell
      have own0 := Int.emod_nonneg (if cell < 0 then -cell else cell) (Int.ne_of_gt pow240)
      refine ⟨_, rfl, cell, rfl, 10, 60, rfl, rfl, ⟨by decide, by decide, by decide⟩, 10, 60, rfl, rfl, ⟨by decide, by decide, by decide⟩, _, _, rfl, rfl, wide_mul pow60 pow60 (by decide) (by decide) (by decide), 10, 60, rfl, rfl, ⟨by decide, by decide, by decide⟩, _, _, rfl, rfl, wide_mul pow120 pow60 (by decide) (by decide) (by decide), 10, 60, rfl, rfl, ⟨by decide, by decide, by decide⟩, _, _, rfl, rfl, wide_mul pow180n pow60 (by decide) (by decide) (by decide), _, _, rfl, rfl, pow240, _, rfl, cell, rfl, 10, 18, rfl, rfl, ⟨by decide, by decide, by decide⟩, _, _, rfl, rfl, .inr ⟨_, rfl, _, _, rfl, rfl, .inr ?_, ?_⟩⟩
      · exact flag01 _
      · refine ⟨_, rfl, _, rfl, cell, 2305843009213693951, rfl, rfl, (show (0 : Int) < 2305843009213693951 by decide), .int (k : Int), rfl, 1299709, (k : Int), rfl, rfl, .inl ⟨by decide, by decide⟩, _, _, rfl, rfl, _, 71, rfl, rfl, (by show 3 ≤ sizeLine; decide), fun p np => ?_⟩
        exact q _ p (same_upd np) np ⟨_, _, upd_same, mul_flag own0 _, by have := Int.emod_nonneg (cell : Int) (show (2305843009213693951 : Int) ≠ 0 by decide); omega, by have := Int.emod_lt_of_pos (cell : Int) (show (0 : Int) < 2305843009213693951 by decide); omega⟩
    · have own0 := Int.emod_nonneg (if (0 : Int) < 0 then -0 else 0) (Int.ne_of_gt pow240)
      refine ⟨_, rfl, 0, rfl, 10, 60, rfl, rfl, ⟨by decide, by decide, by decide⟩, 10, 60, rfl, rfl, ⟨by decide, by decide, by decide⟩, _, _, rfl, rfl, wide_mul pow60 pow60 (by decide) (by decide) (by decide), 10, 60, rfl, rfl, ⟨by decide, by decide, by decide⟩, _, _, rfl, rfl, wide_mul pow120 pow60 (by decide) (by decide) (by decide), 10, 60, rfl, rfl, ⟨by decide, by decide, by decide⟩, _, _, rfl, rfl, wide_mul pow180n pow60 (by decide) (by decide) (by decide), _, _, rfl, rfl, pow240, _, rfl, 0, rfl, 10, 18, rfl, rfl, ⟨by decide, by decide, by decide⟩, _, _, rfl, rfl, .inr ⟨_, rfl, _, _, rfl, rfl, .inr ?_, ?_⟩⟩
      · exact flag01 _
      · refine ⟨_, rfl, _, rfl, 0, 2305843009213693951, rfl, rfl, (show (0 : Int) < 2305843009213693951 by decide), .int (k : Int), rfl, 1299709, (k : Int), rfl, rfl, .inl ⟨by decide, by decide⟩, _, _, rfl, rfl, _, 71, rfl, rfl, (by show 3 ≤ sizeLine; decide), fun p np => ?_⟩
        exact q _ p (same_upd np) np ⟨_, _, upd_same, mul_flag own0 _, by have := Int.emod_nonneg (0 : Int) (show (2305843009213693951 : Int) ≠ 0 by decide); omega, by have := Int.emod_lt_of_pos (0 : Int) (show (0 : Int) < 2305843009213693951 by decide); omega⟩
/-! ### _law_take -/
theorem scDraw : FnScope ["_law_hand_here", "_law_many", "_law_digit", "_law_prime", "_law_drawn"] ["_law_hand_here", "_law_many"] (defScope sDraw) := ⟨rfl, rfl, rfl, by decide +kernel, rfl, by decide +kernel, by decide +kernel⟩
theorem primes3 (t : Int) (h : 0 ≤ t) : ∃ v : Int, atI [V.int 2305843009213693951, V.int 2305843009213693921, V.int 2305843009213693907] (t % 3) = some (.int v) ∧ 0 < v ∧ v < 2305843009213693952 := by
  have h4 : t % 3 = 0 ∨ t % 3 = 1 ∨ t % 3 = 2 := by omega
  rcases h4 with e | e | e <;> rw [e] <;> exact ⟨_, rfl, by decide, by decide⟩
theorem ok_draw {f : Addr} {fd : FuncData} (F : Fun K "_law_take" "_law_take" sDraw f fd) : FnOk P w K mg base CX0 1 f fd ["_law_hand_here", "_law_many"] spDraw := by
  refine F.ok scDraw (fun vs H Q E h => ?_) (fun cdv A outer s H vs Q E hr h => ?_)
  · obtain ⟨p, t, m, rfl, _⟩ := h
    rfl
  · obtain ⟨p, t, m, rfl, ⟨x, y, hp, hx, hy0, hy1⟩, ht, hm1, hm2, q⟩ := h
    refine ⟨_, pss_cons (ps_if (pt_cmpR op_gt (pe_ix ix_list (pv 0) pe_int (fun _ _ => rfl)) pe_int (nomark _))
        (pss_cons (ps_set (i := 2) scDraw.nd rfl (Or.inl rfl) (pe_op op_mod (pe_ix ix_list (pv 0) pe_int (fun _ _ => rfl)) (pv 1)))
        (pss_cons (ps_asg (pe_op op_fdivW (pe_ix ix_list (pv 0) pe_int (fun _ _ => rfl)) (pv 1)) (pg_sub (pv 0) pe_int set_list))
        (pss_one (ps_ret (pv 2))))) pss_nil)
      (pss_cons (ps_asg (pe_op op_add (pe_ix ix_list (pv 0) pe_int (fun _ _ => rfl)) pe_int) (pg_sub (pv 0) pe_int set_list))
      (pss_cons (ps_set (i := 3) scDraw.nd rfl (Or.inl rfl) (pe_ix ix_list (pe_lst (pa_cons pe_int (pa_cons pe_int (pa_cons pe_int pa_nil)))) (pe_op op_mod (pe_ix ix_list (pv 0) pe_int (fun _ _ => rfl)) pe_int) (fun _ _ => rfl)))
      (pss_cons (ps_set (i := 4) scDraw.nd rfl (Or.inl rfl) (pe_op op_mod (pe_op op_pow (pe_op op_add (pe_ix ix_list (pv 0) pe_int (fun _ _ => rfl)) (pe_op op_mul pe_int (pe_ix ix_list (pv 0) pe_int (fun _ _ => rfl)))) pe_int) (pv 3)))
      (pss_cons (ps_set (i := 4) scDraw.nd rfl (Or.inl rfl) (pe_op op_mod (pe_op op_mul (pv 4) (pe_op op_add (pe_op op_mod (pv 4) pe_int) (pe_op op_mul pe_int (pe_ix ix_list (pv 0) pe_int (fun _ _ => rfl))))) (pv 3)))
      (pss_one (ps_ret (pe_op op_mod (pe_op op_add (pe_op op_fdiv (pv 4) pe_int) (pe_op op_mul (pe_op op_fdiv (pv 4) pe_int) pe_int)) (pv 1)))))))), ?_⟩
    refine ⟨.ref p, rfl, p, _, 0, .int x, rfl, rfl, lstNew hp, rfl, x, 0, rfl, rfl, _, rfl, ite2 (fun hx0 => ?_) (fun _ => ?_)⟩
    · refine ⟨.ref p, rfl, p, _, 0, .int x, rfl, rfl, lstNew hp, rfl, .int m, rfl, x, m, rfl, rfl, (show 0 < m by omega), ?_⟩
      refine ⟨.ref p, rfl, p, _, 0, .int x, rfl, rfl, lstNew hp, rfl, .int m, rfl, x, m, rfl, rfl, wide_div (b := 100) (by omega) (by omega) (by decide) (by decide), .ref p, rfl, p, _, 0, 0, rfl, rfl, hp, rfl, ?_⟩
      refine ⟨_, rfl, ?_⟩
      exact q (x % m) t _ (Int.emod_nonneg _ (by omega)) (Int.emod_lt_of_pos _ (by omega)) (by omega) ⟨x / m, y, upd_same, Int.ediv_nonneg hx (by omega), hy0, hy1⟩ fun c o e z => by rw [upd_ne z]; exact e
    · refine ⟨.ref p, rfl, p, _, 2, .int (t : Int), rfl, rfl, lstNew hp, rfl, (t : Int), 1, rfl, rfl, .ref p, rfl, p, _, 2, 2, rfl, rfl, hp, rfl, ?_⟩
      have hp1 : (upd H p (.lst [.int x, .int y, .int ((t : Int) + 1)])) p = some (.lst [.int x, .int y, .int ((t : Int) + 1)]) := upd_same
      have b1 : But p H (upd H p (.lst [.int x, .int y, .int ((t : Int) + 1)])) := fun c o e z => by rw [upd_ne z]; exact e
      obtain ⟨v, hv, v0, v1⟩ := primes3 ((t : Int) + 1) (by omega)
      refine ⟨(by show 3 ≤ sizeLine; decide), fun l nl => ?_⟩
      have s2 := same_upd (H := upd H p (.lst [.int x, .int y, .int ((t : Int) + 1)])) (o := .lst [.int 2305843009213693951, .int 2305843009213693921, .int 2305843009213693907]) nl
      have hp2 := s2 _ _ hp1
      refine ⟨.ref p, rfl, p, _, 2, .int ((t : Int) + 1), rfl, rfl, lstNew hp2, rfl, (t : Int) + 1, 3, rfl, rfl, (show (0 : Int) < 3 by decide), l, _, _, .int v, rfl, rfl, lstNew upd_same, hv, ?_⟩
      have tt : 0 ≤ ((t : Int) + 1) ∧ ((t : Int) + 1) ≤ 4001 := by omega
      refine ⟨.ref p, rfl, p, _, 1, .int y, rfl, rfl, lstNew hp2, rfl, .ref p, rfl, p, _, 2, .int ((t : Int) + 1), rfl, rfl, lstNew hp2, rfl, 6700417, _, rfl, rfl, .inl ⟨by decide, by decide⟩, y, _, rfl, rfl, _, 5, rfl, rfl, ⟨by decide, by decide, ?_⟩, .int v, rfl, _, v, rfl, rfl, v0, ?_⟩
      · show (y + 6700417 * ((t : Int) + 1)).natAbs < 2 ^ 64
        omega
      show gName 4 (V.int ((y + 6700417 * ((t : Int) + 1)) ^ (5 : Int).toNat % v)) _ _ _
      have z0 := Int.emod_nonneg ((y + 6700417 * ((t : Int) + 1)) ^ (5 : Int).toNat) (show v ≠ 0 by omega)
      have z1 := Int.emod_lt_of_pos ((y + 6700417 * ((t : Int) + 1)) ^ (5 : Int).toNat) v0
      generalize (y + 6700417 * ((t : Int) + 1)) ^ (5 : Int).toNat % v = dr at z0 z1 ⊢
      refine ⟨.int dr, rfl, .int dr, rfl, dr, 1000003, rfl, rfl, (show (0 : Int) < 1000003 by decide), .ref p, rfl, p, _, 2, .int ((t : Int) + 1), rfl, rfl, lstNew hp2, rfl, 13, _, rfl, rfl, .inl ⟨by decide, by decide⟩, _, _, rfl, rfl, dr, _, rfl, rfl, .inl ⟨by omega, by omega⟩, .int v, rfl, _, v, rfl, rfl, v0, ?_⟩
      refine ⟨_, rfl, _, 4099, rfl, rfl, ⟨by decide, by decide⟩, _, rfl, _, 1000033, rfl, rfl, ⟨by decide, by decide⟩, _, 5, rfl, rfl, .inr ⟨by decide, by decide⟩, _, _, rfl, rfl, .int m, rfl, _, m, rfl, rfl, (show 0 < m by omega), ?_⟩
      exact q _ (t + 1) _ (Int.emod_nonneg _ (by omega)) (Int.emod_lt_of_pos _ (by omega)) (Nat.le_refl _) ⟨x, y, hp2, hx, hy0, hy1⟩ (b1.trans (But.of s2))
/-! ### _law_of -/
end
end K43
set_option maxHeartbeats 4000000
namespace K43
open PySem PySem.Spec PyProof.Rows L2 RV
section
variable {P : Program} {w : World} {K : PySem.W.Frag} {mg : Str → Option Value} {base : Heap}
/-! ### _law_closed -/
theorem scClosed : FnScope ["_law_mirrors_here", "_law_pairs", "_law_found", "_law_one_r", "_law_other_r"] ["_law_mirrors_here", "_law_pairs"] (defScope sClosed) := ⟨rfl, rfl, rfl, by decide +kernel, rfl, by decide +kernel, by decide +kernel⟩
def spClo (K : PySem.W.Frag) : Sp := fun vs H Q _ => ∃ (u l : Addr) (ns : List Int) (qs : List (List Int)), vs = [.ref u, .ref l] ∧ SqL K H u (ns.map V.int) ∧ LotsH H l qs ∧ Mir ns ∧ (∀ q ∈ qs, Pr (ns.length : Int) q) ∧ qs.length ≤ 1000 ∧
  ∀ (H' : Hp) (R : Addr) (ps : List (List Int)), Same H H' → OwnH K H' R ns ps → Q (.ref R) H'
theorem ok_closed {f : Addr} {fd : FuncData} (F : Fun K "_law_closed" "_law_closed" sClosed f fd) (B : Bare mg) : FnOk P w K mg base CX0 1 f fd ["_law_mirrors_here", "_law_pairs"] (spClo K) := by
  refine F.ok scClosed (fun vs H Q E h => ?_) (fun cdv A outer s H vs Q E hr h => ?_)
  · obtain ⟨u, l, ns, qs, rfl, _⟩ := h
    rfl
  · obtain ⟨u, l, ns, qs, rfl, hU, hL, M, hpr, hlen, q⟩ := h
    have hu := hu_of hr
    have two : (2 : Nat) ≤ sizeLine := by decide
    refine ⟨_, pss_cons (ps_set (i := 2) scClosed.nd rfl (Or.inl rfl) pe_dnewT)
      (pss_cons (ps_for PassesOwn.never rfl (pi_list (pv 1)) (pg_tup rfl (pgs_cons (pg_name (i := 3) scClosed.nd rfl (Or.inl rfl)) (pgs_cons (pg_name (i := 4) scClosed.nd rfl (Or.inl rfl)) pgs_nil)))
        (pss_cons (ps_dput hu (pv 2) (pe_tup (pa_cons (pv 3) (pa_cons (pv 4) pa_nil))) pe_bl rfl)
        (pss_one (ps_dput hu (pv 2) (pe_tup (pa_cons (pe_ix ix_list (pv 0) (pv 4) (fun _ _ => rfl)) (pa_cons (pe_ix ix_list (pv 0) (pv 3) (fun _ _ => rfl)) pa_nil))) pe_bl rfl))))
      (pss_one (ps_ret (pe_tup (pa_cons (pe_tupleOf (by rfl) B.tuple (pv 0)) (pa_cons (pe_tupleOf (by rfl) B.tuple (pe_callB (cr_sortedDT rfl) (by rfl) B.sorted (by decide +kernel) (pa_cons (pv 2) pa_nil))) pa_nil)))))), ?_⟩
    intro d nd
    have sd := same_upd (o := .dT []) nd
    obtain ⟨ks, ek, hl, hks⟩ := hL
    have h8 := M.few
    have lks : ks.length = qs.length := by rw [← ek, List.length_map]
    refine ⟨.ref l, rfl, l, rfl, ⟨_, lstNew (sd _ _ hl)⟩, ?_⟩
    refine for_list (K := K) (a := l) (xs := ks.map fun p => V.ref p.1) (fun i σ H' => ∃ (kvs : List (List L2.Key × V)) (ps : List (List Int)) (y3 y4 : Option V), σ = [some (.ref u), some (.ref l), some (.ref d), y3, y4] ∧ Same H H' ∧ H' d = some (.dT kvs) ∧ kvs.map (·.1) = ps.map keyP ∧ Part ns ps)
      ⟨[], [], none, none, rfl, sd, upd_same, rfl, Part.nil ns⟩ (fun i σ H' _ h => ?_) (fun i x σ H' hx h => ?_) (fun σ H' h => ?_)
    · obtain ⟨_, _, _, _, _, s', _⟩ := h
      exact lstNew (s' _ _ hl)
    · obtain ⟨kvs, ps, y3, y4, rfl, s', ed, ek', P'⟩ := h
      obtain ⟨k, g, rfl⟩ := map_at hx
      have hk : k ∈ ks := List.mem_of_getElem? g
      obtain ⟨x, y, e, bx, by_⟩ := hpr k.2 (by rw [← ek]; exact List.mem_map_of_mem hk)
      have hkT : SqT K H' k.1 ([x, y].map V.int) := by rw [← e]; exact tupNew (s' _ _ (hks k hk))
      have hl64 := P'.len M
      have hkl : kvs.length ≤ 64 := by
        have z := congrArg List.length ek'
        rw [List.length_map, List.length_map] at z; omega
      refine ⟨k.1, _, rfl, hkT, rfl, _, _, rfl, _, _, rfl, rfl, ?_⟩
      refine ⟨.ref d, rfl, .int x, rfl, .int y, rfl, two, fun T2 nT2 => ?_⟩
      have sT2 := same_upd (o := .tup [.int x, .int y]) nT2
      have eT2 : (upd H' T2 (.tup [.int x, .int y])) T2 = some (.tup ((keyP [x, y]).map kV)) := upd_same
      refine ⟨d, _, rfl, DPut.t (sT2 _ _ ed) eT2 (few1 (by omega)), ?_⟩
      have ed2 : (upd (upd H' T2 (.tup [.int x, .int y])) d (.dT (putK kvs (keyP [x, y]) (.bl true)))) d = some (.dT (putK kvs (keyP [x, y]) (.bl true))) := upd_same
      have s2 : Same H (upd (upd H' T2 (.tup [.int x, .int y])) d (.dT (putK kvs (keyP [x, y]) (.bl true)))) := fun b o e => by rw [upd_ne (ne_of_none e nd)]; exact sT2 _ _ (s' b o e)
      have ek2 := put_keys (p := [x, y]) (v := .bl true) ek'
      have l2 : (putK kvs (keyP [x, y]) (.bl true)).length ≤ 65 := by
        have z := congrArg List.length ek2
        rw [List.length_map, List.length_map] at z
        have z2 : (addP ps [x, y]).length ≤ ps.length + 1 := by unfold addP; split <;> simp
        omega
      generalize upd (upd H' T2 (.tup [.int x, .int y])) d (.dT (putK kvs (keyP [x, y]) (.bl true))) = H2 at ed2 s2 ⊢
      generalize putK kvs (keyP [x, y]) (.bl true) = kvs2 at ed2 ek2 l2
      obtain ⟨mx, gx⟩ : ∃ m, ns[x.toNat]? = some m := ⟨_, List.getElem?_eq_getElem (by omega)⟩
      obtain ⟨my, gy⟩ : ∃ m, ns[y.toNat]? = some m := ⟨_, List.getElem?_eq_getElem (by omega)⟩
      have ax : atI (ns.map V.int) x = some (.int mx) := by
        have z : atI (ns.map V.int) ((x.toNat : Nat) : Int) = some (.int mx) := atI_nat (by rw [List.getElem?_map, gx]; rfl)
        rwa [Int.toNat_of_nonneg bx.1] at z
      have ay : atI (ns.map V.int) y = some (.int my) := by
        have z : atI (ns.map V.int) ((y.toNat : Nat) : Int) = some (.int my) := atI_nat (by rw [List.getElem?_map, gy]; rfl)
        rwa [Int.toNat_of_nonneg by_.1] at z
      refine ⟨.ref d, rfl, .ref u, rfl, .int y, rfl, u, _, _, _, rfl, rfl, s2.seq hU, ay, .ref u, rfl, .int x, rfl, u, _, _, _, rfl, rfl, s2.seq hU, ax, two, fun T3 nT3 => ?_⟩
      have sT3 := same_upd (o := .tup [.int my, .int mx]) nT3
      have eT3 : (upd H2 T3 (.tup [.int my, .int mx])) T3 = some (.tup ((keyP [my, mx]).map kV)) := upd_same
      refine ⟨d, _, rfl, DPut.t (sT3 _ _ ed2) eT3 (few1 (by omega)), ?_⟩
      refine ⟨_, addP (addP ps [x, y]) [my, mx], _, _, rfl, fun b o e => ?_, upd_same, put_keys ek2, Part.add M P' bx by_ gx gy⟩
      rw [upd_ne (ne_of_none e nd)]; exact sT3 _ _ (s2 b o e)
    · obtain ⟨kvs, ps, y3, y4, rfl, s', ed, ek', P'⟩ := h
      have hl64 := P'.len M
      have hkl : kvs.length ≤ 64 := by
        have z := congrArg List.length ek'
        rw [List.length_map, List.length_map] at z; omega
      refine ⟨.ref u, rfl, .inl ⟨u, _, rfl, s'.seq hU, fun e1 ne1 => ?_⟩⟩
      have s4 := same_upd (o := .tup (ns.map V.int)) ne1
      have ed4 := s4 _ _ ed
      have eu : (upd H' e1 (.tup (ns.map V.int))) e1 = some (.tup (ns.map V.int)) := upd_same
      generalize upd H' e1 (.tup (ns.map V.int)) = H4 at s4 ed4 eu ⊢
      refine ⟨.ref d, rfl, d, kvs, ps, rfl, .inl ed4, ek', fun z hz => ?_, by omega, fun L c nc pm pw tu => .inl ⟨c, _, rfl, lstNew upd_same, fun e ne => ⟨two, fun R nR => ?_⟩⟩⟩
      · obtain ⟨x, y, e, _⟩ := P'.pr z hz
        exact ⟨x, y, e⟩
      · have s3 := (same_upd (o := .lst (L.map fun a => V.ref a.1)) nc).trans (same_upd (o := .tup (L.map fun a => V.ref a.1)) ne)
        have sR := same_upd (o := .tup [.ref e1, .ref e]) nR
        refine q _ R (L.map (·.2)) (((s'.trans s4).trans s3).trans sR) ⟨e1, e, upd_same, tupNew ((s3.trans sR) _ _ eu), ?_, M, P'.stp M pm pw⟩
        exact TupsH.same ⟨L, rfl, upd_same, fun k hk => s3 _ _ (tu k hk)⟩ sR
end
end K43
set_option maxHeartbeats 4000000
/-! sorted(s), s a set of tuples of ints of any lengths, none of them empty -/
namespace RV
open PySem PySem.Spec PyProof.Rows L2 TS
/-- one tuple ahead of another -/
def lexA : List Int → List Int → Bool
  | [], [] => false
  | [], _ :: _ => true
  | _ :: _, [] => false
  | p :: ns, q :: ms => if p = q then lexA ns ms else decide (p < q)
section
variable {prog : Program} {w : World} {A : Around} {E : Value → Shared → Prop} {s : Shared}
theorem kat_any {Q : Bool → Shared → Prop} {b fin : Bool} : ∀ {ns ms : List Int} {xs ys : List Value} (i : Nat), IntsAre xs ns → IntsAre ys ms → fin = decide (ns.length < ms.length) → Q (lexA ns ms) s → PySem.W.KatLex prog w A b fin Q (xs.zip ys) i s
  | [], [], _, _, i, .nil, .nil, hf, h => by
    have e : fin = false := hf
    rw [e]; exact PySem.W.kat_nil h
  | [], _ :: ms, _, _, i, .nil, .cons _ _ _, hf, h => by
    have e : fin = true := by rw [hf]; simp
    rw [e]; exact PySem.W.kat_nil h
  | _ :: _, [], _, _, i, .cons _ _ _, .nil, hf, h => by
    have e : fin = false := by rw [hf]; simp
    rw [e]; exact PySem.W.kat_nil h
  | p :: ns, q :: ms, _, _, i, .cons _ t hx, .cons _ u hy, hf, h => by
    refine PySem.W.kat_cons (wpAny_eqBool_int ?_)
    by_cases e : p = q
    · subst e
      rw [beq_self_eq_true]
      have h' : Q (lexA ns ms) s := by simpa [lexA] using h
      refine PySem.W.kat_yes (kat_any (i + 1) hx hy ?_ h')
      rw [hf]; simp
    · rw [beq_eq_false_iff_ne.mpr e]
      refine PySem.W.kat_no (oneLt_ints _ ?_)
      simpa [lexA, e] using h
theorem heads_of {h : Heap} : ∀ vs : List Value, (∀ v ∈ vs, ∃ ns, TupInts h v ns ∧ ns ≠ []) → ∃ fs, PySem.W.KatTups h vs fs ∧ fs.length = vs.length ∧ ∀ f ∈ fs, ∃ n t, f = Value.int n t
  | [], _ => ⟨[], .nil, rfl, fun _ z => nomatch z⟩
  | v :: vs, x => by
    obtain ⟨fs, kt, hlen, hall⟩ := heads_of vs fun z hz => x z (List.mem_cons_of_mem _ hz)
    obtain ⟨ns, ⟨a, xs, rfl, ⟨ob, hob, hcl, k, hdata⟩, hi⟩, hne⟩ := x v (List.mem_cons_self ..)
    cases hxs : xs.toList with
    | nil =>
      rw [hxs] at hi
      cases hi
      exact absurd rfl hne
    | cons y ys =>
      rw [hxs] at hi
      cases hi with
      | cons m t _ =>
        have z : xs[0]? = some (Value.int m t) := by rw [← Array.getElem?_toList, hxs]; rfl
        refine ⟨.int m t :: fs, .cons hob hcl hdata z kt, by rw [List.length_cons, hlen, List.length_cons], fun f hf => ?_⟩
        rcases List.mem_cons.mp hf with rfl | hf
        · exact ⟨m, t, rfl⟩
        · exact hall f hf
theorem kind_any {vs : List Value} (h2 : 2 ≤ vs.length) (x : ∀ v ∈ vs, ∃ ns, TupInts s.heap v ns ∧ ns ≠ []) (r : Value → Int) (hr : ∀ u ∈ vs, ∀ v ∈ vs, ∀ ns ms, TupInts s.heap u ns → TupInts s.heap v ms → lexA ns ms = decide (r u < r v)) (Q : SortKind → Shared → Prop)
    (h : ∀ κ, Cmp prog w A s κ (pairsOf vs) r → Q κ s) : wpAny (model prog w) A (keyKind' vs.toArray) Q E s := by
  obtain ⟨fs, kt, hlen, hall⟩ := heads_of vs x
  refine PySem.W.kat_kind (T := .type "int") kt (by rw [hlen]; omega) (fun f hf => ?_) rfl (h _ fun p q hp hq Q' E' hQ => ?_)
  · obtain ⟨n, t, rfl⟩ := hall f hf
    exact .of_pure rfl
  · rw [pairsOf_toList] at hp hq
    have ip := mem_zip_self hp
    have iq := mem_zip_self hq
    obtain ⟨ns, tp, _⟩ := x _ ip.2
    obtain ⟨ms, tq, _⟩ := x _ iq.2
    have hlex := hr _ ip.2 _ iq.2 ns ms tp tq
    rw [← hlex] at hQ
    obtain ⟨a, xs, e1, ⟨o1, ho1, _, n1, hd1⟩, i1⟩ := tp
    obtain ⟨b, ys, e2, ⟨o2, ho2, _, n2, hd2⟩, i2⟩ := tq
    rw [e1, e2]
    refine PySem.W.kat_lt ho1 hd1 ho2 hd2 (kat_any 0 i1 i2 ?_ hQ)
    rw [← i1.length, ← i2.length, Array.length_toList, Array.length_toList]
theorem call_sort_any {a : Addr} {vs : List Value} {n : Nat} {Q : Value → Shared → Prop} (ρ : List Int → Int) (ho : s.heap.get? a = some (seqObj "list" vs.toArray n)) (h64 : vs.length < 64) (x : ∀ v ∈ vs, ∃ ns, TupInts s.heap v ns ∧ ns ≠ [])
    (hr : ∀ u ∈ vs, ∀ v ∈ vs, ∀ ns ms, TupInts s.heap u ns → TupInts s.heap v ms → lexA ns ms = decide (ρ ns < ρ ms))
    (h : ∀ out : Array Value, out.toList.Perm vs → out.toList.Pairwise (fun u v => ρ (intsOf s.heap u) ≤ ρ (intsOf s.heap v)) → Q .none { s with heap := sortedHeap s.heap a vs out }) :
    wpAny (model prog w) A (call (.builtin "list.sort") [.ref a]) Q E s := by
  have stays : ∀ b o, s.heap.get? b = some o → o.cls = .type "tuple" → (midHeap s.heap a vs).get? b = some o := fun b o e hc => by
    refine midHeap_old (fun z => ?_) e
    rw [z, ho] at e
    cases e
    have hc2 : Value.type "list" = Value.type "tuple" := hc
    injection hc2 with hc3
    exact absurd hc3 (by decide)
  refine wpAny_call_entry slot_list_sort ⟨_, ho, rfl⟩ entry_list_sort (SK.plain_sort (r := fun v => ρ (intsOf s.heap v)) ho h64 (fun h2 Q hQ => ?_) fun ps out h1 h2 h3 => ?_) (args_list_sort _)
  · refine kind_any (s := { s with heap := midHeap s.heap a vs }) h2 (fun v hv => ?_) _ (fun u hu v hv ns ms tu tv => ?_) Q hQ
    · obtain ⟨ns, t, ne⟩ := x v hv
      exact ⟨ns, t.keeps stays, ne⟩
    · obtain ⟨ns0, t0, _⟩ := x u hu
      obtain ⟨ms0, t1, _⟩ := x v hv
      have e0 : ns = ns0 := tu.ints.symm.trans (t0.keeps stays).ints
      have e1 : ms = ms0 := tv.ints.symm.trans (t1.keeps stays).ints
      subst e0 e1
      rw [hr u hu v hv ns ms t0 t1]
      show decide _ = decide (ρ (intsOf s.heap u) < ρ (intsOf s.heap v))
      rw [t0.ints, t1.ints]
  · obtain ⟨p, o⟩ := out_rank (r := fun v => ρ (intsOf s.heap v)) h1 h2 h3
    exact ⟨_, rfl, h out p o⟩
end
section
variable {P : Program} {w : World} {A : Around} {E : Value → Shared → Prop} {s : Shared}
theorem refs_some : ∀ (L : List (Addr × List Int)) (vs : List Value), (∀ v ∈ vs, ∃ q ∈ L, v = Value.ref q.1) → ∃ L1 : List (Addr × List Int), vs = L1.map (fun q => Value.ref q.1) ∧ ∀ q ∈ L1, q ∈ L
  | _, [], _ => ⟨[], rfl, fun _ z => nomatch z⟩
  | L, v :: vs, h => by
    obtain ⟨q, hq, rfl⟩ := h v (List.mem_cons_self ..)
    obtain ⟨L1, rfl, hs⟩ := refs_some L vs fun z hz => h z (List.mem_cons_of_mem _ hz)
    exact ⟨q :: L1, rfl, fun z hz => (List.mem_cons.mp hz).elim (fun e => e ▸ hq) (hs z)⟩
theorem sorted_setA {a : Addr} {L : List (Addr × List Int)} {es : Array (Int × Value)} {ep : Nat} {t : SetTable} {Q : Value → Shared → Prop} (ρ : List Int → Int) (R : SetTR P w s.heap a L es ep t) (hh : A.handled = none)
    (hne : ∀ p ∈ L, p.2 ≠ []) (hr : ∀ p ∈ L, ∀ q ∈ L, lexA p.2 q.2 = decide (ρ p.2 < ρ q.2))
    (hQ : ∀ s' p (out : Array Value) (c : Nat) (L' : List (Addr × List Int)), (∀ b o, s.heap.get? b = some o → s'.heap.get? b = some o) → s'.gens = s.gens → s'.os = s.os → s.heap.objs.size ≤ p → s'.heap.get? p = some (seqObj "list" out c) →
      out.toList = L'.map (fun q => Value.ref q.1) → L'.Perm L → L'.Pairwise (fun q r => ρ q.2 ≤ ρ r.2) → Q (.ref p) s') : wpAny (model P w) A (call (.builtin "sorted") [.ref a]) Q E s := by
  obtain ⟨o, ho, hex, hd⟩ := R.ob
  have size64 := R.size
  have few64 := R.few
  refine Calls.call_function_entry kind_sorted plain_sorted entry_sorted (args_sorted1 _) ?_
  unfold Builtin.«sorted»
  refine wpAny_bind (m := checkCount "sorted" 1 1 _) (wpAny_pure (wpAny_bind (collect_set (A := A.in1) hh ⟨o, ho, hex.1, hd⟩ R.fits (by unfold scanBound; omega) R.tab.ris R.led fun s1 vs k1 hz g1 o1 pm => ?_)))
  have rows : es.toList.map (·.2) = L.map fun q => Value.ref q.1 := by
    rw [R.rows]; unfold rowsOf
    rw [List.map_map]; rfl
  rw [rows] at pm
  have same1 : ∀ q ∈ L, ∀ r ∈ L, q.1 = r.1 → q = r := fun q hq r hr e => by
    have z := R.tup q hq
    rw [e] at z
    exact Prod.ext e (z.inj (R.tup r hr))
  have nodL : L.Nodup := nodup_of_map R.nd
  have nodR : (L.map fun q => Value.ref q.1).Nodup := List.pairwise_map.mpr (List.Pairwise.imp_of_mem (fun {q r} hq hr ne e => ne (same1 q hq r hr (Value.ref.inj e))) nodL)
  have lvs : vs.length < 64 := by rw [pm.length_eq, List.length_map]; exact few64
  refine wpAny_bind (wpAny_newList ?_ (by rw [sizeLine_eq]; omega))
  have atL : (s1.heap.push (seqObj "list" vs.toArray 0)).get? s1.heap.objs.size = some (seqObj "list" vs.toArray 0) := Heap.get?_push_size _ rfl
  have tups : ∀ q ∈ L, TupInts (s1.heap.push (seqObj "list" vs.toArray 0)) (.ref q.1) q.2 := fun q hq => tupInts_of (P := P) (w := w) (isT_keep (R.tup q hq) fun b u e => Heap.get?_push_of_some _ (k1 b u e))
  have from_ : ∀ v ∈ vs, ∃ q ∈ L, v = Value.ref q.1 := fun v hv => by
    obtain ⟨q, hq, e⟩ := List.mem_map.mp (pm.mem_iff.mp hv)
    exact ⟨q, hq, e.symm⟩
  refine wpAny_bind (wpAny_holding (call_sort_any (s := { s1 with heap := s1.heap.push (seqObj "list" vs.toArray 0) }) ρ atL lvs (fun v hv => ?_) (fun u hu v hv ns ms tu tv => ?_) fun out a1 a2 => ?_))
  · obtain ⟨q, hq, rfl⟩ := from_ v hv
    exact ⟨q.2, tups q hq, hne q hq⟩
  · obtain ⟨q, hq, rfl⟩ := from_ u hu
    obtain ⟨r, hr', rfl⟩ := from_ v hv
    have e1 : ns = q.2 := tu.ints.symm.trans (tups q hq).ints
    have e2 : ms = r.2 := tv.ints.symm.trans (tups r hr').ints
    subst e1 e2
    exact hr q hq r hr'
  · obtain ⟨c, hc⟩ := sortedHeap_at (vs := vs) (out := out) atL
    obtain ⟨L', e', hs'⟩ := refs_some L out.toList fun v hv => from_ v (a1.mem_iff.mp hv)
    have pm' : (L'.map fun q => Value.ref q.1).Perm (L.map fun q => Value.ref q.1) := by rw [← e']; exact a1.trans pm
    have pL : L'.Perm L := by
      refine (List.perm_ext_iff_of_nodup (nodup_of_map (pm'.nodup_iff.mpr nodR)) nodL).mpr fun q => ⟨hs' q, fun hq => ?_⟩
      obtain ⟨r, hr', e⟩ := List.mem_map.mp (pm'.mem_iff.mpr (List.mem_map.mpr ⟨q, hq, rfl⟩))
      rw [← same1 r (hs' r hr') q hq (Value.ref.inj e)]; exact hr'
    have pw : L'.Pairwise (fun q r => ρ q.2 ≤ ρ r.2) := by
      rw [e'] at a2
      refine List.Pairwise.imp_of_mem (fun {q r} hq hr' z => ?_) (List.pairwise_map.mp a2)
      have z' : ρ (intsOf (s1.heap.push (seqObj "list" vs.toArray 0)) (.ref q.1)) ≤ ρ (intsOf (s1.heap.push (seqObj "list" vs.toArray 0)) (.ref r.1)) := z
      rwa [(tups q (hs' q hq)).ints, (tups r (hs' r hr')).ints] at z'
    refine wpAny_pure ⟨_, rfl, hQ _ s1.heap.objs.size out c L' (fun b u e => ?_) g1 o1 hz hc e' pL pw⟩
    have lt := Heap.lt_size (k1 b u e)
    show (sortedHeap (s1.heap.push (seqObj "list" vs.toArray 0)) s1.heap.objs.size vs out).get? b = some u
    rw [sortedHeap_old (Nat.ne_of_lt lt) (by rw [size_push']; exact Nat.lt_succ_of_lt lt)]
    exact Heap.get?_push_of_some _ (k1 b u e)
end
section
variable {X : Cx}
def rSortA (K : PySem.W.Frag) (P : Program) (w : World) : List V → Hp → VK → Prop := fun vs H Q => ∃ (a : Addr) (L : List (Addr × List Int)) (ρ : List Int → Int), vs = [V.ref a] ∧ H a = some (SetTO P w a L) ∧ (∀ p ∈ L, SqT K H p.1 (p.2.map V.int)) ∧
  (∀ p ∈ L, p.2 ≠ []) ∧ (∀ p ∈ L, ∀ q ∈ L, lexA p.2 q.2 = decide (ρ p.2 < ρ q.2)) ∧
  ∀ (L' : List (Addr × List Int)) (p : Addr), L'.Perm L → (L'.map (·.2)).Nodup → L'.length < 64 → L'.Pairwise (fun q r => ρ q.2 ≤ ρ r.2) → H p = none → Q (.ref p) (upd H p (.lst (L'.map fun q => V.ref q.1)))
theorem cr_sortedA (hc : X.calm = true) : CallR X (.builtin "sorted") (rSortA X.K X.prog X.w) := by
  intro pins s σ H vs us Q I r h
  obtain ⟨a, L, ρ, rfl, ha, hk, hne, hr, q⟩ := h
  have R0 : SetT0 X.prog X.w s.heap a L := (I.hok a _ ha).1
  obtain ⟨es, ep, t, R⟩ := R0.full fun p hp => I.isT (hk p hp)
  rw [Vals.ref1 r]
  refine sorted_setA ρ R (I.ok.hd hc) hne hr fun s' p out c L' k g o hp hg hout pm pw => ?_
  have few : L'.length < 64 := by rw [pm.length_eq]; exact R.few
  have len : (L'.map fun q => V.ref q.1).length ≤ sizeLine := by rw [List.length_map, sizeLine_eq]; omega
  have new : H p = none := I.hok.fresh hp
  have vals : Vals (L'.map fun q => V.ref q.1) out.toList := by rw [hout]; exact vals_of_refs L'
  have J : Inv X pins σ (upd H p (.lst (L'.map fun q => V.ref q.1))) { s with heap := s'.heap, gens := s'.gens, drawn := s'.drawn, toks := s'.toks } :=
    I.call (ch := []) (Un.laid k hp new) (I.hok.laid k hp ⟨len, out.toList, c, vals, hg⟩) (by rw [g]; exact I.bare) (fun _ z => nomatch z)
  have e : s' = { s with heap := s'.heap, gens := s'.gens, drawn := s'.drawn, toks := s'.toks } := by
    cases s'; cases s; cases o; rfl
  rw [e]
  exact ⟨.ref p, _, J, rfl, q L' p pm ((pm.map (·.2)).nodup_iff.mpr R.nd) few pw new⟩
end
end RV
set_option maxHeartbeats 4000000
/-! sorted(l), l a list of unlike tuples of ints of any lengths, none of them empty -/
namespace RV
open PySem PySem.Spec PyProof.Rows L2 TS
section
variable {P : Program} {w : World} {A : Around} {E : Value → Shared → Prop} {s : Shared}
theorem sorted_listA {a : Addr} {L : List (Addr × List Int)} {Q : Value → Shared → Prop} (ρ : List Int → Int) (hl : s.heap.IsList a (L.map fun q => Value.ref q.1).toArray) (tup : ∀ q ∈ L, IsT P w s.heap q.2 q.1) (nd : (L.map (·.2)).Nodup) (few64 : L.length < 64)
    (hne : ∀ p ∈ L, p.2 ≠ []) (hr : ∀ p ∈ L, ∀ q ∈ L, lexA p.2 q.2 = decide (ρ p.2 < ρ q.2))
    (hQ : ∀ (h' : Heap) (d : Addr) (out : Array Value) (c : Nat) (L' : List (Addr × List Int)), (∀ b o, s.heap.get? b = some o → h'.get? b = some o) → s.heap.objs.size ≤ d → h'.get? d = some (seqObj "list" out c) →
      out.toList = L'.map (fun q => Value.ref q.1) → L'.Perm L → L'.Pairwise (fun q r => ρ q.2 ≤ ρ r.2) → Q (.ref d) { s with heap := h' }) : wpAny (model P w) A (call (.builtin "sorted") [.ref a]) Q E s := by
  have same1 : ∀ q ∈ L, ∀ r ∈ L, q.1 = r.1 → q = r := fun q hq r hr e => by
    have z := tup q hq
    rw [e] at z
    exact Prod.ext e (z.inj (tup r hr))
  have nodL : L.Nodup := nodup_of_map nd
  have nodR : (L.map fun q => Value.ref q.1).Nodup := List.pairwise_map.mpr (List.Pairwise.imp_of_mem (fun {q r} hq hr ne e => ne (same1 q hq r hr (Value.ref.inj e))) nodL)
  have lvs : (L.map fun q => Value.ref q.1).length < 64 := by rw [List.length_map]; exact few64
  have hz : (L.map fun q => Value.ref q.1).length ≤ sizeLine := by rw [sizeLine_eq]; omega
  have from_ : ∀ v ∈ L.map (fun q => Value.ref q.1), ∃ q ∈ L, v = Value.ref q.1 := fun v hv => by
    obtain ⟨q, hq, e⟩ := List.mem_map.mp hv
    exact ⟨q, hq, e.symm⟩
  generalize ev : L.map (fun q => Value.ref q.1) = vs at hl lvs hz from_ nodR
  refine Calls.call_function_entry kind_sorted plain_sorted entry_sorted (args_sorted1 _) (show wpAny _ _ _ _ _ _ from ?_)
  unfold Builtin.«sorted»
  refine wpAny_bind (m := checkCount "sorted" 1 1 _) (wpAny_pure (wpAny_bind (collect_list hl (wpAny_bind (wpAny_newList ?_ hz)) hz)))
  have hsz : ((s.heap.push (seqObj "list" #[] 0)).update s.heap.objs.size (Obj.mapSeq (· ++ vs.toArray))).objs.size = s.heap.objs.size + 1 := (Heap.size_update ..).trans (size_push' ..)
  have hoL : (((s.heap.push (seqObj "list" #[] 0)).update s.heap.objs.size (Obj.mapSeq (· ++ vs.toArray))).push (seqObj "list" vs.toArray 0)).get? (s.heap.objs.size + 1) = some (seqObj "list" vs.toArray 0) := hsz ▸ Heap.get?_push_size _ rfl
  have keep : ∀ b o, s.heap.get? b = some o → b < s.heap.objs.size ∧ (((s.heap.push (seqObj "list" #[] 0)).update s.heap.objs.size (Obj.mapSeq (· ++ vs.toArray))).push (seqObj "list" vs.toArray 0)).get? b = some o := fun b o z => by
    have hlt := Heap.lt_size z
    refine ⟨hlt, Heap.get?_push_of_some _ ?_⟩
    exact (Heap.get?_update_ne _ _ _ _ (Nat.ne_of_lt hlt)).trans (Heap.get?_push_of_some _ z)
  show wpAny _ _ _ _ _ { s with heap := ((s.heap.push (seqObj "list" #[] 0)).update s.heap.objs.size (Obj.mapSeq (· ++ vs.toArray))).push (seqObj "list" vs.toArray 0) }
  rw [hsz]
  generalize ((s.heap.push (seqObj "list" #[] 0)).update s.heap.objs.size (Obj.mapSeq (· ++ vs.toArray))).push (seqObj "list" vs.toArray 0) = h1 at hoL keep ⊢
  have tups : ∀ q ∈ L, TupInts h1 (.ref q.1) q.2 := fun q hq => tupInts_of (P := P) (w := w) (isT_keep (tup q hq) fun b u e => (keep b u e).2)
  refine wpAny_bind (wpAny_holding (call_sort_any (s := { s with heap := h1 }) ρ hoL lvs (fun v hv => ?_) (fun u hu v hv ns ms tu tv => ?_) fun out a1 a2 => ?_))
  · obtain ⟨q, hq, rfl⟩ := from_ v hv
    exact ⟨q.2, tups q hq, hne q hq⟩
  · obtain ⟨q, hq, rfl⟩ := from_ u hu
    obtain ⟨r, hr', rfl⟩ := from_ v hv
    have e1 : ns = q.2 := tu.ints.symm.trans (tups q hq).ints
    have e2 : ms = r.2 := tv.ints.symm.trans (tups r hr').ints
    subst e1 e2
    exact hr q hq r hr'
  · obtain ⟨c, hc⟩ := sortedHeap_at (vs := vs) (out := out) hoL
    obtain ⟨L', e', hs'⟩ := refs_some L out.toList fun v hv => from_ v (a1.mem_iff.mp hv)
    have pm' : (L'.map fun q => Value.ref q.1).Perm (L.map fun q => Value.ref q.1) := by rw [← e', ev]; exact a1
    have pL : L'.Perm L := by
      refine (List.perm_ext_iff_of_nodup (nodup_of_map (pm'.nodup_iff.mpr (ev ▸ nodR))) nodL).mpr fun q => ⟨hs' q, fun hq => ?_⟩
      obtain ⟨r, hr', e⟩ := List.mem_map.mp (pm'.mem_iff.mpr (List.mem_map.mpr ⟨q, hq, rfl⟩))
      rw [← same1 r (hs' r hr') q hq (Value.ref.inj e)]; exact hr'
    have pw : L'.Pairwise (fun q r => ρ q.2 ≤ ρ r.2) := by
      rw [e'] at a2
      refine List.Pairwise.imp_of_mem (fun {q r} hq hr' z => ?_) (List.pairwise_map.mp a2)
      have z' : ρ (intsOf h1 (.ref q.1)) ≤ ρ (intsOf h1 (.ref r.1)) := z
      rwa [(tups q (hs' q hq)).ints, (tups r (hs' r hr')).ints] at z'
    refine wpAny_pure ⟨_, rfl, hQ _ (s.heap.objs.size + 1) out c L' (fun b u e => ?_) (Nat.le_succ _) hc e' pL pw⟩
    have lt := (keep b u e).1
    have lt1 := Heap.lt_size hoL
    show (sortedHeap h1 (s.heap.objs.size + 1) vs out).get? b = some u
    rw [sortedHeap_old (Nat.ne_of_lt (Nat.lt_succ_of_lt lt)) (Nat.lt_trans (Nat.lt_succ_of_lt lt) lt1)]
    exact (keep b u e).2
end
section
variable {X : Cx}
def rSortL (K : PySem.W.Frag) : List V → Hp → VK → Prop := fun vs H Q => ∃ (a : Addr) (L : List (Addr × List Int)) (ρ : List Int → Int), vs = [V.ref a] ∧ SqL K H a (L.map fun q => V.ref q.1) ∧ (∀ p ∈ L, SqT K H p.1 (p.2.map V.int)) ∧ (L.map (·.2)).Nodup ∧ L.length < 64 ∧
  (∀ p ∈ L, p.2 ≠ []) ∧ (∀ p ∈ L, ∀ q ∈ L, lexA p.2 q.2 = decide (ρ p.2 < ρ q.2)) ∧
  ∀ (L' : List (Addr × List Int)) (p : Addr), L'.Perm L → L'.Pairwise (fun q r => ρ q.2 ≤ ρ r.2) → H p = none → Q (.ref p) (upd H p (.lst (L'.map fun q => V.ref q.1)))
theorem cr_sortedL : CallR X (.builtin "sorted") (rSortL X.K) := by
  intro pins s σ H vs us Q I r h
  obtain ⟨a, L, ρ, rfl, hs, hk, nd, few, hne, hr, q⟩ := h
  obtain ⟨its, rv, hl, hz⟩ := I.list hs
  rw [Vals.ref1 r]
  have ei : its = L.map fun q => Value.ref q.1 := by
    clear hs hk nd few hne hr q hl hz
    induction L generalizing its with
    | nil => cases rv; rfl
    | cons k L ih =>
      cases rv with
      | cons r1 r2 =>
        cases r1
        rw [List.map_cons, ih _ r2]
  subst ei
  refine sorted_listA ρ hl.isList (fun p hp => I.isT (hk p hp)) nd few hne hr fun h' d out c L' kp hd hg hout pm pw => ?_
  have len : (L'.map fun q => V.ref q.1).length ≤ sizeLine := by rw [List.length_map, sizeLine_eq, pm.length_eq]; omega
  have vals : Vals (L'.map fun q => V.ref q.1) out.toList := by rw [hout]; exact vals_of_refs L'
  exact ⟨.ref d, upd H d (.lst (L'.map fun q => V.ref q.1)), I.laid (t' := s.toks) kp hd ⟨len, out.toList, c, vals, by simpa using hg⟩, rfl, q L' d pm pw (I.hok.fresh hd)⟩
end
end RV
set_option maxHeartbeats 4000000
/-! sorted(l), l a list of tuples of ints of any lengths, none of them empty, however many -/
namespace RV
open PySem PySem.Spec PyProof.Rows L2 TS
theorem lexA_asym : ∀ {x y : List Int}, lexA x y = true → lexA y x = false
  | [], [], h => by cases h
  | [], _ :: _, _ => rfl
  | _ :: _, [], h => by cases h
  | p :: ns, q :: ms, h => by
    unfold lexA at h ⊢
    by_cases e : p = q
    · subst e
      rw [if_pos rfl] at h ⊢
      exact lexA_asym h
    · rw [if_neg e] at h
      rw [if_neg (Ne.symm e)]
      have := of_decide_eq_true h
      exact decide_eq_false (by omega)
theorem lexA_tr : ∀ {x y z : List Int}, lexA y x = false → lexA z y = false → lexA z x = false
  | [], _, [], _, _ => rfl
  | [], _, _ :: _, _, _ => rfl
  | _ :: _, [], _, h, _ => by cases h
  | _ :: _, _ :: _, [], _, h => by cases h
  | p :: x, q :: y, r :: z, h1, h2 => by
    unfold lexA at h1 h2 ⊢
    by_cases e1 : q = p
    · subst e1
      rw [if_pos rfl] at h1
      by_cases e2 : r = q
      · subst e2
        rw [if_pos rfl] at h2 ⊢
        exact lexA_tr h1 h2
      · rw [if_neg e2] at h2 ⊢
        exact h2
    · rw [if_neg e1] at h1
      have d1 := of_decide_eq_false h1
      by_cases e2 : r = q
      · subst e2
        rw [if_neg e1]
        exact h1
      · rw [if_neg e2] at h2
        have d2 := of_decide_eq_false h2
        rw [if_neg (by omega)]
        exact decide_eq_false (by omega)
section
variable {prog : Program} {w : World} {A : Around} {E : Value → Shared → Prop} {s : Shared}
theorem swo_ints (h : Heap) : SrtO.Swo fun u v => lexA (intsOf h u) (intsOf h v) := ⟨fun _ _ => lexA_asym, fun _ _ _ => lexA_tr⟩
theorem sortable_ints {a : Addr} {vs : List Value} (h2 : 0 < vs.length) (x : ∀ v ∈ vs, ∃ ns, TupInts s.heap v ns ∧ ns ≠ []) (na : ∀ o, s.heap.get? a = some o → o.cls ≠ .type "tuple") : SrtO.SortableO prog w A s a vs fun u v => lexA (intsOf s.heap u) (intsOf s.heap v) := by
  intro h' keep
  have stays : ∀ b o, s.heap.get? b = some o → o.cls = .type "tuple" → h'.get? b = some o := fun b o e hc => keep b o (fun z => na o (z ▸ e) hc) e
  have x' : ∀ v ∈ vs, ∃ ns, TupInts h' v ns ∧ ns ≠ [] := fun v hv => by
    obtain ⟨ns, t, ne⟩ := x v hv
    exact ⟨ns, t.keeps stays, ne⟩
  obtain ⟨fs, kt, hlen, hall⟩ := heads_of vs x'
  refine ⟨_, fun Q E hQ => PySem.W.kat_kind (T := .type "int") kt (by rw [hlen]; omega) (fun f hf => ?_) rfl hQ, fun p q hp hq => ?_⟩
  · obtain ⟨n, t, rfl⟩ := hall f hf
    exact .of_pure rfl
  · obtain ⟨ns, tp0, _⟩ := x _ hp
    obtain ⟨ms, tq0, _⟩ := x _ hq
    have tp := tp0.keeps stays
    have tq := tq0.keeps stays
    have e0 : SrtO.lt2 (fun u v => lexA (intsOf s.heap u) (intsOf s.heap v)) p q = lexA ns ms := by
      show lexA (intsOf s.heap p.fst) (intsOf s.heap q.fst) = _
      rw [tp0.ints, tq0.ints]
    rw [e0]
    obtain ⟨a, xs, e1, ⟨o1, ho1, _, n1, hd1⟩, i1⟩ := tp
    obtain ⟨b, ys, e2, ⟨o2, ho2, _, n2, hd2⟩, i2⟩ := tq
    rw [e1, e2]
    refine PySem.W.kat_lt ho1 hd1 ho2 hd2 (kat_any 0 i1 i2 ?_ ⟨rfl, rfl⟩)
    rw [← i1.length, ← i2.length, Array.length_toList, Array.length_toList]
theorem refs_perm {L : List (Addr × List Int)} : ∀ {out : List Value}, out.Perm (L.map fun q => Value.ref q.1) → ∃ L' : List (Addr × List Int), out = L'.map (fun q => Value.ref q.1) ∧ L'.Perm L := by
  intro out h
  obtain ⟨L', e, pm⟩ : ∃ L' : List (Addr × List Int), L'.map (fun q => Value.ref q.1) = out ∧ L'.Perm L := by
    induction L generalizing out with
    | nil => exact ⟨[], (List.perm_nil.mp h).symm, .nil⟩
    | cons k L ih =>
      have hm : Value.ref k.1 ∈ out := h.mem_iff.mpr (List.mem_cons_self ..)
      obtain ⟨l1, l2, rfl⟩ := List.append_of_mem hm
      have h2 : (l1 ++ l2).Perm (L.map fun q => Value.ref q.1) := List.Perm.cons_inv (List.perm_middle.symm.trans h)
      obtain ⟨L', e, pm⟩ := ih h2
      have la : L'.length = l1.length + l2.length := by rw [← List.length_map (f := fun q : Addr × List Int => Value.ref q.1), e, List.length_append]
      refine ⟨L'.take l1.length ++ k :: L'.drop l1.length, ?_, ?_⟩
      · rw [List.map_append, List.map_cons, List.map_take, List.map_drop, e, List.take_left, List.drop_left]
      · refine List.perm_middle.trans (.cons k ?_)
        rw [List.take_append_drop]; exact pm
  exact ⟨L', e.symm, pm⟩
end
section
variable {X : Cx}
def rSortX (K : PySem.W.Frag) : List V → Hp → VK → Prop := fun vs H Q => ∃ (a : Addr) (L : List (Addr × List Int)), vs = [V.ref a] ∧ SqL K H a (L.map fun q => V.ref q.1) ∧ (∀ p ∈ L, SqT K H p.1 (p.2.map V.int)) ∧ (∀ p ∈ L, p.2 ≠ []) ∧ L.length ≤ sizeLine ∧
  ∀ (L' : List (Addr × List Int)) (p : Addr), L'.Perm L → (L'.map (·.2)).Pairwise (fun x y => lexA y x = false) → H p = none → Q (.ref p) (upd H p (.lst (L'.map fun q => V.ref q.1)))
theorem cr_sortedX : CallR X (.builtin "sorted") (rSortX X.K) := by
  intro pins s σ H vs us Q I r h
  obtain ⟨a, L, rfl, hs, hk, hne, hz, q⟩ := h
  obtain ⟨its, rv, hl, hz2⟩ := I.list hs
  rw [Vals.ref1 r]
  have ei : its = L.map fun q => Value.ref q.1 := by
    clear hs hk hne hz q hl hz2
    induction L generalizing its with
    | nil => cases rv; rfl
    | cons k L ih =>
      cases rv with
      | cons r1 r2 =>
        cases r1
        rw [List.map_cons, ih _ r2]
  subst ei
  have tups : ∀ k ∈ L, TupInts s.heap (.ref k.1) k.2 := fun k hk' => tupInts_of (P := X.prog) (w := X.w) (I.isT (hk k hk'))
  have from_ : ∀ v ∈ L.map (fun q => Value.ref q.1), ∃ ns, TupInts s.heap v ns ∧ ns ≠ [] := fun v hv => by
    obtain ⟨k, hk', rfl⟩ := List.mem_map.mp hv
    exact ⟨k.2, tups k hk', hne k hk'⟩
  refine SrtO.sorted_ord (swo_ints s.heap) hl.isList (by rw [List.length_map]; exact hz) (fun l2 h1 b e keep => ?_) fun out srt stb => ?_
  · have x1 : ∀ v ∈ L.map (fun q => Value.ref q.1), ∃ ns, TupInts h1 v ns ∧ ns ≠ [] ∧ TupInts s.heap v ns := fun v hv => by
      obtain ⟨ns, t, ne⟩ := from_ v hv
      exact ⟨ns, t.keeps fun c o ec _ => (keep c o ec).2, ne, t⟩
    have z := sortable_ints (prog := X.prog) (w := X.w) (A := X.A.in1.in1) (s := { s with heap := h1 }) (a := b) (vs := L.map fun q => Value.ref q.1) (by omega) (fun v hv => let ⟨ns, t, ne, _⟩ := x1 v hv; ⟨ns, t, ne⟩) (fun o eo => by
      rw [e] at eo
      cases eo
      exact fun z => absurd (Value.type.inj z) (by decide))
    intro h' keep'
    obtain ⟨κ, z1, z2⟩ := z h' keep'
    refine ⟨κ, z1, fun p q hp hq => ?_⟩
    have z3 := z2 p q hp hq
    obtain ⟨ns, t, _, t0⟩ := x1 _ hp
    obtain ⟨ms, u, _, u0⟩ := x1 _ hq
    have e3 : SrtO.lt2 (fun u v => lexA (intsOf h1 u) (intsOf h1 v)) p q = SrtO.lt2 (fun u v => lexA (intsOf s.heap u) (intsOf s.heap v)) p q := by
      show lexA (intsOf h1 p.fst) (intsOf h1 q.fst) = lexA (intsOf s.heap p.fst) (intsOf s.heap q.fst)
      rw [t.ints, u.ints, t0.ints, u0.ints]
    rw [← e3]
    exact z3
  · obtain ⟨L', rfl, pm⟩ := refs_perm stb.perm
    have to' : ∀ k ∈ L', TupInts s.heap (.ref k.1) k.2 := fun k hk' => tups k (pm.mem_iff.mp hk')
    obtain ⟨e, he⟩ := sortedAll_at s.heap (L.map fun q => Value.ref q.1) (L'.map fun q => Value.ref q.1).toArray
    refine ⟨.ref (s.heap.objs.size + 1), upd H (s.heap.objs.size + 1) (.lst (L'.map fun q => V.ref q.1)), I.laid (t' := s.toks) (fun b o q => sortedAll_old q) (Nat.le_succ _) ⟨?_, _, e, vals_of_refs L', he⟩, rfl, q L' _ pm ?_ (I.hok.fresh (Nat.le_succ _))⟩
    · rw [List.length_map, pm.length_eq]; exact hz
    · rw [List.pairwise_map]
      refine List.Pairwise.imp_of_mem (fun {k j} hk' hj z => ?_) (List.pairwise_map.mp srt)
      have z : lexA (intsOf s.heap (.ref j.1)) (intsOf s.heap (.ref k.1)) = false := z
      rwa [(to' k hk').ints, (to' j hj).ints] at z
end
end RV
set_option maxHeartbeats 4000000
/-! two rules beside one another, and all pairs of their marks -/
namespace K43
open PySem PySem.Spec PyProof.Rows L2 RV
def pLt (p q : List Int) : Prop := p.getD 0 0 < q.getD 0 0 ∨ (p.getD 0 0 = q.getD 0 0 ∧ p.getD 1 0 < q.getD 1 0)
theorem pLt_of {a b c d : Int} (h : HT.lexLt [a, b] [c, d] = true) : pLt [a, b] [c, d] := by
  have h : (if a = c then (if b = d then false else decide (b < d)) else decide (a < c)) = true := h
  show a < c ∨ (a = c ∧ b < d)
  by_cases e : a = c
  · rw [if_pos e] at h
    by_cases e2 : b = d
    · rw [if_pos e2] at h; cases h
    · rw [if_neg e2] at h; exact .inr ⟨e, of_decide_eq_true h⟩
  · rw [if_neg e] at h; exact .inl (of_decide_eq_true h)
theorem pLt_all : ∀ {ps : List (List Int)}, (∀ p ∈ ps, ∃ x y : Int, p = [x, y]) → (∀ (i : Nat) (p q : List Int), ps[i]? = some p → ps[i + 1]? = some q → HT.lexLt p q = true) → ps.Pairwise pLt
  | [], _, _ => List.Pairwise.nil
  | [p], _, _ => List.pairwise_singleton _ _
  | p :: q :: r, h, hr => by
    have ih := pLt_all (ps := q :: r) (fun x hx => h x (List.mem_cons_of_mem _ hx)) fun i x y h1 h2 => hr (i + 1) x y h1 h2
    obtain ⟨a, b, rfl⟩ := h p List.mem_cons_self
    obtain ⟨c, d, rfl⟩ := h q (List.mem_cons_of_mem _ List.mem_cons_self)
    have h0 := pLt_of (hr 0 _ _ rfl rfl)
    refine List.pairwise_cons.mpr ⟨fun x hx => ?_, ih⟩
    rcases List.mem_cons.mp hx with rfl | hx
    · exact h0
    · have h1 := (List.pairwise_cons.mp ih).1 x hx
      unfold pLt at h0 h1 ⊢
      omega
theorem rise_cd {ns : List Int} {ps : List (List Int)} (M : Mir ns) (S : Stp ns ps) : ps.Pairwise fun x y => cd x < cd y := by
  have hP : ∀ q ∈ ps, Pr 64 q := fun q hq => (show Pr (ns.length : Int) q from S.pair q hq).mono (by have := M.few; omega)
  have h := pLt_all (fun p hp => by obtain ⟨x, y, e, _⟩ := S.pair p hp; exact ⟨x, y, e⟩) S.rise
  refine h.imp_of_mem fun {x y} hx hy z => ?_
  obtain ⟨a, b, rfl, ha, hb⟩ := hP x hx
  obtain ⟨c, d, rfl, hc, hd⟩ := hP y hy
  rw [cd_pair, cd_pair]
  have z : a < c ∨ (a = c ∧ b < d) := z
  omega
/-- sorted, a list of unlike pairs is the rising one of the same -/
theorem sorted_cd {L l : List (List Int)} (pm : L.Perm l) (nd : l.Nodup) (pw : L.Pairwise fun x y => lexA y x = false) (pr : ∀ p ∈ l, Pr 64 p) {g : List (List Int)} (rg : g.Pairwise fun x y => cd x < cd y) (mem : ∀ p, p ∈ l ↔ p ∈ g) : L = g := by
  refine sorted_eq (f := cd) ?_ rg fun p => pm.mem_iff.trans (mem p)
  have nl := pm.nodup_iff.mpr nd
  refine (nl.and pw).imp_of_mem fun {x y} hx hy ⟨ne, h⟩ => ?_
  obtain ⟨a, b, rfl, ha, hb⟩ := pr x (pm.mem_iff.mp hx)
  obtain ⟨c, d, rfl, hc, hd⟩ := pr y (pm.mem_iff.mp hy)
  rw [cd_pair, cd_pair]
  unfold lexA at h
  by_cases e : c = a
  · subst e
    rw [if_pos rfl] at h
    unfold lexA at h
    by_cases e2 : d = b
    · subst e2; exact absurd rfl ne
    · rw [if_neg e2] at h
      have := of_decide_eq_false h
      omega
  · rw [if_neg e] at h
    have := of_decide_eq_false h
    omega
/-! ### either -/
def eiN (ns ns' : List Int) : List Int := ns ++ ns'.map fun m => (ns.length : Int) + m
def upQ (n : Nat) (q : List Int) : List Int := [(n : Int) + q.getD 0 0, (n : Int) + q.getD 1 0]
def eiS (n : Nat) (ps ps' : List (List Int)) : List (List Int) := ps ++ ps'.map (upQ n)
theorem eiN_len (ns ns' : List Int) : (eiN ns ns').length = ns.length + ns'.length := by unfold eiN; rw [List.length_append, List.length_map]
theorem eiN_lo {ns ns' : List Int} {k : Nat} (h : k < ns.length) : (eiN ns ns')[k]? = ns[k]? := by unfold eiN; rw [List.getElem?_append_left h]
theorem eiN_up {ns ns' : List Int} {k : Nat} {x : Int} (h : ns'[k]? = some x) : (eiN ns ns')[ns.length + k]? = some ((ns.length : Int) + x) := by
  unfold eiN; rw [List.getElem?_append_right (Nat.le_add_right _ _), List.getElem?_map, Nat.add_sub_cancel_left, h]; rfl
section
variable {ns ns' : List Int} {ps ps' : List (List Int)}
theorem ei_mir (M : Mir ns) (M' : Mir ns') (h8 : ns.length + ns'.length ≤ 8) : Mir (eiN ns ns') := by
  have p0 := M.pos
  refine ⟨by rw [eiN_len]; omega, by rw [eiN_len]; exact h8, fun i hi => ?_, fun k m hk => ?_⟩
  · rw [eiN_len]
    rcases List.mem_append.mp hi with z | z
    · have := M.inn i z; omega
    · obtain ⟨x, hx, rfl⟩ := List.mem_map.mp z
      have := M'.inn x hx; omega
  · by_cases l : k < ns.length
    · rw [eiN_lo l] at hk
      have b := M.inn m (List.mem_of_getElem? hk)
      rw [eiN_lo (by omega)]
      exact M.back k m hk
    · have lk := (List.getElem?_eq_some_iff.mp hk).1
      rw [eiN_len] at lk
      obtain ⟨j, rfl⟩ : ∃ j, k = ns.length + j := ⟨k - ns.length, by omega⟩
      obtain ⟨x, gx⟩ : ∃ x, ns'[j]? = some x := ⟨_, List.getElem?_eq_getElem (by omega)⟩
      rw [eiN_up gx] at hk
      cases hk
      have b := M'.inn x (List.mem_of_getElem? gx)
      have z := eiN_up (ns := ns) (M'.back j x gx)
      rw [show ((ns.length : Int) + x).toNat = ns.length + x.toNat by omega, z]
      simp
theorem ei_pr (S : Stp ns ps) (S' : Stp ns' ps') : ∀ p ∈ eiS ns.length ps ps', Pr ((ns.length + ns'.length : Nat) : Int) p := fun p hp => by
  rcases List.mem_append.mp hp with z | z
  · obtain ⟨x, y, e, hx, hy⟩ := S.pair p z
    exact ⟨x, y, e, by omega, by omega⟩
  · obtain ⟨q, hq, rfl⟩ := List.mem_map.mp z
    obtain ⟨x, y, rfl, hx, hy⟩ := S'.pair q hq
    exact ⟨_, _, rfl, by show 0 ≤ (ns.length : Int) + x ∧ (ns.length : Int) + x < _; omega, by show 0 ≤ (ns.length : Int) + y ∧ (ns.length : Int) + y < _; omega⟩
theorem ei_rise (M : Mir ns) (S : Stp ns ps) (M' : Mir ns') (S' : Stp ns' ps') : (eiS ns.length ps ps').Pairwise fun p q => cd p < cd q := by
  have m8 := M.few
  have m8' := M'.few
  unfold eiS
  rw [List.pairwise_append]
  refine ⟨rise_cd M S, List.pairwise_map.mpr ((rise_cd M' S').imp_of_mem fun {p q} hp hq h => ?_), fun p hp q hq => ?_⟩
  · obtain ⟨a, b, rfl, _⟩ := S'.pair p hp
    obtain ⟨c, d, rfl, _⟩ := S'.pair q hq
    show cd [(ns.length : Int) + a, (ns.length : Int) + b] < cd [(ns.length : Int) + c, (ns.length : Int) + d]
    rw [cd_pair, cd_pair] at h ⊢
    omega
  · obtain ⟨a, b, rfl, ba, bb⟩ := S.pair p hp
    obtain ⟨r, hr, rfl⟩ := List.mem_map.mp hq
    obtain ⟨c, d, rfl, bc, bd⟩ := S'.pair r hr
    show cd [a, b] < cd [(ns.length : Int) + c, (ns.length : Int) + d]
    rw [cd_pair, cd_pair]
    omega
theorem rise_nd {l : List (List Int)} (h : l.Pairwise fun p q => cd p < cd q) : l.Nodup := h.imp fun {x y} z e => by rw [e] at z; exact Int.lt_irrefl _ z
theorem ei_part (M : Mir ns) (S : Stp ns ps) (M' : Mir ns') (S' : Stp ns' ps') : Part (eiN ns ns') (eiS ns.length ps ps') := by
  refine ⟨rise_nd (ei_rise M S M' S'), fun p hp => by rw [eiN_len]; exact ei_pr S S' p hp, fun x y mx my h hx hy => ?_⟩
  rcases List.mem_append.mp h with z | z
  · obtain ⟨a, b, e, ba, bb⟩ := S.pair _ z
    obtain ⟨rfl, rfl⟩ : x = a ∧ y = b := by injection e with e1 e2; injection e2 with e2; exact ⟨e1, e2⟩
    rw [eiN_lo (by omega)] at hx hy
    exact List.mem_append_left _ (S.mirr x y mx my z hx hy)
  · obtain ⟨q, hq, e⟩ := List.mem_map.mp z
    obtain ⟨a, b, rfl, ba, bb⟩ := S'.pair q hq
    obtain ⟨rfl, rfl⟩ : (ns.length : Int) + a = x ∧ (ns.length : Int) + b = y := by injection e with e1 e2; injection e2 with e2; exact ⟨e1, e2⟩
    obtain ⟨ma, ga⟩ : ∃ m, ns'[a.toNat]? = some m := ⟨_, List.getElem?_eq_getElem (by omega)⟩
    obtain ⟨mb, gb⟩ : ∃ m, ns'[b.toNat]? = some m := ⟨_, List.getElem?_eq_getElem (by omega)⟩
    rw [show ((ns.length : Int) + a).toNat = ns.length + a.toNat by omega, eiN_up ga] at hx
    rw [show ((ns.length : Int) + b).toNat = ns.length + b.toNat by omega, eiN_up gb] at hy
    cases hx
    cases hy
    exact List.mem_append_right _ (List.mem_map.mpr ⟨_, S'.mirr a b ma mb hq ga gb, rfl⟩)
theorem part_stp {N : List Int} {Ps : List (List Int)} (M : Mir N) (h : Part N Ps) (rs : Ps.Pairwise fun p q => cd p < cd q) : Stp N Ps := by
  have m8 := M.few
  refine ⟨h.len M, fun p hp => h.pr p hp, adj_rise (fun p hp => (h.pr p hp).mono (by omega)) rs, h.mi, h.nd⟩
theorem ei_stp (M : Mir ns) (S : Stp ns ps) (M' : Mir ns') (S' : Stp ns' ps') (h8 : ns.length + ns'.length ≤ 8) : Stp (eiN ns ns') (eiS ns.length ps ps') := part_stp (ei_mir M M' h8) (ei_part M S M' S') (ei_rise M S M' S')
end
/-! ### both -/
theorem dvm {a b : Int} {n : Nat} (h0 : 0 ≤ b) (h1 : b < (n : Int)) : (a * (n : Int) + b) / (n : Int) = a ∧ (a * (n : Int) + b) % (n : Int) = b := by
  have hn : (n : Int) ≠ 0 := by omega
  rw [Int.add_comm, Int.add_mul_ediv_right _ _ hn, Int.add_mul_emod_self_right, Int.ediv_eq_zero_of_lt h0 h1, Int.emod_eq_of_lt h0 h1]
  exact ⟨by omega, rfl⟩
theorem dvm_nat {a b n : Nat} (h : b < n) : (a * n + b) / n = a ∧ (a * n + b) % n = b := by
  have hn : 0 < n := by omega
  rw [Nat.add_comm, Nat.add_mul_div_right _ _ hn, Nat.add_mul_mod_self_right, Nat.div_eq_of_lt h, Nat.mod_eq_of_lt h]
  exact ⟨by omega, rfl⟩
theorem dv_lt {k a n : Nat} (h : k < a * n) : k / n < a ∧ k % n < n := by
  have hn : 0 < n := by
    rcases Nat.eq_zero_or_pos n with z | z
    · subst z; omega
    · exact z
  exact ⟨(Nat.div_lt_iff_lt_mul hn).mpr h, Nat.mod_lt _ hn⟩
theorem dv_bk (k n : Nat) : k / n * n + k % n = k := by rw [Nat.mul_comm]; exact Nat.div_add_mod k n
def boN (ns ns' : List Int) : List Int := (List.range (ns.length * ns'.length)).map fun k => ns.getD (k / ns'.length) 0 * (ns'.length : Int) + ns'.getD (k % ns'.length) 0
theorem boN_len (ns ns' : List Int) : (boN ns ns').length = ns.length * ns'.length := by unfold boN; rw [List.length_map, List.length_range]
theorem boN_get {ns ns' : List Int} {k : Nat} {x y : Int} (hk : k < ns.length * ns'.length) (hx : ns[k / ns'.length]? = some x) (hy : ns'[k % ns'.length]? = some y) : (boN ns ns')[k]? = some (x * (ns'.length : Int) + y) := by
  unfold boN
  rw [List.getElem?_map, List.getElem?_range hk]
  show some (ns.getD (k / ns'.length) 0 * (ns'.length : Int) + ns'.getD (k % ns'.length) 0) = _
  rw [List.getD_eq_getElem?_getD, List.getD_eq_getElem?_getD, hx, hy]; rfl
/-- the steps as they come, pair of steps by pair of steps -/
def boT (m : Nat) (ps ps' : List (List Int)) : List (List Int) := (List.range (ps.length * ps'.length)).map fun k => [(ps.getD (k / ps'.length) []).getD 0 0 * (m : Int) + (ps'.getD (k % ps'.length) []).getD 0 0, (ps.getD (k / ps'.length) []).getD 1 0 * (m : Int) + (ps'.getD (k % ps'.length) []).getD 1 0]
theorem boT_len (m : Nat) (ps ps' : List (List Int)) : (boT m ps ps').length = ps.length * ps'.length := by unfold boT; rw [List.length_map, List.length_range]
theorem boT_get {m : Nat} {ps ps' : List (List Int)} {k : Nat} {a b c d : Int} (hk : k < ps.length * ps'.length) (hx : ps[k / ps'.length]? = some [a, b]) (hy : ps'[k % ps'.length]? = some [c, d]) : (boT m ps ps')[k]? = some [a * (m : Int) + c, b * (m : Int) + d] := by
  unfold boT
  rw [List.getElem?_map, List.getElem?_range hk]
  show some [(ps.getD (k / ps'.length) []).getD 0 0 * (m : Int) + (ps'.getD (k % ps'.length) []).getD 0 0, (ps.getD (k / ps'.length) []).getD 1 0 * (m : Int) + (ps'.getD (k % ps'.length) []).getD 1 0] = _
  rw [List.getD_eq_getElem?_getD (l := ps), List.getD_eq_getElem?_getD (l := ps'), hx, hy]; rfl
def boP (m : Nat) (ps ps' : List (List Int)) : Int → Int → Bool := fun x y => decide ([x / (m : Int), y / (m : Int)] ∈ ps) && decide ([x % (m : Int), y % (m : Int)] ∈ ps')
def boS (n m : Nat) (ps ps' : List (List Int)) : List (List Int) := gridOf 0 (boP m ps ps') (n * m) (n * m)
theorem mem_boS {n m : Nat} {ps ps' : List (List Int)} {x y : Int} : [x, y] ∈ boS n m ps ps' ↔ (0 ≤ x ∧ x < ((n * m : Nat) : Int)) ∧ (0 ≤ y ∧ y < ((n * m : Nat) : Int)) ∧ [x / (m : Int), y / (m : Int)] ∈ ps ∧ [x % (m : Int), y % (m : Int)] ∈ ps' := by
  unfold boS
  rw [mem_grid]
  constructor
  · rintro ⟨i, j, h1, h2, h3, h4⟩
    obtain ⟨e1, e2⟩ : x = 0 + (i : Int) ∧ y = 0 + (j : Int) := by simpa using h4
    rw [Int.zero_add] at e1 e2
    subst e1 e2
    unfold boP at h3
    rw [Bool.and_eq_true, decide_eq_true_iff, decide_eq_true_iff] at h3
    exact ⟨by omega, by omega, h3⟩
  · rintro ⟨hx, hy, h⟩
    have ex : x = ((x.toNat : Nat) : Int) := by omega
    have ey : y = ((y.toNat : Nat) : Int) := by omega
    refine ⟨x.toNat, y.toNat, by omega, by omega, ?_, by rw [Int.zero_add, Int.zero_add, ← ex, ← ey]⟩
    rw [← ex, ← ey]
    unfold boP
    rw [Bool.and_eq_true, decide_eq_true_iff, decide_eq_true_iff]
    exact h
section
variable {ns ns' : List Int} {ps ps' : List (List Int)}
theorem in_box {n m : Nat} {a b : Int} (ha : 0 ≤ a ∧ a < (n : Int)) (hb : 0 ≤ b ∧ b < (m : Int)) : 0 ≤ a * (m : Int) + b ∧ a * (m : Int) + b < ((n * m : Nat) : Int) := by
  have h1 : 0 ≤ a * (m : Int) := Int.mul_nonneg ha.1 (by omega)
  have h2 : (a + 1) * (m : Int) ≤ (n : Int) * (m : Int) := Int.mul_le_mul_of_nonneg_right (by omega) (by omega)
  rw [Int.add_mul, Int.one_mul] at h2
  rw [Int.natCast_mul]
  omega
theorem bo_mem (S : Stp ns ps) (S' : Stp ns' ps') (p : List Int) : p ∈ boT ns'.length ps ps' ↔ p ∈ boS ns.length ns'.length ps ps' := by
  constructor
  · intro h
    obtain ⟨k, hk, e⟩ := List.getElem_of_mem h
    have g := List.getElem?_eq_some_iff.mpr ⟨hk, e⟩
    rw [boT_len] at hk
    obtain ⟨l1, l2⟩ := dv_lt hk
    have g1 : ps[k / ps'.length]? = some ps[k / ps'.length] := List.getElem?_eq_getElem l1
    have g2 : ps'[k % ps'.length]? = some ps'[k % ps'.length] := List.getElem?_eq_getElem l2
    obtain ⟨a, b, e1, ba, bb⟩ := S.pair _ (List.mem_of_getElem? g1)
    obtain ⟨c, d, e2, bc, bd⟩ := S'.pair _ (List.mem_of_getElem? g2)
    rw [e1] at g1
    rw [e2] at g2
    rw [boT_get hk g1 g2] at g
    cases g
    obtain ⟨d1, d2⟩ := dvm (a := a) bc.1 bc.2
    obtain ⟨d3, d4⟩ := dvm (a := b) bd.1 bd.2
    refine mem_boS.mpr ⟨in_box ba bc, in_box bb bd, ?_, ?_⟩
    · rw [d1, d3]; exact List.mem_of_getElem? g1
    · rw [d2, d4]; exact List.mem_of_getElem? g2
  · intro h
    have h0 := h
    unfold boS at h0
    obtain ⟨i, j, _, _, _, e⟩ := mem_grid.mp h0
    obtain ⟨x, y, rfl⟩ : ∃ x y : Int, p = [x, y] := ⟨_, _, e⟩
    obtain ⟨bx, b_y, m1, m2⟩ := mem_boS.mp h
    obtain ⟨u, hu, eu⟩ := List.getElem_of_mem m1
    obtain ⟨v, hv, ev⟩ := List.getElem_of_mem m2
    obtain ⟨q1, q2⟩ := dvm_nat (a := u) hv
    have hk : u * ps'.length + v < ps.length * ps'.length := by
      have z : (u + 1) * ps'.length ≤ ps.length * ps'.length := Nat.mul_le_mul_right _ hu
      rw [Nat.add_mul, Nat.one_mul] at z
      omega
    have g := boT_get (m := ns'.length) hk (by rw [q1]; exact List.getElem?_eq_some_iff.mpr ⟨hu, eu⟩) (by rw [q2]; exact List.getElem?_eq_some_iff.mpr ⟨hv, ev⟩)
    have z1 : x / (ns'.length : Int) * (ns'.length : Int) + x % (ns'.length : Int) = x := by rw [Int.mul_comm]; exact Int.mul_ediv_add_emod x _
    have z2 : y / (ns'.length : Int) * (ns'.length : Int) + y % (ns'.length : Int) = y := by rw [Int.mul_comm]; exact Int.mul_ediv_add_emod y _
    rw [z1, z2] at g
    exact List.mem_of_getElem? g
theorem bo_nd (S : Stp ns ps) (S' : Stp ns' ps') : (boT ns'.length ps ps').Nodup := by
  refine List.pairwise_iff_getElem.mpr fun i j hi hj ij e => ?_
  have gi := List.getElem?_eq_getElem hi
  have gj := List.getElem?_eq_getElem hj
  rw [← e] at gj
  rw [boT_len] at hi hj
  obtain ⟨l1, l2⟩ := dv_lt hi
  obtain ⟨l3, l4⟩ := dv_lt hj
  have g1 : ps[i / ps'.length]? = some ps[i / ps'.length] := List.getElem?_eq_getElem l1
  have g2 : ps'[i % ps'.length]? = some ps'[i % ps'.length] := List.getElem?_eq_getElem l2
  have g3 : ps[j / ps'.length]? = some ps[j / ps'.length] := List.getElem?_eq_getElem l3
  have g4 : ps'[j % ps'.length]? = some ps'[j % ps'.length] := List.getElem?_eq_getElem l4
  obtain ⟨a, b, e1, ba, bb⟩ := S.pair _ (List.mem_of_getElem? g1)
  obtain ⟨c, d, e2, bc, bd⟩ := S'.pair _ (List.mem_of_getElem? g2)
  obtain ⟨a', b', e3, ba', bb'⟩ := S.pair _ (List.mem_of_getElem? g3)
  obtain ⟨c', d', e4, bc', bd'⟩ := S'.pair _ (List.mem_of_getElem? g4)
  rw [e1] at g1
  rw [e2] at g2
  rw [e3] at g3
  rw [e4] at g4
  rw [boT_get hi g1 g2] at gi
  rw [boT_get hj g3 g4] at gj
  have q := Option.some.inj (gi.trans gj.symm)
  injection q with q1 q2
  injection q2 with q2 _
  obtain ⟨x1, x2⟩ := dvm (a := a) bc.1 bc.2
  obtain ⟨x3, x4⟩ := dvm (a := a') bc'.1 bc'.2
  obtain ⟨y1, y2⟩ := dvm (a := b) bd.1 bd.2
  obtain ⟨y3, y4⟩ := dvm (a := b') bd'.1 bd'.2
  rw [q1] at x1 x2
  rw [q2] at y1 y2
  have ea : a = a' := x1.symm.trans x3
  have ec : c = c' := x2.symm.trans x4
  have eb : b = b' := y1.symm.trans y3
  have ed : d = d' := y2.symm.trans y4
  subst ea ec eb ed
  have inj : ∀ {l : List (List Int)} {u v : Nat} {p : List Int}, l.Nodup → l[u]? = some p → l[v]? = some p → u = v := fun {l u v p} nd hu hv => by
    obtain ⟨hu1, hu2⟩ := List.getElem?_eq_some_iff.mp hu
    obtain ⟨hv1, hv2⟩ := List.getElem?_eq_some_iff.mp hv
    have pw := List.pairwise_iff_getElem.mp nd
    rcases Nat.lt_trichotomy u v with z | z | z
    · exact absurd (hu2.trans hv2.symm) (pw u v hu1 hv1 z)
    · exact z
    · exact absurd (hv2.trans hu2.symm) (pw v u hv1 hu1 z)
  have r1 := inj S.nd g1 g3
  have r2 := inj S'.nd g2 g4
  have k1 := dv_bk i ps'.length
  have k2 := dv_bk j ps'.length
  rw [r1, r2] at k1
  omega
theorem bo_rise (l : ns.length * ns'.length ≤ 64) : (boS ns.length ns'.length ps ps').Pairwise fun p q => cd p < cd q := grid_rise (by omega) (by omega)
theorem bo_pr : ∀ p ∈ boS ns.length ns'.length ps ps', Pr ((ns.length * ns'.length : Nat) : Int) p := grid_pr (by omega) (by omega) (by omega)
theorem bo_mir (M : Mir ns) (M' : Mir ns') (h8 : ns.length * ns'.length ≤ 8) : Mir (boN ns ns') := by
  have get : ∀ {k : Nat}, k < ns.length * ns'.length → ∃ x y, ns[k / ns'.length]? = some x ∧ ns'[k % ns'.length]? = some y ∧ (boN ns ns')[k]? = some (x * (ns'.length : Int) + y) := fun {k} hk => by
    obtain ⟨l1, l2⟩ := dv_lt hk
    exact ⟨_, _, List.getElem?_eq_getElem l1, List.getElem?_eq_getElem l2, boN_get hk (List.getElem?_eq_getElem l1) (List.getElem?_eq_getElem l2)⟩
  refine ⟨by rw [boN_len]; exact Nat.mul_pos M.pos M'.pos, by rw [boN_len]; exact h8, fun i hi => ?_, fun k m hk => ?_⟩
  · obtain ⟨k, hk, e⟩ := List.getElem_of_mem hi
    have g := List.getElem?_eq_some_iff.mpr ⟨hk, e⟩
    rw [boN_len] at hk
    obtain ⟨x, y, g1, g2, g3⟩ := get hk
    rw [g3] at g
    cases g
    rw [boN_len]
    exact in_box (M.inn x (List.mem_of_getElem? g1)) (M'.inn y (List.mem_of_getElem? g2))
  · have lk := (List.getElem?_eq_some_iff.mp hk).1
    rw [boN_len] at lk
    obtain ⟨x, y, g1, g2, g3⟩ := get lk
    rw [g3] at hk
    cases hk
    have bx := M.inn x (List.mem_of_getElem? g1)
    have b_y := M'.inn y (List.mem_of_getElem? g2)
    have box := in_box bx b_y
    have e0 : (x * (ns'.length : Int) + y).toNat = x.toNat * ns'.length + y.toNat := by
      have : x * (ns'.length : Int) + y = ((x.toNat * ns'.length + y.toNat : Nat) : Int) := by
        rw [Int.natCast_add, Int.natCast_mul, Int.toNat_of_nonneg bx.1, Int.toNat_of_nonneg b_y.1]
      rw [this, Int.toNat_natCast]
    obtain ⟨d1, d2⟩ := dvm_nat (a := x.toNat) (b := y.toNat) (n := ns'.length) (by omega)
    have hk2 : x.toNat * ns'.length + y.toNat < ns.length * ns'.length := by rw [← e0]; omega
    have g := boN_get hk2 (by rw [d1]; exact M.back _ _ g1) (by rw [d2]; exact M'.back _ _ g2)
    rw [e0, g]
    have := dv_bk k ns'.length
    rw [← Int.natCast_mul, ← Int.natCast_add, this]
theorem bo_part (M : Mir ns) (S : Stp ns ps) (M' : Mir ns') (S' : Stp ns' ps') (l : ns.length * ns'.length ≤ 64) : Part (boN ns ns') (boS ns.length ns'.length ps ps') := by
  refine ⟨rise_nd (bo_rise l), fun p hp => by rw [boN_len]; exact bo_pr p hp, fun x y mx my h hx hy => ?_⟩
  obtain ⟨bx, b_y, m1, m2⟩ := mem_boS.mp h
  have get : ∀ {z mz : Int}, 0 ≤ z ∧ z < ((ns.length * ns'.length : Nat) : Int) → (boN ns ns')[z.toNat]? = some mz → ∃ u v, ns[(z / (ns'.length : Int)).toNat]? = some u ∧ ns'[(z % (ns'.length : Int)).toNat]? = some v ∧ mz = u * (ns'.length : Int) + v := fun {z mz} bz hz => by
    obtain ⟨t, rfl⟩ : ∃ t : Nat, z = (t : Int) := ⟨z.toNat, by omega⟩
    rw [Int.toNat_natCast] at hz
    have lz : t < ns.length * ns'.length := by omega
    obtain ⟨l1, l2⟩ := dv_lt lz
    have g := boN_get lz (List.getElem?_eq_getElem l1) (List.getElem?_eq_getElem l2)
    rw [hz] at g
    refine ⟨_, _, ?_, ?_, Option.some.inj g⟩
    · rw [← Int.natCast_ediv, Int.toNat_natCast]; exact List.getElem?_eq_getElem l1
    · rw [← Int.natCast_emod, Int.toNat_natCast]; exact List.getElem?_eq_getElem l2
  obtain ⟨u, v, g1, g2, rfl⟩ := get bx hx
  obtain ⟨u', v', g3, g4, rfl⟩ := get b_y hy
  have c1 := M.inn u (List.mem_of_getElem? g1)
  have c2 := M'.inn v (List.mem_of_getElem? g2)
  have c3 := M.inn u' (List.mem_of_getElem? g3)
  have c4 := M'.inn v' (List.mem_of_getElem? g4)
  obtain ⟨d1, d2⟩ := dvm (a := u) c2.1 c2.2
  obtain ⟨d3, d4⟩ := dvm (a := u') c4.1 c4.2
  refine mem_boS.mpr ⟨in_box c3 c4, in_box c1 c2, ?_, ?_⟩
  · rw [d1, d3]; exact S.mirr _ _ _ _ m1 g1 g3
  · rw [d2, d4]; exact S'.mirr _ _ _ _ m2 g2 g4
theorem bo_stp (M : Mir ns) (S : Stp ns ps) (M' : Mir ns') (S' : Stp ns' ps') (h8 : ns.length * ns'.length ≤ 8) : Stp (boN ns ns') (boS ns.length ns'.length ps ps') := part_stp (bo_mir M M' h8) (bo_part M S M' S' (by omega)) (bo_rise (by omega))
end
end K43
set_option maxHeartbeats 4000000
namespace K43
open PySem PySem.Spec PyProof.Rows L2 RV
section
variable {P : Program} {w : World} {K : PySem.W.Frag} {mg : Str → Option Value} {base : Heap}
/-! ### is_step -/
theorem scStep : FnScope ["thing", "many"] ["thing", "many"] (defScope sStep) := ⟨rfl, rfl, rfl, by decide +kernel, rfl, by decide +kernel, by decide +kernel⟩
def spStep (K : PySem.W.Frag) : Sp := fun vs H Q _ => ∃ (a : Addr) (x y n : Int), vs = [.ref a, .int n] ∧ SqT K H a ([x, y].map V.int) ∧ (0 ≤ x ∧ x < n) ∧ (0 ≤ y ∧ y < n) ∧ ∀ H', Same H H' → Q (.bl true) H'
theorem ok_step {f fA : Addr} {fd fdA : FuncData} (F : Fun K "is_step" "is_step" sStep f fd) (DA : DefAt K mg "are_marks" sMarks ["thing", "many"] fA fdA) (GA : FnOk P w K mg base CX0 3 fA fdA ["thing", "many"] (spMarks K)) (B : Bare mg) :
    FnOk P w K mg base CX0 4 f fd ["thing", "many"] (spStep K) := by
  refine F.ok scStep (fun vs H Q E h => ?_) (fun cdv A outer s H vs Q E hr h => ?_)
  · obtain ⟨a, x, y, n, rfl, _⟩ := h
    rfl
  · obtain ⟨a, x, y, n, rfl, hT, hx, hy, q⟩ := h
    refine ⟨_, pss_one (ps_ret (pe_and (pe_call GA hr (by rfl) DA.mg DA.fn.kp DA.bi .nil pass0 (pa_cons (pv 0) (pa_cons (pv 1) pa_nil))) (pe_one (pe_cmpR op_eq (pe_callB call_len_seq (by rfl) B.len PySem.boot_len (pa_cons (pv 0) pa_nil)) pe_int (nomark _))))), ?_⟩
    refine ⟨.ref a, rfl, .int n, rfl, a, [x, y], n, rfl, hT, by simp, by simp, fun i hi => ?_, fun H1 s1 => ⟨true, rfl, iteT ?_⟩⟩
    · simp only [List.mem_cons, List.mem_nil_iff, or_false, List.not_mem_nil] at hi
      rcases hi with rfl | rfl
      · exact hx
      · exact hy
    · refine ⟨.ref a, rfl, a, _, rfl, .inr (sqT_same s1 hT), rfl, ?_⟩
      exact q H1 s1
/-! ### is_rising -/
theorem scRising : FnScope ["pairs", "one", "other"] ["pairs"] (defScope sRising) := ⟨rfl, rfl, rfl, by decide +kernel, rfl, by decide +kernel, by decide +kernel⟩
def spRising (K : PySem.W.Frag) : Sp := fun vs H Q _ => ∃ (a : Addr) (ps : List (List Int)), vs = [.ref a] ∧ Tups K H a ps ∧ ps.length ≤ 1000 ∧ (∀ (i : Nat) (p q : List Int), ps[i]? = some p → ps[i + 1]? = some q → HT.lexLt p q = true) ∧ ∀ H', Same H H' → Q (.bl true) H'
theorem cut1 (xs : List V) : cutV xs (some 1) none = xs.drop 1 := by
  unfold cutV
  rw [show HT.sIx xs.length 0 (some 1) = min 1 xs.length from HT.sIx_nat xs.length 0 1, HT.sIx_none]
  cases xs with
  | nil => rfl
  | cons x r =>
    rw [show min 1 (x :: r).length = 1 by rw [List.length_cons]; omega]
    show (List.take ((x :: r).length - 1) r) = r
    rw [List.length_cons, Nat.add_sub_cancel]
    exact List.take_length
theorem ok_rising {f : Addr} {fd : FuncData} (F : Fun K "is_rising" "is_rising" sRising f fd) (B : Bare mg) : FnOk P w K mg base CX0 1 f fd ["pairs"] (spRising K) := by
  refine F.ok scRising (fun vs H Q E h => ?_) (fun cdv A outer s H vs Q E hr h => ?_)
  · obtain ⟨a, ps, rfl, _⟩ := h
    rfl
  · obtain ⟨a, ps, rfl, hTT, hl, hrise, q⟩ := h
    obtain ⟨ks, rfl, hT, hks⟩ := hTT
    refine ⟨_, pss_one (ps_ret (pe_callB (cr_all rfl) (by rfl) B.all (by decide +kernel) (pa_cons
        (pe_lc (own := [("one", 1), ("other", 2)]) (g := gTup K 2 (gCons (gName 1) (gCons (gName 2) gNil))) (tt := tYes) rfl scRising.nd (RZ.pi_zipA (by rfl) B.zip (pa_cons (pv 0) (pa_cons (pe_slice sl_tupA (pv 0) (po_some pe_int) po_none) pa_nil))) (blkOk_by (N := ["pairs", "one", "other"]) (sc := defScope sRising) (by decide +kernel))
          (fun _ _ _ _ _ => pg_tupK rfl rfl (pgs_cons (pg_name (i := 1) scRising.nd rfl (Or.inl rfl)) (pgs_cons (pg_name (i := 2) scRising.nd rfl (Or.inl rfl)) pgs_nil))) (fun _ _ _ _ _ => pts_nil)
          (fun _ _ _ _ _ => pe_cmpR (op_ltTK (K := K) rfl hr.units0) (pv 1) (pv 2) (nomark _))) pa_nil))), ?_⟩
    have go : ∀ (b : Addr) (H1 : Hp) (Qc : VK), Same H H1 → SqT K H1 b ((ks.map fun p => V.ref p.1).drop 1) → (∀ D H', Same H1 H' → H' D = some (.lst (List.replicate (ks.length - 1) (V.bl true))) → Qc (.ref D) H') →
        tLc (fun _ H2 R => R (RZ.ItzT K a b) H2) (gTup K 2 (gCons (gName 1) (gCons (gName 2) gNil))) tYes (tOp (rLtT K) (tVar 1) (tVar 2)) [1, 2] (start ["pairs", "one", "other"] [.ref a]) H1 Qc := by
      intro b H1 Qc s1 hb fin D nD
      refine lc_it (walk_zipT (K := K) (a := a) (b := b) (xs := ks.map fun p => V.ref p.1) (ys := (ks.map fun p => V.ref p.1).drop 1) (n := ks.length - 1) (by rw [List.length_drop, List.length_map]; omega))
        (fun i H' => Same H1 H' ∧ H' D = some (.lst (List.replicate i (V.bl true)))) ⟨same_upd nD, upd_same⟩ (fun i H' _ p => ⟨sqT_same p.1 (sqT_same s1 hT), sqT_same p.1 hb⟩) (fun i x H2 H3 hi p y => ?_) fun H' p => fin D H' p.1 p.2
      obtain ⟨T, x1, x2, rfl, nT, rfl, e1, e2⟩ := y
      have e3 : ((ks.map fun p => V.ref p.1).drop 1)[i]? = some x2 := e2
      rw [List.getElem?_drop] at e3
      obtain ⟨k1, g1, rfl⟩ := map_at e1
      obtain ⟨k2, g2, rfl⟩ := map_at e3
      have sT : Same H2 (upd H2 T (.tup [V.ref k1.1, V.ref k2.1])) := same_upd nT
      have sA : Same H (upd H2 T (.tup [V.ref k1.1, V.ref k2.1])) := (s1.trans p.1).trans sT
      have lt : HT.lexLt k1.2 k2.2 = true := by
        refine hrise i k1.2 k2.2 ?_ ?_
        · rw [List.getElem?_map, g1]; rfl
        · rw [Nat.add_comm, List.getElem?_map, g2]; rfl
      refine ⟨T, _, rfl, tupNew upd_same, rfl, _, _, rfl, _, _, rfl, rfl, rfl, tt_yes ⟨.ref k1.1, rfl, .ref k2.1, rfl, k1.1, k2.1, k1.2, k2.2, rfl, rfl, sqT_same sA (hks k1 (List.mem_of_getElem? g1)), sqT_same sA (hks k2 (List.mem_of_getElem? g2)), _, sT _ _ p.2, ?_, ?_, ?_⟩⟩
      · rw [List.length_replicate]; rw [List.length_map] at hl; exact few1 (by omega)
      · exact fun b o e => by rw [upd_ne (ne_of_none e nD)]; exact sT b o (p.1 b o e)
      · rw [upd_same, lt, rep_next]
    have fin : ∀ (H1 : Hp), Same H H1 → ∀ D H', Same H1 H' → H' D = some (.lst (List.replicate (ks.length - 1) (V.bl true))) → ∃ (a : Addr) (bs : List Bool), [V.ref D] = [V.ref a] ∧ SqL K H' a (bs.map V.bl) ∧ Q (.bl (bs.all id)) H' := by
      intro H1 s1 D H' s2 e
      refine ⟨D, List.replicate (ks.length - 1) true, rfl, lstNew (by rw [e, rep_bl]), ?_⟩
      rw [all_true]
      exact q H' (s1.trans s2)
    refine ⟨.ref a, rfl, .ref a, rfl, 1, rfl, a, _, rfl, hT, fun hw => ?_, fun hw c nc => ?_⟩
    · have e0 : ks.map (fun p => V.ref p.1) = [] := by
        cases hk : ks.map (fun p => V.ref p.1) with
        | nil => rfl
        | cons x r =>
          rw [hk] at hw
          have h1 := hw.1
          rw [show HT.sIx (x :: r).length 0 (some 1) = min 1 (x :: r).length from HT.sIx_nat _ 0 1, List.length_cons] at h1
          omega
      refine ⟨a, a, _, _, rfl, .inr ⟨hT, hT, ?_⟩⟩
      refine go a H (fun v H2 => ∃ (a : Addr) (bs : List Bool), [v] = [V.ref a] ∧ SqL K H2 a (bs.map V.bl) ∧ Q (.bl (bs.all id)) H2) (Same.refl H) ?_ ?_
      · rw [e0]; rw [e0] at hT; exact hT
      · exact fin H (Same.refl H)
    · have s1 : Same H (upd H c (.tup (cutV (ks.map fun p => V.ref p.1) (some 1) none))) := same_upd nc
      refine ⟨a, c, _, _, rfl, .inr ⟨sqT_same s1 hT, tupNew upd_same, ?_⟩⟩
      refine go c _ (fun v H2 => ∃ (a : Addr) (bs : List Bool), [v] = [V.ref a] ∧ SqL K H2 a (bs.map V.bl) ∧ Q (.bl (bs.all id)) H2) s1 ?_ ?_
      · exact tupNew (by rw [upd_same, cut1])
      · exact fin _ s1
end
end K43
set_option maxHeartbeats 4000000
namespace K43
open PySem PySem.Spec PyProof.Rows L2 RV
/-- the marks behind m by the steps ps -/
def behindOf (ps : List (List Int)) (m : Int) : List Int := (ps.filter fun p => decide (p.getD 0 0 = m)).map fun p => p.getD 1 0
section
variable {P : Program} {w : World} {K : PySem.W.Frag} {mg : Str → Option Value} {base : Heap}
/-! ### marks_behind -/
theorem scBehind : FnScope ["steps", "mark", "a", "b"] ["steps", "mark"] (defScope sBehind) := ⟨rfl, rfl, rfl, by decide +kernel, rfl, by decide +kernel, by decide +kernel⟩
def spBehind (K : PySem.W.Frag) : Sp := fun vs H Q _ => ∃ (a : Addr) (ps : List (List Int)) (m : Int), vs = [.ref a, .int m] ∧ Tups K H a ps ∧ ps.length ≤ 1000 ∧ (∀ p ∈ ps, ∃ x y : Int, p = [x, y]) ∧
  ∀ H' t, Same H H' → H t = none → H' t = some (.tup ((behindOf ps m).map V.int)) → Q (.ref t) H'
theorem behind_next {ps : List (List Int)} {m : Int} {i : Nat} {x y : Int} (h : ps[i]? = some [x, y]) : behindOf (ps.take (i + 1)) m = behindOf (ps.take i) m ++ (if x = m then [y] else []) := by
  unfold behindOf
  rw [List.take_add_one, h]
  show List.map _ (List.filter _ (ps.take i ++ [[x, y]])) = _
  rw [List.filter_append, List.map_append]
  by_cases e : x = m
  · simp [e]
  · simp [e]
theorem behind_len (ps : List (List Int)) (m : Int) : (behindOf ps m).length ≤ ps.length := by
  unfold behindOf
  rw [List.length_map]
  exact List.length_filter_le _ _
theorem ok_behind {f : Addr} {fd : FuncData} (F : Fun K "marks_behind" "marks_behind" sBehind f fd) (B : Bare mg) : FnOk P w K mg base CX0 1 f fd ["steps", "mark"] (spBehind K) := by
  refine F.ok scBehind (fun vs H Q E h => ?_) (fun cdv A outer s H vs Q E hr h => ?_)
  · obtain ⟨a, ps, m, rfl, _⟩ := h
    rfl
  · obtain ⟨a, ps, m, rfl, hTT, hl, hp, q⟩ := h
    obtain ⟨ks, rfl, hT, hks⟩ := hTT
    refine ⟨_, pss_one (ps_ret (pe_tupleOf (by rfl) B.tuple
        (pe_lc (own := [("a", 2), ("b", 3)]) (g := gTup K 2 (gCons (gName 2) (gCons (gName 3) gNil))) rfl scBehind.nd (pi_tup (pv 0)) (blkOk_by (N := ["steps", "mark", "a", "b"]) (sc := defScope sBehind) (by decide +kernel))
          (fun _ _ _ _ _ => pg_tupK rfl rfl (pgs_cons (pg_name (i := 2) scBehind.nd rfl (Or.inl rfl)) (pgs_cons (pg_name (i := 3) scBehind.nd rfl (Or.inl rfl)) pgs_nil))) (fun _ _ _ _ _ => pts_one (pt_cmpR op_eq (pv 2) (pv 1) (nomark _)))
          (fun _ _ _ _ _ => pv 3)))), ?_⟩
    refine ⟨.ref a, rfl, a, rfl, ⟨_, hT⟩, fun D nD => ?_⟩
    refine lc_tup (K := K) (a := a) (xs := ks.map fun p => V.ref p.1) (fun i H' => Same H H' ∧ H' D = some (.lst ((behindOf ((ks.map (·.2)).take i) m).map V.int))) ⟨same_upd nD, by rw [upd_same]; rfl⟩ (fun i H' _ p => sqT_same p.1 hT) (fun i x H' hx p => ?_) fun H' p => ?_
    · obtain ⟨k, g, rfl⟩ := map_at hx
      have hk : k ∈ ks := List.mem_of_getElem? g
      obtain ⟨x, y, e⟩ := hp k.2 (List.mem_map_of_mem hk)
      have hkT : SqT K H' k.1 ([x, y].map V.int) := by rw [← e]; exact sqT_same p.1 (hks k hk)
      have gi : (ks.map (·.2))[i]? = some [x, y] := by rw [List.getElem?_map, g, ← e]; rfl
      refine ⟨k.1, _, rfl, hkT, rfl, _, _, rfl, _, _, rfl, rfl, rfl, .int x, rfl, .int m, rfl, rfl, _, rfl, ?_⟩
      have hle := behind_len ((ks.map (·.2)).take i) m
      rw [List.length_take] at hle
      by_cases e : x = m
      · subst e
        rw [decide_eq_true rfl]
        refine iteT ⟨.int y, rfl, _, p.2, ?_, ?_, ?_⟩
        · rw [List.length_map]; exact few1 (by omega)
        · exact fun b o z => by rw [upd_ne (ne_of_none z nD)]; exact p.1 b o z
        · rw [upd_same, behind_next gi, if_pos rfl, List.map_append]; rfl
      · rw [decide_eq_false (fun z => e (V.int.inj z))]
        refine iteF ⟨p.1, ?_⟩
        rw [p.2, behind_next gi, if_neg e, List.append_nil]
    · rw [List.length_map] at p
      have e : (ks.map (·.2)).take ks.length = ks.map (·.2) := List.take_of_length_le (by rw [List.length_map]; exact Nat.le_refl _)
      rw [e] at p
      refine .inl ⟨D, _, rfl, lstNew p.2, fun t nt => ?_⟩
      exact q _ t (p.1.trans (same_upd nt)) (p.1.free nt) upd_same
/-! ### are_steps -/
theorem scSteps : FnScope ["mirrors", "thing", "pair", "a", "b"] ["mirrors", "thing"] (defScope sSteps) := ⟨rfl, rfl, rfl, by decide +kernel, rfl, by decide +kernel, by decide +kernel⟩
def spSteps (K : PySem.W.Frag) : Sp := fun vs H Q _ => ∃ (a b : Addr) (ns : List Int) (ps : List (List Int)), vs = [.ref a, .ref b] ∧ SqT K H a (ns.map V.int) ∧ Tups K H b ps ∧ Mir ns ∧ Stp ns ps ∧ ∀ H', Same H H' → Q (.bl true) H'
theorem ok_steps {f fS fR : Addr} {fd fdS fdR : FuncData} (F : Fun K "are_steps" "are_steps" sSteps f fd) (DS : DefAt K mg "is_step" sStep ["thing", "many"] fS fdS) (GS : FnOk P w K mg base CX0 4 fS fdS ["thing", "many"] (spStep K))
    (DR : DefAt K mg "is_rising" sRising ["pairs"] fR fdR) (B : Bare mg) : FnOk P w K mg base CX0 5 f fd ["mirrors", "thing"] (spSteps K) := by
  have GR : FnOk P w K mg base CX0 1 fR fdR ["pairs"] (spRising K) := ok_rising DR.fn B
  refine F.ok scSteps (fun vs H Q E h => ?_) (fun cdv A outer s H vs Q E hr h => ?_)
  · obtain ⟨a, b, ns, ps, rfl, _⟩ := h
    rfl
  · obtain ⟨a, b, ns, ps, rfl, hA, hTT, hM, hS, q⟩ := h
    have hTT0 := hTT
    obtain ⟨ks, rfl, hT, hks⟩ := hTT
    have h64 := hS.few
    rw [List.length_map] at h64
    refine ⟨_, pss_cons (ps_if (pt_not (pt_val (pe_callB call_isi (by rfl) B.isinstance (by decide +kernel) (pa_cons (pv 1) (pa_cons (pe_bltn (v := .ty "tuple") (by rfl) B.tuple (by decide +kernel) rfl) pa_nil))))) (pss_one (ps_ret pe_bl)) pss_nil)
      (pss_cons (ps_if (pt_not (pt_val (pe_callB (cr_all rfl) (by rfl) B.all (by decide +kernel) (pa_cons
        (pe_lc (own := [("pair", 2)]) (g := gName 2) (tt := tYes) rfl scSteps.nd (pi_tup (pv 1)) (blkOk_by (N := ["mirrors", "thing", "pair", "a", "b"]) (sc := defScope sSteps) (by decide +kernel)) (fun _ _ _ _ _ => pg_name (i := 2) scSteps.nd rfl (Or.inl rfl)) (fun _ _ _ _ _ => pts_nil)
          (fun _ _ _ _ _ => pe_call GS hr (by rfl) DS.mg DS.fn.kp DS.bi .nil pass0 (pa_cons (pv 2) (pa_cons (pe_callB (call_lenK (K := K) rfl) (by rfl) B.len PySem.boot_len (pa_cons (pv 0) pa_nil)) pa_nil)))) pa_nil)))) (pss_one (ps_ret pe_bl)) pss_nil)
      (pss_cons (ps_if (pt_not (pt_val (pe_call GR (hr.mono (by decide)) (by rfl) DR.mg DR.fn.kp DR.bi .nil pass0 (pa_cons (pv 1) pa_nil)))) (pss_one (ps_ret pe_bl)) pss_nil)
      (pss_one (ps_ret (pe_callB (cr_all rfl) (by rfl) B.all (by decide +kernel) (pa_cons
        (pe_lc (own := [("a", 3), ("b", 4)]) (g := gTup K 2 (gCons (gName 3) (gCons (gName 4) gNil))) (tt := tYes) rfl scSteps.nd (pi_tup (pv 1)) (blkOk_by (N := ["mirrors", "thing", "pair", "a", "b"]) (sc := defScope sSteps) (by decide +kernel))
          (fun _ _ _ _ _ => pg_tupK rfl rfl (pgs_cons (pg_name (i := 3) scSteps.nd rfl (Or.inl rfl)) (pgs_cons (pg_name (i := 4) scSteps.nd rfl (Or.inl rfl)) pgs_nil))) (fun _ _ _ _ _ => pts_nil)
          (fun _ _ _ _ _ => pe_cmpR (op_inTsK (K := K) rfl (un65 hr)) (pe_tup (pa_cons (pe_ix (ix_tupK (K := K) rfl) (pv 0) (pv 4) (fun _ _ => rfl)) (pa_cons (pe_ix (ix_tupK (K := K) rfl) (pv 0) (pv 3) (fun _ _ => rfl)) pa_nil))) (pv 1) (by rfl))) pa_nil)))))), ?_⟩
    -- isinstance(thing, tuple)
    refine ⟨.ref b, rfl, .ref b, .ty "tuple", _, _, true, rfl, .ty "tuple", tyT hT, kit_ty (by decide +kernel), true, rfl, iteF ?_⟩
    -- all of them are steps
    refine ⟨.ref b, rfl, b, rfl, ⟨_, hT⟩, fun D nD => ?_⟩
    refine lc_tup (K := K) (a := b) (xs := ks.map fun p => V.ref p.1) (fun i H' => Same H H' ∧ H' D = some (.lst (List.replicate i (V.bl true)))) ⟨same_upd nD, upd_same⟩ (fun i H' _ p => sqT_same p.1 hT) (fun i x H' hx p => ?_) fun H1 p => ?_
    · obtain ⟨k, g, rfl⟩ := map_at hx
      have hk : k ∈ ks := List.mem_of_getElem? g
      have hi : i < ks.length := (List.getElem?_eq_some_iff.mp g).1
      obtain ⟨x, y, e, hx1, hy1⟩ := hS.pair k.2 (List.mem_map_of_mem hk)
      have hkT : SqT K H' k.1 ([x, y].map V.int) := by rw [← e]; exact sqT_same p.1 (hks k hk)
      refine ⟨rfl, tt_yes ⟨.ref k.1, rfl, .ref a, rfl, a, _, rfl, .inr (sqT_same p.1 hA), k.1, x, y, _, rfl, hkT, ?_, ?_, fun H2 s2 => ⟨_, s2 _ _ p.2, ?_, ?_, ?_⟩⟩⟩
      · rw [List.length_map]; exact hx1
      · rw [List.length_map]; exact hy1
      · rw [List.length_replicate]; exact few1 (by omega)
      · exact fun c o z => by rw [upd_ne (ne_of_none z nD)]; exact s2 c o (p.1 c o z)
      · rw [upd_same, rep_next]
    · rw [rep_bl] at p
      refine ⟨D, _, rfl, lstNew p.2, ?_⟩
      rw [all_true]
      refine ⟨true, rfl, iteF ?_⟩
      -- they rise
      refine ⟨.ref b, rfl, b, _, rfl, hTT0.same p.1, by rw [List.length_map]; omega, hS.rise, fun H2 s2 => ⟨true, rfl, iteF ?_⟩⟩
      have s02 : Same H H2 := p.1.trans s2
      -- their mirror steps
      refine ⟨.ref b, rfl, b, rfl, ⟨_, sqT_same s02 hT⟩, fun D2 nD2 => ?_⟩
      refine lc_tup (K := K) (a := b) (xs := ks.map fun p => V.ref p.1) (fun i H' => Same H2 H' ∧ H' D2 = some (.lst (List.replicate i (V.bl true)))) ⟨same_upd nD2, upd_same⟩ (fun i H' _ p => sqT_same p.1 (sqT_same s02 hT)) (fun i x H' hx p => ?_) fun H3 p => ?_
      · obtain ⟨k, g, rfl⟩ := map_at hx
        have hk : k ∈ ks := List.mem_of_getElem? g
        have hi : i < ks.length := (List.getElem?_eq_some_iff.mp g).1
        obtain ⟨x, y, e, hx1, hy1⟩ := hS.pair k.2 (List.mem_map_of_mem hk)
        have s0' : Same H H' := s02.trans p.1
        have hkT : SqT K H' k.1 ([x, y].map V.int) := by rw [← e]; exact sqT_same s0' (hks k hk)
        obtain ⟨mx, gx⟩ : ∃ mx, ns[x.toNat]? = some mx := ⟨_, List.getElem?_eq_getElem (by omega)⟩
        obtain ⟨my, gy⟩ : ∃ my, ns[y.toNat]? = some my := ⟨_, List.getElem?_eq_getElem (by omega)⟩
        have hin : [my, mx] ∈ ks.map (·.2) := hS.mirr x y mx my (by rw [← e]; exact List.mem_map_of_mem hk) gx gy
        have ax : atI (ns.map V.int) x = some (.int mx) := by
          rw [show x = ((x.toNat : Nat) : Int) by omega]; exact atI_nat (by rw [List.getElem?_map, gx]; rfl)
        have ay : atI (ns.map V.int) y = some (.int my) := by
          rw [show y = ((y.toNat : Nat) : Int) by omega]; exact atI_nat (by rw [List.getElem?_map, gy]; rfl)
        refine ⟨k.1, _, rfl, hkT, rfl, _, _, rfl, _, _, rfl, rfl, rfl, tt_yes ⟨.ref a, rfl, .int y, rfl, a, _, y, _, rfl, rfl, sqT_same s0' hA, ay, .ref a, rfl, .int x, rfl, a, _, x, _, rfl, rfl, sqT_same s0' hA, ax, (by show 2 ≤ sizeLine; decide), fun T nT => ?_⟩⟩
        have sT : Same H' (upd H' T (.tup [.int my, .int mx])) := same_upd nT
        refine ⟨.ref b, rfl, T, b, [my, mx], _, rfl, rfl, tupNew upd_same, (hTT0.same s0').same sT, _, sT _ _ p.2, ?_, ?_, ?_⟩
        · rw [List.length_replicate]; exact few1 (by omega)
        · exact fun c o z => by rw [upd_ne (ne_of_none z nD2)]; exact sT c o (p.1 c o z)
        · rw [upd_same, decide_eq_true hin, rep_next]
      · rw [rep_bl] at p
        refine ⟨D2, _, rfl, lstNew p.2, ?_⟩
        rw [all_true]
        exact q H3 (s02.trans p.1)
end
end K43
set_option maxHeartbeats 4000000
namespace K43
open PySem PySem.Spec PyProof.Rows L2 RV
/-! ### a Rule's fields -/
theorem n1 : ¬ (("mirrors" : Str) = "steps") := by decide +kernel
theorem n2 : ¬ (("mirrors" : Str) = "followers") := by decide +kernel
theorem n3 : ¬ (("steps" : Str) = "followers") := by decide +kernel
def flds (a b t : Addr) : List (Str × V) := putF "followers" (.ref t) (putF "steps" (.ref b) (putF "mirrors" (.ref a) []))
theorem flds_m (a b t : Addr) : (flds a b t).lookup ("mirrors" : Str) = some (.ref a) := by
  unfold flds
  rw [lookup_putF, if_neg n2, lookup_putF, if_neg n1, lookup_putF, if_pos rfl]
theorem flds_s (a b t : Addr) : (flds a b t).lookup ("steps" : Str) = some (.ref b) := by
  unfold flds
  rw [lookup_putF, if_neg n3, lookup_putF, if_pos rfl]
/-- all that a mark is followed by, mark by mark -/
def follow (n : Nat) (ps : List (List Int)) : List (List Int) := (List.range n).map fun (i : Nat) => behindOf ps (i : Int)
/-- a Rule stands at p -/
structure RuleAt (K : PySem.W.Frag) (C : Addr) (H : Hp) (p : Addr) (ns : List Int) (ps : List (List Int)) : Prop where
  ex : ∃ dx a b t, H p = some (.ins C dx (flds a b t)) ∧ SqT K H a (ns.map V.int) ∧ Tups K H b ps ∧ Tups K H t (follow ns.length ps)
theorem RuleAt.same {K : PySem.W.Frag} {C : Addr} {H H' : Hp} {p : Addr} {ns : List Int} {ps : List (List Int)} (r : RuleAt K C H p ns ps) (s : Same H H') : RuleAt K C H' p ns ps := by
  obtain ⟨dx, a, b, t, h1, h2, h3, h4⟩ := r.ex
  exact ⟨dx, a, b, t, s _ _ h1, sqT_same s h2, h3.same s, h4.same s⟩
/-- what the class is, behind the top -/
structure Txt (K : PySem.W.Frag) (mg : Str → Option Value) (C : Addr) : Prop where
  cl : Cls K C
  nM : NoAttr K C "mirrors"
  nS : NoAttr K C "steps"
  nF : NoAttr K C "followers"
  mgC : mg "Rule" = some (.ref C)
  c1 : PySem.W.findIn K (.ref C) "__class__" = some (some (.builtin "object.__class__"))
  c2 : PySem.W.specialIn K (.builtin "object.__class__") "__get__" = some (some (.builtin "getset_descriptor.__get__"))
  c3 : PySem.W.takesIn K (.builtin "object.__class__") = some true
  c4 : PySem.W.mroIn K C (.type "object") = some true
  c5 : PySem.W.kitOne K (.ref C) (.ref C) = some true
section
variable {P : Program} {w : World} {K : PySem.W.Frag} {mg : Str → Option Value} {base : Heap}
/-! ### __init__ -/
theorem scInit : FnScope ["self", "mirrors", "steps", "mark"] ["self", "mirrors", "steps"] (defScope sInit) := ⟨rfl, rfl, rfl, by decide +kernel, rfl, by decide +kernel, by decide +kernel⟩
def spInit (K : PySem.W.Frag) (C : Addr) : Sp := fun vs H Q _ => ∃ (p dx a b : Addr) (ns : List Int) (ps : List (List Int)), vs = [.ref p, .ref a, .ref b] ∧ H p = some (.ins C dx []) ∧ SqT K H a (ns.map V.int) ∧ Tups K H b ps ∧ Mir ns ∧ Stp ns ps ∧
  ∀ H' t, (∀ c o, H c = some o → c ≠ p → H' c = some o) → H' p = some (.ins C dx (flds a b t)) → Tups K H' t (follow ns.length ps) → Q .non H'
theorem sqT_but {H H' : Hp} {p C dx : Addr} {fs : List (Str × V)} (hp : H p = some (.ins C dx fs)) (k : ∀ c o, H c = some o → c ≠ p → H' c = some o) {a : Addr} {xs : List V} (h : SqT K H a xs) : SqT K H' a xs := by
  rcases h with (h | ⟨o, h⟩) | h
  · exact .inl (.inl (k _ _ h fun z => by rw [z, hp] at h; cases h))
  · exact .inl (.inr ⟨o, k _ _ h fun z => by rw [z, hp] at h; cases h⟩)
  · exact .inr h
theorem tups_but {H H' : Hp} {p C dx : Addr} {fs : List (Str × V)} (hp : H p = some (.ins C dx fs)) (k : ∀ c o, H c = some o → c ≠ p → H' c = some o) {a : Addr} {ps : List (List Int)} (h : Tups K H a ps) : Tups K H' a ps := by
  obtain ⟨ks, h1, h2, h3⟩ := h
  exact ⟨ks, h1, sqT_but hp k h2, fun q hq => sqT_but hp k (h3 q hq)⟩
theorem follow_next (i : Nat) (ps : List (List Int)) : follow (i + 1) ps = follow i ps ++ [behindOf ps (i : Int)] := by
  unfold follow
  rw [List.range_succ, List.map_append]; rfl
theorem ok_init {f fM fS fB C : Addr} {fd fdM fdS fdB : FuncData} (F : Fun K "__init__" "Rule.__init__" sInit f fd) (T : Txt K mg C)
    (DM : DefAt K mg "are_mirrors" sMirrors ["thing"] fM fdM) (GM : FnOk P w K mg base CX0 4 fM fdM ["thing"] (spMirrors K)) (DS : DefAt K mg "are_steps" sSteps ["mirrors", "thing"] fS fdS) (GS : FnOk P w K mg base CX0 5 fS fdS ["mirrors", "thing"] (spSteps K))
    (DB : DefAt K mg "marks_behind" sBehind ["steps", "mark"] fB fdB) (B : Bare mg) : FnOk P w K mg base CX0 6 f fd ["self", "mirrors", "steps"] (spInit K C) := by
  have GB : FnOk P w K mg base CX0 1 fB fdB ["steps", "mark"] (spBehind K) := ok_behind DB.fn B
  refine F.ok scInit (fun vs H Q E h => ?_) (fun cdv A outer s H vs Q E hr h => ?_)
  · obtain ⟨p, dx, a, b, ns, ps, rfl, _⟩ := h
    rfl
  · obtain ⟨p, dx, a, b, ns, ps, rfl, hp, hA, hB, hM, hS, q⟩ := h
    refine ⟨_, pss_cons (ps_if (pt_not (pt_val (pe_call GM (hr.mono (by decide)) (by rfl) DM.mg DM.fn.kp DM.bi .nil pass0 (pa_cons (pv 1) pa_nil)))) (pss_one ps_never) pss_nil)
      (pss_cons (ps_if (pt_not (pt_val (pe_call GS hr (by rfl) DS.mg DS.fn.kp DS.bi .nil pass0 (pa_cons (pv 1) (pa_cons (pv 2) pa_nil))))) (pss_one ps_never) pss_nil)
      (pss_cons (ps_fld (pv 0) (pv 1) rfl)
      (pss_cons (ps_fld (pv 0) (pv 2) rfl)
      (pss_one (ps_fld (pv 0) (pe_tupleOf (by rfl) B.tuple
        (pe_lc (own := [("mark", 3)]) (g := gName 3) (tt := tYes) rfl scInit.nd (pi_range1 (by rfl) B.range (pa_cons (pe_callB call_len_seq (by rfl) B.len PySem.boot_len (pa_cons (pv 1) pa_nil)) pa_nil)) (blkOk_by (N := ["self", "mirrors", "steps", "mark"]) (sc := defScope sInit) (by decide +kernel))
          (fun _ _ _ _ _ => pg_name (i := 3) scInit.nd rfl (Or.inl rfl)) (fun _ _ _ _ _ => pts_nil)
          (fun _ _ _ _ _ => pe_call GB (hr.mono (by decide)) (by rfl) DB.mg DB.fn.kp DB.bi .nil pass0 (pa_cons (pv 2) (pa_cons (pv 3) pa_nil))))) rfl))))), ?_⟩
    refine ⟨.ref a, rfl, a, ns, rfl, hA, hM, fun H1 s1 => ⟨true, rfl, iteF ?_⟩⟩
    refine ⟨.ref a, rfl, .ref b, rfl, a, b, ns, ps, rfl, sqT_same s1 hA, hB.same s1, hM, hS, fun H2 s2 => ⟨true, rfl, iteF ?_⟩⟩
    have s02 : Same H H2 := s1.trans s2
    have hp2 := s02 _ _ hp
    refine ⟨.ref a, rfl, .ref p, rfl, p, C, dx, [], rfl, hp2, T.cl, T.nM, (by show 0 < 1000; decide), ?_⟩
    refine ⟨.ref b, rfl, .ref p, rfl, p, C, dx, _, rfl, upd_same, T.cl, T.nS, (by show 1 < 1000; decide), ?_⟩
    -- the heap behind both stores
    have k4 : ∀ c o, H2 c = some o → c ≠ p → (upd (upd H2 p (.ins C dx (putF "mirrors" (.ref a) []))) p (.ins C dx (putF "steps" (.ref b) (putF "mirrors" (.ref a) [])))) c = some o := fun c o e z => by
      rw [upd_ne z, upd_ne z]; exact e
    generalize e4 : upd (upd H2 p (.ins C dx (putF "mirrors" (.ref a) []))) p (.ins C dx (putF "steps" (.ref b) (putF "mirrors" (.ref a) []))) = H4 at k4 ⊢
    have hp4 : H4 p = some (.ins C dx (putF "steps" (.ref b) (putF "mirrors" (.ref a) []))) := by rw [← e4, upd_same]
    have hA4 : SqT K H4 a (ns.map V.int) := sqT_but hp2 k4 (sqT_same s02 hA)
    have hB4 : Tups K H4 b ps := tups_but hp2 k4 (hB.same s02)
    have h8 := hM.few
    refine ⟨.ref a, rfl, a, _, rfl, .inr hA4, _, rfl, ?_, ?_, fun D nD => ?_⟩
    · rw [List.length_map]; omega
    · rw [List.length_map]; omega
    rw [List.length_map, Int.toNat_natCast]
    refine lc_range (lo := 0) (n := ns.length) (fun i H' => Same H4 H' ∧ ∃ ks : List (Addr × List Int), ks.map (·.2) = follow i ps ∧ H' D = some (.lst (ks.map fun p => V.ref p.1)) ∧ ∀ q ∈ ks, SqT K H' q.1 (q.2.map V.int)) ⟨same_upd nD, [], rfl, upd_same, fun _ z => nomatch z⟩ (fun i H' hi z => ?_) fun H' z => ?_
    · obtain ⟨s5, ks, e1, e2, e3⟩ := z
      have hkl : ks.length = i := by
        have := congrArg List.length e1
        rw [List.length_map] at this
        rw [this]; unfold follow; rw [List.length_map, List.length_range]
      refine ⟨rfl, tt_yes ⟨.ref b, rfl, .int (0 + (i : Nat)), rfl, b, ps, _, rfl, hB4.same s5, by have := hS.few; omega, fun q hq => ?_, fun H6 t s6 nt et => ⟨_, s6 _ _ e2, ?_, ?_, ?_⟩⟩⟩
      · obtain ⟨x, y, e, _⟩ := hS.pair q hq
        exact ⟨x, y, e⟩
      · rw [List.length_map]; exact few1 (by omega)
      · exact fun c o e => by rw [upd_ne (ne_of_none e nD)]; exact s6 c o (s5 c o e)
      · have hk6 : ∀ c o, H6 c = some o → c ≠ D → (upd H6 D (.lst ((ks.map fun p => V.ref p.1) ++ [V.ref t]))) c = some o := fun c o e z => by rw [upd_ne z]; exact e
        have tk : ∀ {c : Addr} {xs : List V}, SqT K H6 c xs → SqT K (upd H6 D (.lst ((ks.map fun p => V.ref p.1) ++ [V.ref t]))) c xs := by
          intro c xs h
          have eD := s6 _ _ e2
          rcases h with (h | ⟨o, h⟩) | h
          · exact .inl (.inl (hk6 _ _ h fun z => by rw [z, eD] at h; cases h))
          · exact .inl (.inr ⟨o, hk6 _ _ h fun z => by rw [z, eD] at h; cases h⟩)
          · exact .inr h
        refine ⟨ks ++ [(t, behindOf ps (i : Int))], ?_, ?_, fun q hq => ?_⟩
        · rw [List.map_append, e1, follow_next]; rfl
        · rw [upd_same, List.map_append]; rfl
        · rcases List.mem_append.mp hq with z | z
          · exact tk (sqT_same s6 (e3 q z))
          · rw [List.mem_singleton.mp z]
            refine tk (tupNew ?_)
            rw [et, show (0 + ((i : Nat) : Int)) = (i : Int) by omega]
    · obtain ⟨s5, ks, e1, e2, e3⟩ := z
      refine .inl ⟨D, _, rfl, lstNew e2, fun t nt => ?_⟩
      have sT : Same H' (upd H' t (.tup (ks.map fun p => V.ref p.1))) := same_upd nt
      have hpT := sT _ _ (s5 _ _ hp4)
      refine ⟨.ref p, rfl, p, C, dx, _, rfl, hpT, T.cl, T.nF, (by
        show (putF "steps" (V.ref b) (putF "mirrors" (V.ref a) [])).length < 1000
        show (if ("mirrors" : Str) = "steps" then [(("mirrors" : Str), V.ref b)] else (("mirrors" : Str), V.ref a) :: putF "steps" (V.ref b) []).length < 1000
        rw [if_neg n1]; show 2 < 1000; decide), ?_⟩
      refine q _ t (fun c o e z => ?_) upd_same ?_
      · rw [upd_ne z]
        exact sT _ _ (s5 _ _ (k4 _ _ (s02 _ _ e) z))
      · have tt : Tups K (upd H' t (.tup (ks.map fun p => V.ref p.1))) t (follow ns.length ps) := ⟨ks, e1, tupNew upd_same, fun q hq => sqT_same sT (e3 q hq)⟩
        exact tups_but hpT (fun c o e z => by rw [upd_ne z]; exact e) tt
end
end K43
set_option maxHeartbeats 4000000
namespace K43
open PySem PySem.Spec PyProof.Rows L2 RV
theorem mro_tuple : PySem.fastBuiltinMro "tuple" = some [.type "tuple", .type "object"] := by decide +kernel
theorem mro_none : PySem.fastBuiltinMro "NoneType" = some [.type "NoneType", .type "object"] := by decide +kernel
theorem mro_str : PySem.fastBuiltinMro "str" = some [.type "str", .type "object"] := by decide +kernel
theorem mro_int : PySem.fastBuiltinMro "int" = some [.type "int", .type "object"] := by decide +kernel
theorem kit_other {K : PySem.W.Frag} {C : Addr} {T : String} (h1 : (PySem.W.clsIn K C).isSome = true) (h2 : PySem.W.typeIn K (.ref C) = some (.type "type")) (h3 : PySem.fastBuiltinMro T = some [.type T, .type "object"]) : PySem.W.kitOne K (.type T) (.ref C) = some false := by
  unfold PySem.W.kitOne PySem.W.kitCls
  rw [if_neg (by simp)]
  show (if ((PySem.W.clsIn K C).isSome && PySem.W.typeIn K (.ref C) == some (.type "type")) = true then PySem.W.subIn K (.type T) (.ref C) else none) = some false
  rw [h1, h2, if_pos (by simp)]
  show (PySem.fastBuiltinMro T).map (·.contains (.ref C)) = some false
  rw [h3]
  simp
theorem kit_self {K : PySem.W.Frag} {C : Addr} : PySem.W.kitOne K (.ref C) (.ref C) = some true := by
  unfold PySem.W.kitOne
  simp
section
variable {P : Program} {w : World} {K : PySem.W.Frag} {mg : Str → Option Value} {base : Heap}
/-! ### __eq__ -/
theorem scEq : FnScope ["self", "other"] ["self", "other"] (defScope sEq) := ⟨rfl, rfl, rfl, by decide +kernel, rfl, by decide +kernel, by decide +kernel⟩
def spEq (K : PySem.W.Frag) (C : Addr) : Sp := fun vs H Q _ => ∃ (p : Addr) (v : V) (ns : List Int) (ps : List (List Int)), vs = [.ref p, v] ∧ RuleAt K C H p ns ps ∧
  ((∃ (q : Addr) (ns' : List Int) (ps' : List (List Int)), v = .ref q ∧ RuleAt K C H q ns' ps' ∧ Q (.bl (decide (ns = ns') && decide (ps = ps'))) H) ∨ (∃ t, TyX K H v t ∧ PySem.W.kitOne K t (.ref C) = some false ∧ Q (.bl false) H))
theorem ok_eq {f C : Addr} {fd : FuncData} (F : Fun K "__eq__" "Rule.__eq__" sEq f fd) (T : Txt K mg C) (B : Bare mg) : FnOk P w K mg base CX0 1 f fd ["self", "other"] (spEq K C) := by
  refine F.ok scEq (fun vs H Q E h => ?_) (fun cdv A outer s H vs Q E hr h => ?_)
  · obtain ⟨p, v, ns, ps, rfl, _⟩ := h
    rfl
  · obtain ⟨p, v, ns, ps, rfl, R1, h⟩ := h
    obtain ⟨dx, a, b, t, h1, h2, h3, h4⟩ := R1.ex
    refine ⟨_, pss_one (ps_ret (pe_and (pe_callB call_isi (by rfl) B.isinstance (by decide +kernel) (pa_cons (pv 1) (pa_cons (pe_glob (v := .ref C) rfl T.mgC rfl) pa_nil)))
      (pe_and (pe_cmpR (op_eqI1 hr.units) (pe_fld (pv 0) rfl) (pe_fld (pv 1) rfl) (nomark _)) (pe_one (pe_cmpR (op_eqTs hr.units) (pe_fld (pv 0) rfl) (pe_fld (pv 1) rfl) (nomark _)))))), ?_⟩
    rcases h with ⟨q, ns', ps', rfl, R2, k⟩ | ⟨ty, hty, hk, k⟩
    · obtain ⟨dx', a', b', t', g1, g2, g3, g4⟩ := R2.ex
      refine ⟨.ref q, rfl, .ref q, .ref C, _, _, true, rfl, .own C, .base (.ins g1 T.cl T.c1 T.c2 T.c3 T.c4), T.c5, true, rfl, iteT ?_⟩
      refine ⟨.ref p, rfl, p, C, dx, _, _, rfl, h1, T.cl, T.nM, flds_m _ _ _, .ref q, rfl, q, C, dx', _, _, rfl, g1, T.cl, T.nM, flds_m _ _ _, a, a', ns, ns', rfl, rfl, h2, g2, _, rfl, ?_⟩
      by_cases e : ns = ns'
      · rw [decide_eq_true e] at k ⊢
        refine iteT ⟨.ref p, rfl, p, C, dx, _, _, rfl, h1, T.cl, T.nS, flds_s _ _ _, .ref q, rfl, q, C, dx', _, _, rfl, g1, T.cl, T.nS, flds_s _ _ _, b, b', ps, ps', rfl, rfl, h3, g3, ?_⟩
        rw [Bool.true_and] at k
        exact k
      · rw [decide_eq_false e] at k ⊢
        rw [Bool.false_and] at k
        exact iteF k
    · exact ⟨v, rfl, v, .ref C, _, _, false, rfl, .own C, hty, hk, false, rfl, iteF k⟩
/-! ### marks, mirror, behind -/
theorem scMarksM : FnScope ["self"] ["self"] (defScope sMarksM) := ⟨rfl, rfl, rfl, by decide +kernel, rfl, by decide +kernel, by decide +kernel⟩
def spMarksM (K : PySem.W.Frag) (C : Addr) : Sp := fun vs H Q _ => ∃ (p : Addr) (ns : List Int) (ps : List (List Int)), vs = [.ref p] ∧ RuleAt K C H p ns ps ∧ Q (.int (ns.length : Int)) H
theorem ok_marksM {f C : Addr} {fd : FuncData} (F : Fun K "marks" "Rule.marks" sMarksM f fd) (T : Txt K mg C) (B : Bare mg) : FnOk P w K mg base CX0 1 f fd ["self"] (spMarksM K C) := by
  refine F.ok scMarksM (fun vs H Q E h => ?_) (fun cdv A outer s H vs Q E hr h => ?_)
  · obtain ⟨p, ns, ps, rfl, _⟩ := h
    rfl
  · obtain ⟨p, ns, ps, rfl, R1, k⟩ := h
    obtain ⟨dx, a, b, t, h1, h2, h3, h4⟩ := R1.ex
    refine ⟨_, pss_one (ps_ret (pe_callB call_len_seq (by rfl) B.len PySem.boot_len (pa_cons (pe_fld (pv 0) rfl) pa_nil))), ?_⟩
    refine ⟨.ref p, rfl, p, C, dx, _, _, rfl, h1, T.cl, T.nM, flds_m _ _ _, a, _, rfl, .inr h2, ?_⟩
    rw [List.length_map]; exact k
theorem scMirrorM : FnScope ["self", "mark"] ["self", "mark"] (defScope sMirrorM) := ⟨rfl, rfl, rfl, by decide +kernel, rfl, by decide +kernel, by decide +kernel⟩
def spMirrorM (K : PySem.W.Frag) (C : Addr) : Sp := fun vs H Q _ => ∃ (p : Addr) (ns : List Int) (ps : List (List Int)) (i : Nat) (x : Int), vs = [.ref p, .int (i : Int)] ∧ RuleAt K C H p ns ps ∧ ns[i]? = some x ∧ Q (.int x) H
theorem ok_mirrorM {f C : Addr} {fd : FuncData} (F : Fun K "mirror" "Rule.mirror" sMirrorM f fd) (T : Txt K mg C) : FnOk P w K mg base CX0 1 f fd ["self", "mark"] (spMirrorM K C) := by
  refine F.ok scMirrorM (fun vs H Q E h => ?_) (fun cdv A outer s H vs Q E hr h => ?_)
  · obtain ⟨p, ns, ps, i, x, rfl, _⟩ := h
    rfl
  · obtain ⟨p, ns, ps, i, x, rfl, R1, e, k⟩ := h
    obtain ⟨dx, a, b, t, h1, h2, h3, h4⟩ := R1.ex
    refine ⟨_, pss_one (ps_ret (pe_ix ix_tup (pe_fld (pv 0) rfl) (pv 1) (fun _ _ => rfl))), ?_⟩
    exact ⟨.ref p, rfl, p, C, dx, _, _, rfl, h1, T.cl, T.nM, flds_m _ _ _, .int (i : Int), rfl, a, _, _, _, rfl, rfl, h2, atI_nat (by rw [List.getElem?_map, e]; rfl), k⟩
theorem n4 : ¬ (("followers" : Str) = "steps") := by decide +kernel
theorem flds_f (a b t : Addr) : (flds a b t).lookup ("followers" : Str) = some (.ref t) := by
  unfold flds
  rw [lookup_putF, if_pos rfl]
theorem scBehindM : FnScope ["self", "mark"] ["self", "mark"] (defScope sBehindM) := ⟨rfl, rfl, rfl, by decide +kernel, rfl, by decide +kernel, by decide +kernel⟩
def spBehindM (K : PySem.W.Frag) (C : Addr) : Sp := fun vs H Q _ => ∃ (p : Addr) (ns : List Int) (ps : List (List Int)) (i : Nat), vs = [.ref p, .int (i : Int)] ∧ RuleAt K C H p ns ps ∧ i < ns.length ∧ ∀ c, SqT K H c ((behindOf ps (i : Int)).map V.int) → Q (.ref c) H
theorem ok_behindM {f C : Addr} {fd : FuncData} (F : Fun K "behind" "Rule.behind" sBehindM f fd) (T : Txt K mg C) : FnOk P w K mg base CX0 1 f fd ["self", "mark"] (spBehindM K C) := by
  refine F.ok scBehindM (fun vs H Q E h => ?_) (fun cdv A outer s H vs Q E hr h => ?_)
  · obtain ⟨p, ns, ps, i, rfl, _⟩ := h
    rfl
  · obtain ⟨p, ns, ps, i, rfl, R1, hi, k⟩ := h
    obtain ⟨dx, a, b, t, h1, h2, h3, h4⟩ := R1.ex
    obtain ⟨ks, e1, e2, e3⟩ := h4
    refine ⟨_, pss_one (ps_ret (pe_ix ix_tup (pe_fld (pv 0) rfl) (pv 1) (fun _ _ => rfl))), ?_⟩
    have hkl : ks.length = ns.length := by
      have z := congrArg List.length e1
      rw [List.length_map] at z
      rw [z]; unfold follow; rw [List.length_map, List.length_range]
    have hk : i < ks.length := by omega
    have e4 : (ks.map (·.2))[i]? = some ks[i].2 := by rw [List.getElem?_map, List.getElem?_eq_getElem hk]; rfl
    have e5 : ks[i].2 = behindOf ps (i : Int) := by
      rw [e1] at e4
      unfold follow at e4
      rw [List.getElem?_map, List.getElem?_range hi] at e4
      exact (Option.some.inj e4).symm
    refine ⟨.ref p, rfl, p, C, dx, _, _, rfl, h1, T.cl, T.nF, flds_f _ _ _, .int (i : Int), rfl, t, _, _, .ref ks[i].1, rfl, rfl, e2, atI_nat (by rw [List.getElem?_map, List.getElem?_eq_getElem hk]; rfl), k _ ?_⟩
    rw [← e5]; exact e3 _ (List.getElem_mem hk)
/-- what a call Rule(a, b) comes to -/
theorem make_rule {C a b x dx : Addr} {H : Hp} {Qh : Hp → Prop} {E : XK} {ns : List Int} {ps : List (List Int)} (hA : SqT K H a (ns.map V.int)) (hB : Tups K H b ps) (hM : Mir ns) (hS : Stp ns ps) (nx : H x = none) (nd : H dx = none) (ne : dx ≠ x)
    (k : ∀ H', Same H H' → RuleAt K C H' x ns ps → Qh H') :
    spInit K C (.ref x :: ([.ref a, .ref b] ++ [])) (upd (upd H dx (.own x)) x (.ins C dx [])) (fun v H2 => v = .non ∧ Qh H2) E := by
  have s0 : Same H (upd (upd H dx (.own x)) x (.ins C dx [])) := fun c o e => by
    rw [upd_ne (ne_of_none e nx), upd_ne (ne_of_none e nd)]; exact e
  refine ⟨x, dx, a, b, ns, ps, rfl, upd_same, sqT_same s0 hA, hB.same s0, hM, hS, fun H' t k1 k2 k3 => ⟨rfl, ?_⟩⟩
  have s1 : Same H H' := fun c o e => k1 c o (s0 c o e) (ne_of_none e nx)
  exact k H' s1 ⟨dx, a, b, t, k2, sqT_same s1 hA, hB.same s1, k3⟩
end
end K43
set_option maxHeartbeats 4000000
namespace RV
open PySem PySem.Spec PyProof.Rows L2
section
variable {X : Cx} {K : PySem.W.Frag}
/-- t + u of any two tuples, wherever the sum stands -/
def rCatW (K : PySem.W.Frag) : R2 := fun x y H Q => ∃ a b xs ys, x = .ref a ∧ y = .ref b ∧ SqT K H a xs ∧ SqT K H b ys ∧ xs.length + ys.length ≤ sizeLine ∧ ∀ (p : Addr) (H' : Hp), Same H H' → SqT K H' p (xs ++ ys) → Q (.ref p) H'
theorem op_catW : OpR X (binaryOp .Add) (rCatW X.K) := by
  intro pins s σ H x y v u Q I rx ry h
  obtain ⟨a, b, xs, ys, e1, e2, h1, h2, hl, q⟩ := h
  refine op_catA pins s σ H x y v u Q I rx ry ⟨a, b, xs, ys, e1, e2, h1, h2, hl, fun z => ?_, fun _ z => ?_, fun _ _ p np => ?_⟩
  · exact q b H (fun _ _ e => e) (by rw [z]; exact h2)
  · exact q a H (fun _ _ e => e) (by rw [z, List.append_nil]; exact h1)
  · exact q p _ (same_upd np) (tupNew upd_same)
theorem op_catWK (h : X.K = K) : OpR X (binaryOp .Add) (rCatW K) := h ▸ op_catW
/-- t[lo:hi], wherever the slice stands -/
def rSlW (K : PySem.W.Frag) : V → Option Int → Option Int → Hp → VK → Prop := fun x lo hi H Q => ∃ a xs, x = .ref a ∧ SqT K H a xs ∧ ∀ (p : Addr) (H' : Hp), Same H H' → SqT K H' p (cutV xs lo hi) → Q (.ref p) H'
theorem sl_tupW : SlR X (rSlW X.K) := by
  intro pins s σ H x v vl vu lo hi sl Q I rx hs pl pu h
  obtain ⟨a, xs, e, h1, q⟩ := h
  refine sl_tupA pins s σ H x v vl vu lo hi sl Q I rx hs pl pu ⟨a, xs, e, h1, fun z => ?_, fun _ p np => ?_⟩
  · refine q a H (fun _ _ e => e) ?_
    unfold cutV
    rw [z.1, z.2, List.drop_zero, Nat.sub_zero, List.take_of_length_le (Nat.le_refl _)]
    exact h1
  · exact q p _ (same_upd np) (tupNew upd_same)
theorem sl_tupWK (h : X.K = K) : SlR X (rSlW K) := h ▸ sl_tupW
theorem cut_from (xs : List V) (k : Nat) : cutV xs (some (k : Int)) none = xs.drop k := by
  unfold cutV
  rw [HT.sIx_nat, HT.sIx_none]
  rcases Nat.le_total k xs.length with h | h
  · rw [Nat.min_eq_left h, List.take_of_length_le (by rw [List.length_drop]; exact Nat.le_refl _)]
  · rw [Nat.min_eq_right h, Nat.sub_self, List.take_zero, List.drop_eq_nil_of_le h]
theorem cut_to (xs : List V) (k : Nat) : cutV xs none (some (k : Int)) = xs.take k := by
  unfold cutV
  rw [HT.sIx_nat, HT.sIx_none, List.drop_zero, Nat.sub_zero]
  rcases Nat.le_total k xs.length with h | h
  · rw [Nat.min_eq_left h]
  · rw [Nat.min_eq_right h, List.take_of_length_le (Nat.le_refl _), List.take_of_length_le h]
theorem tuple_mul1 (l : Addr) (items : Array Value) (n : Nat) (dd : Option Addr) (sl : Array (Option Value)) (x : Int) (u : Tok) (c0 : (decide (x < -(2 ^ 63)) || decide (x ≥ 2 ^ 63)) = false) (c1 : (items.isEmpty || x == 1) = true) :
    Meets (Builtin.«tuple.__mul__» ⟨[.ref l, .int x u], []⟩) (fun _ R s => s.heap.get? l = some { cls := .type "tuple", dict := dd, data := .seq items n, slots := sl } ∧ R (.ok (.ret (Value.ref l))) s) :=
  .of_wp fun prog w A R s h => by
    obtain ⟨hp, g, d, tk, os⟩ := s
    obtain ⟨hl, h⟩ := h
    have f1 := AutoSeq1.idx_int
    wp_walk using wpAny_loadPart' hl
    repeat (first
      | (refine wpAny_ite_false (decide_eq_false (by rw [c0]; exact Bool.false_ne_true)) ?_; wp_walk using wpAny_loadPart' hl)
      | (refine wpAny_ite_true (decide_eq_true (by rw [c1])) ?_; wp_walk using wpAny_loadPart' hl))
    exact ⟨_, rfl, h⟩
theorem tuple_mul0 (l : Addr) (items : Array Value) (n : Nat) (dd : Option Addr) (sl : Array (Option Value)) (x : Int) (u : Tok) (c0 : (decide (x < -(2 ^ 63)) || decide (x ≥ 2 ^ 63)) = false) (c1 : (items.isEmpty || x == 1) = false) (c2 : (decide (x ≤ 0) || items.isEmpty) = true) :
    Meets (Builtin.«tuple.__mul__» ⟨[.ref l, .int x u], []⟩) (fun _ R s => s.heap.get? l = some { cls := .type "tuple", dict := dd, data := .seq items n, slots := sl } ∧ R (.ok (.ret (Value.ref s.heap.objs.size))) { s with heap := s.heap.push { cls := Value.type "tuple", data := Data.seq #[] }, toks := s.toks }) :=
  .of_wp fun prog w A R s h => by
    obtain ⟨hp, g, d, tk, os⟩ := s
    obtain ⟨hl, h⟩ := h
    have f1 := AutoSeq1.idx_int
    wp_walk using wpAny_loadPart' hl
    repeat (first
      | (refine wpAny_ite_false (decide_eq_false (by rw [c0]; exact Bool.false_ne_true)) ?_; wp_walk using wpAny_loadPart' hl)
      | (refine wpAny_ite_false (decide_eq_false (by rw [c1]; exact Bool.false_ne_true)) ?_; wp_walk using wpAny_loadPart' hl)
      | (refine wpAny_ite_true (decide_eq_true (by rw [c2])) ?_; wp_walk using wpAny_loadPart' hl))
    exact ⟨_, rfl, h⟩
/-- t * k, k from 0 on -/
def rRepW (K : PySem.W.Frag) : R2 := fun x y H Q => ∃ l k xs, x = .ref l ∧ y = .int k ∧ SqT K H l xs ∧ 0 ≤ k ∧ k ≤ 1000 ∧ xs.length ≤ 1000 ∧ ∀ (p : Addr) (H' : Hp), Same H H' → SqT K H' p (List.replicate k.toNat xs).flatten → Q (.ref p) H'
theorem flat_nil : ∀ m : Nat, (List.replicate m ([] : List V)).flatten = []
  | 0 => rfl
  | m + 1 => by rw [List.replicate_succ, List.flatten_cons, flat_nil m]; rfl
theorem op_repW : OpR X (binaryOp .Mult) (rRepW X.K) := by
  intro pins s σ H x y v u Q I rx ry h
  obtain ⟨l, k, xs, rfl, rfl, hT, h0, h1, hz, q⟩ := h
  by_cases hbig : xs ≠ [] ∧ 2 ≤ k
  · exact op_repT pins s σ H _ _ v u Q I rx ry ⟨l, k, xs, rfl, rfl, hT, hbig.1, hbig.2, h1, hz, fun p np => q p _ (same_upd np) (tupNew upd_same)⟩
  cases rx
  obtain ⟨t, rfl⟩ := ry
  obtain ⟨its, r, ⟨⟨cls, dd, data, sl⟩, ho, hc, n, hd⟩, hs⟩ := I.tuple hT
  simp only at hc hd
  subst hc hd
  have hle : its.length = xs.length := r.length.symm
  have c0 : (decide (k < -(2 ^ 63)) || decide (k ≥ 2 ^ 63)) = false := by
    rw [decide_eq_false (by omega), decide_eq_false (by omega)] <;> rfl
  by_cases e1 : xs = [] ∨ k = 1
  · have c1 : (its.toArray.isEmpty || k == 1) = true := by
      rcases e1 with e | e
      · have : its = [] := List.eq_nil_of_length_eq_zero (by rw [hle, e]; rfl)
        rw [this]; rfl
      · rw [e]; simp
    refine wpAny_binaryOp_repeat_ref (T := "tuple") (U := "int") (by decide) ⟨_, ho, rfl⟩ (fun s' => typeIs_int s' k t) noFill_tuple_mul F.fills_int_mul F.slot_int_rmul repeat_tuple F.slot_int_index.lookup
      (call_meets F.slot_int_rmul (typeIs_int s k t) F.entry_int_rmul (F.args_int_rmul_2 _ _) (int_rmul_tuple k t l its.toArray n dd sl)
        ⟨ho, rfl, ⟨_, ho, rfl⟩, call_meets F.slot_tuple_mul ⟨_, ho, rfl⟩ F.entry_tuple_mul (F.args_tuple_mul_2 _ _) (tuple_mul1 l its.toArray n dd sl k t c0 c1) ⟨ho, ?_⟩⟩)
    refine ⟨.ref l, H, I, rfl, q l H (fun _ _ e => e) ?_⟩
    rcases e1 with e | e
    · subst e; rw [flat_nil]; exact hT
    · subst e
      show SqT X.K H l ([xs].flatten)
      rw [List.flatten_cons, List.flatten_nil, List.append_nil]; exact hT
  · have e2 : xs ≠ [] := fun e => e1 (.inl e)
    have e3 : k = 0 := by
      rcases Int.lt_or_le k 2 with z | z
      · have : k ≠ 1 := fun e => e1 (.inr e)
        omega
      · exact absurd ⟨e2, z⟩ hbig
    have hi : its.toArray.isEmpty = false := by
      cases its with
      | nil => exact absurd (List.eq_nil_of_length_eq_zero hle.symm) e2
      | cons a b => rfl
    have c1 : (its.toArray.isEmpty || k == 1) = false := by
      rw [hi, e3]; rfl
    have c2 : (decide (k ≤ 0) || its.toArray.isEmpty) = true := by
      rw [e3]; rfl
    refine wpAny_binaryOp_repeat_ref (T := "tuple") (U := "int") (by decide) ⟨_, ho, rfl⟩ (fun s' => typeIs_int s' k t) noFill_tuple_mul F.fills_int_mul F.slot_int_rmul repeat_tuple F.slot_int_index.lookup
      (call_meets F.slot_int_rmul (typeIs_int s k t) F.entry_int_rmul (F.args_int_rmul_2 _ _) (int_rmul_tuple k t l its.toArray n dd sl)
        ⟨ho, rfl, ⟨_, ho, rfl⟩, call_meets F.slot_tuple_mul ⟨_, ho, rfl⟩ F.entry_tuple_mul (F.args_tuple_mul_2 _ _) (tuple_mul0 l its.toArray n dd sl k t c0 c1 c2) ⟨ho, ?_⟩⟩)
    refine ⟨.ref s.heap.objs.size, _, I.laid (t' := s.toks) (o := .tup []) (fun b ob q => Heap.get?_push_of_some _ q) (Nat.le_refl _) ?_, rfl, q _ _ (same_upd (I.hok.fresh (Nat.le_refl _))) (by rw [e3]; exact tupNew upd_same)⟩
    exact ⟨Nat.zero_le _, [], .nil, IsTup.new _ _⟩
theorem op_eqI1K (h : X.K = K) (hu : X.A.units + 64 < cLine) : OpR X (compareOp .Eq) (rEqI1 K) := h ▸ op_eqI1 hu
theorem op_repWK (h : X.K = K) : OpR X (binaryOp .Mult) (rRepW K) := h ▸ op_repW
end
/-- [h(x) for x in t], t a tuple of ints -/
theorem lc_mapT {K : PySem.W.Frag} {te : TE} {h : Int → Int} {σ : L2.St} {H1 : Hp} {a D : Addr} {v : Nat} {ns : List Int} {Qd : Hp → Prop} (hT : SqT K H1 a (ns.map V.int)) (hl : ns.length ≤ 1000) (nD : H1 D = none)
    (hte : ∀ x ∈ ns, ∀ (H' : Hp) (Q : VK), Same H1 H' → (∀ H2, Same H' H2 → Q (.int (h x)) H2) → te ((wipe σ [v]).set v (some (.int x))) H' Q)
    (hd : ∀ H', Same H1 H' → H' D = some (.lst ((ns.map h).map V.int)) → Qd H') :
    ∃ W : Nat → Nat → Hp → Prop, (∃ m, W 0 m (upd H1 D (.lst []))) ∧ ∀ i m H, W i m H →
      ((Itt K a).stop i H ∧ Qd H) ∨ ((Itt K a).go i H ∧ ∃ Nx : Hp → Prop, (∀ H', Nx H' → ∃ m', m' < m ∧ W (i + 1) m' H') ∧ ∀ x H', (Itt K a).yld i H x H' → gName v x (wipe σ [v]) H' fun σ2 H2 => wipe σ2 [v] = wipe σ [v] ∧ tYes σ2 H2 fun b H3 =>
        if b = true then te σ2 H3 fun y H4 => ∃ acc, H4 D = some (.lst acc) ∧ acc.length < sizeLine ∧ Nx (upd H4 D (.lst (acc ++ [y]))) else Nx H3) := by
  refine lc_tup (K := K) (a := a) (xs := ns.map V.int) (fun i H' => Same H1 H' ∧ H' D = some (.lst (((ns.take i).map h).map V.int))) ⟨same_upd nD, upd_same⟩ (fun i H' _ p => sqT_same p.1 hT) (fun i x H' hx p => ?_) fun H' p => ?_
  · obtain ⟨k, g, rfl⟩ := map_at hx
    refine ⟨by simp [wipe, List.set_set], tt_yes (hte k (List.mem_of_getElem? g) H' _ p.1 fun H2 s2 => ⟨_, s2 _ _ p.2, ?_, fun b o z => ?_, ?_⟩)⟩
    · rw [List.length_map, List.length_map, List.length_take]; exact few1 (by omega)
    · rw [upd_ne (ne_of_none z nD)]; exact s2 _ _ (p.1 b o z)
    · rw [upd_same, List.take_add_one, g, List.map_append, List.map_append]; rfl
  · rw [List.length_map, List.take_of_length_le (Nat.le_refl _)] at p
    exact hd H' p.1 p.2
end RV
set_option maxHeartbeats 4000000
/-! how many walks there are -/
namespace RV
/-- the sum of f over l -/
def sm {α : Type} (l : List α) (f : α → Int) : Int := (l.map f).sum
section
variable {α β : Type}
theorem sm_nil (f : α → Int) : sm [] f = 0 := rfl
theorem sm_cons (a : α) (l : List α) (f : α → Int) : sm (a :: l) f = f a + sm l f := by unfold sm; rw [List.map_cons, List.sum_cons]
theorem sm_app (l r : List α) (f : α → Int) : sm (l ++ r) f = sm l f + sm r f := by unfold sm; rw [List.map_append, List.sum_append]
theorem sm_congr {l : List α} {f g : α → Int} (h : ∀ a ∈ l, f a = g a) : sm l f = sm l g := by unfold sm; rw [List.map_congr_left h]
theorem sm_zero {l : List α} {f : α → Int} (h : ∀ a ∈ l, f a = 0) : sm l f = 0 := by
  induction l with
  | nil => rfl
  | cons a l ih => rw [sm_cons, h a (List.mem_cons_self ..), ih fun b hb => h b (List.mem_cons_of_mem _ hb)]; rfl
theorem sm_add (l : List α) (f g : α → Int) : sm l (fun a => f a + g a) = sm l f + sm l g := by
  induction l with
  | nil => rfl
  | cons a l ih => rw [sm_cons, sm_cons, sm_cons, ih]; omega
theorem sm_mul (l : List α) (f : α → Int) (c : Int) : sm l (fun a => c * f a) = c * sm l f := by
  induction l with
  | nil => rw [sm_nil, sm_nil, Int.mul_zero]
  | cons a l ih => rw [sm_cons, sm_cons, ih, Int.mul_add]
theorem sm_comm (l : List α) (r : List β) (F : α → β → Int) : sm l (fun a => sm r (F a)) = sm r (fun b => sm l fun a => F a b) := by
  induction l with
  | nil => exact (sm_zero fun b _ => rfl).symm
  | cons a l ih =>
    rw [sm_cons, ih, ← sm_add]
    exact sm_congr fun b _ => (sm_cons a l fun a => F a b).symm
theorem sm_map {γ : Type} (l : List γ) (g : γ → α) (f : α → Int) : sm (l.map g) f = sm l (fun c => f (g c)) := by unfold sm; rw [List.map_map]; rfl
theorem sm_filter (l : List α) (c : α → Bool) (f : α → Int) : sm (l.filter c) f = sm l fun a => if c a = true then f a else 0 := by
  induction l with
  | nil => rfl
  | cons a l ih =>
    rw [List.filter_cons, sm_cons]
    by_cases e : c a = true
    · rw [if_pos e, if_pos e, sm_cons, ih]
    · rw [if_neg e, if_neg e, ih, Int.zero_add]
theorem sm_flat (l : List (List α)) (f : α → Int) : sm l.flatten f = sm l fun r => sm r f := by
  induction l with
  | nil => rfl
  | cons a l ih => rw [List.flatten_cons, sm_app, sm_cons, ih]
theorem sm_len (l : List α) : sm l (fun _ => 1) = (l.length : Int) := by
  induction l with
  | nil => rfl
  | cons a l ih => rw [sm_cons, ih, List.length_cons]; omega
theorem sm_at [DecidableEq α] {l : List α} (nd : l.Nodup) {a : α} (ha : a ∈ l) (f : α → Int) : sm l (fun b => if b = a then f b else 0) = f a := by
  induction l with
  | nil => cases ha
  | cons b l ih =>
    rw [sm_cons]
    have nd' := List.nodup_cons.mp nd
    by_cases e : b = a
    · rw [if_pos e, sm_zero fun c hc => if_neg fun z => nd'.1 (by rw [e, ← z]; exact hc), e, Int.add_zero]
    · rw [if_neg e, ih nd'.2 ((List.mem_cons.mp ha).resolve_left fun z => e z.symm), Int.zero_add]
theorem sm_out [DecidableEq α] {l : List α} {a : α} (ha : a ∉ l) (f : α → Int) : sm l (fun b => if b = a then f b else 0) = 0 := sm_zero fun b hb => if_neg fun z => ha (by rw [← z]; exact hb)
/-- the sum over xs is that over l where f is nought elsewhere -/
theorem sm_part [DecidableEq α] {l : List α} (ndl : l.Nodup) (f : α → Int) : ∀ {xs : List α}, xs.Nodup → (∀ x ∈ xs, x ∉ l → f x = 0) → sm xs f = sm l fun y => if y ∈ xs then f y else 0
  | [], _, _ => by rw [sm_nil, sm_zero fun y _ => if_neg (by simp)]
  | x :: xs, nd, h => by
    have nd' := List.nodup_cons.mp nd
    rw [sm_cons, sm_part ndl f nd'.2 fun y hy => h y (List.mem_cons_of_mem _ hy)]
    have e1 : sm l (fun y => if y ∈ x :: xs then f y else 0) = sm l (fun y => (if y = x then f y else 0) + (if y ∈ xs then f y else 0)) := sm_congr fun y _ => by
      by_cases e : y = x
      · subst e
        rw [if_pos (List.mem_cons_self ..), if_pos rfl, if_neg nd'.1, Int.add_zero]
      · rw [if_neg e, Int.zero_add]
        by_cases e2 : y ∈ xs
        · rw [if_pos e2, if_pos (List.mem_cons_of_mem _ e2)]
        · rw [if_neg e2, if_neg fun z => (List.mem_cons.mp z).elim e e2]
    rw [e1, sm_add]
    by_cases hx : x ∈ l
    · rw [sm_at ndl hx]
    · rw [sm_out hx, h x (List.mem_cons_self ..) hx]
end
/-- one step on: what comes to j -/
def stp (ps : List (List Int)) (f : Int → Int) (j : Int) : Int := sm (ps.filter fun p => decide (p.getD 1 0 = j)) fun p => f (p.getD 0 0)
theorem stp_next {ps : List (List Int)} {f : Int → Int} {i : Nat} {x y : Int} (h : ps[i]? = some [x, y]) (j : Int) : stp (ps.take (i + 1)) f j = stp (ps.take i) f j + (if y = j then f x else 0) := by
  unfold stp
  rw [List.take_add_one, h]
  show sm ((ps.take i ++ [[x, y]]).filter _) _ = _
  rw [List.filter_append, sm_app]
  congr 1
  by_cases e : y = j
  · rw [if_pos e, List.filter_cons, if_pos (by exact decide_eq_true e)]
    exact Int.add_zero _
  · rw [if_neg e, List.filter_cons, if_neg (by show ¬ decide (y = j) = true; rw [decide_eq_false e]; decide)]
    rfl
/-- all walks of n steps from m to j -/
def cw (ps : List (List Int)) : Nat → Int → Int → Int
  | 0, m, j => if j = m then 1 else 0
  | n + 1, m, j => stp ps (cw ps n m) j
/-- those that keep to p -/
def lw (ps : List (List Int)) (p : List Int) : Nat → Int → Int → Int
  | 0, m, j => if j = m then 1 else 0
  | n + 1, m, j => if j ∈ p then stp ps (lw ps p n m) j else 0
theorem stp_mem {ps : List (List Int)} {b : Int} (hP : ∀ q ∈ ps, Pr b q) {j : Int} {q : List Int} (h : q ∈ ps.filter fun p => decide (p.getD 1 0 = j)) : [q.getD 0 0, j] ∈ ps := by
  obtain ⟨h1, h2⟩ := List.mem_filter.mp h
  obtain ⟨x, y, rfl, _⟩ := hP q h1
  have e : y = j := of_decide_eq_true h2
  rw [← e]; exact h1
theorem cw_rch {ps : List (List Int)} {b : Int} (hP : ∀ q ∈ ps, Pr b q) {m : Int} : ∀ {n : Nat} {j : Int}, cw ps n m j ≠ 0 → j = m ∨ Rch ps m j
  | 0, j, h => by
    by_cases e : j = m
    · exact .inl e
    · exact absurd (if_neg e) h
  | n + 1, j, h => by
    refine Classical.byContradiction fun no => h ?_
    show stp ps (cw ps n m) j = 0
    refine sm_zero fun q hq => Classical.byContradiction fun z => no (.inr ?_)
    have e := stp_mem hP hq
    rcases cw_rch hP z with e2 | e2
    · rw [← e2]; exact .one e
    · exact .more e2 e
/-- a walk from a mark of a lot back into it never leaves it -/
theorem lw_cw {ps : List (List Int)} {N : Nat} (hP : ∀ q ∈ ps, Pr (N : Int) q) {m : Int} (hm : m ∈ lotOf ps N m) : ∀ (n : Nat), (∀ j, j ∈ lotOf ps N m → lw ps (lotOf ps N m) n m j = cw ps n m j) ∧ (∀ j, j ∉ lotOf ps N m → lw ps (lotOf ps N m) n m j = 0)
  | 0 => ⟨fun j _ => rfl, fun j h => if_neg fun e => h (by rw [e]; exact hm)⟩
  | n + 1 => by
    obtain ⟨h1, h2⟩ := lw_cw hP hm n
    refine ⟨fun j hj => ?_, fun j hj => if_neg hj⟩
    show (if j ∈ lotOf ps N m then stp ps (lw ps (lotOf ps N m) n m) j else 0) = stp ps (cw ps n m) j
    rw [if_pos hj]
    refine sm_congr fun q hq => ?_
    have e := stp_mem hP hq
    by_cases c : q.getD 0 0 ∈ lotOf ps N m
    · exact h1 _ c
    · rw [h2 _ c]
      refine Classical.byContradiction fun z => c ?_
      have r := cw_rch hP (fun y => z y.symm)
      obtain ⟨_, j1, j2⟩ := mem_lot.mp hj
      have back : Rch ps (q.getD 0 0) m := (Rch.one e).trans j2
      rcases r with r | r
      · rw [r]; exact hm
      · exact mem_lot.mpr ⟨(Rch.bound hP (.one e)).1, r, back⟩
/-- one step on within p, by the marks of p -/
theorem stp_part {ps : List (List Int)} {b : Int} (hP : ∀ q ∈ ps, Pr b q) (nd : ps.Nodup) {p : List Int} (ndp : p.Nodup) {f : Int → Int} (hf : ∀ a, a ∉ p → f a = 0) (j : Int) : stp ps f j = sm p fun a => if [a, j] ∈ ps then f a else 0 := by
  unfold stp
  have e1 : sm (ps.filter fun p => decide (p.getD 1 0 = j)) (fun q => f (q.getD 0 0)) = sm ((ps.filter fun p => decide (p.getD 1 0 = j)).map fun q => q.getD 0 0) f := (sm_map _ _ _).symm
  rw [e1]
  have ndx : ((ps.filter fun p => decide (p.getD 1 0 = j)).map fun q => q.getD 0 0).Nodup := by
    refine List.pairwise_map.mpr (List.Pairwise.imp_of_mem (fun {x y} hx hy ne e => ne ?_) (nd.filter _))
    obtain ⟨x1, x2⟩ := List.mem_filter.mp hx
    obtain ⟨y1, y2⟩ := List.mem_filter.mp hy
    obtain ⟨a, b', rfl, _⟩ := hP x x1
    obtain ⟨c, d, rfl, _⟩ := hP y y1
    have e1 : b' = j := of_decide_eq_true x2
    have e2 : d = j := of_decide_eq_true y2
    have e3 : a = c := e
    rw [e1, e2, e3]
  rw [sm_part ndp f ndx fun x _ hx => hf x hx]
  refine sm_congr fun a _ => ?_
  have iff : a ∈ ((ps.filter fun p => decide (p.getD 1 0 = j)).map fun q => q.getD 0 0) ↔ [a, j] ∈ ps := by
    rw [List.mem_map]
    constructor
    · rintro ⟨q, hq, rfl⟩
      exact stp_mem hP hq
    · intro h
      exact ⟨[a, j], List.mem_filter.mpr ⟨h, decide_eq_true rfl⟩, rfl⟩
  by_cases c : [a, j] ∈ ps
  · rw [if_pos c, if_pos (iff.mpr c)]
  · rw [if_neg c, if_neg fun z => c (iff.mp z)]
/-! ### rows of marks, each behind the one ahead, of p -/
def lst0 (r : List Int) : Int := r.getLastD 0
/-- all rows one mark longer -/
def longer (ps : List (List Int)) (p : List Int) (rows : List (List Int)) : List (List Int) := (rows.map fun r => (p.filter fun b => decide ([lst0 r, b] ∈ ps)).map fun b => r ++ [b]).flatten
def rowsN (ps : List (List Int)) (p : List Int) : Nat → List (List Int)
  | 0 => p.map fun m => [m]
  | n + 1 => longer ps p (rowsN ps p n)
theorem rows_ne {ps : List (List Int)} {p : List Int} : ∀ {n : Nat} {r : List Int}, r ∈ rowsN ps p n → r ≠ []
  | 0, r, h => by
    obtain ⟨m, _, rfl⟩ := List.mem_map.mp h
    simp
  | n + 1, r, h => by
    obtain ⟨l, hl, hr⟩ := List.mem_flatten.mp h
    obtain ⟨r', _, rfl⟩ := List.mem_map.mp hl
    obtain ⟨b, _, rfl⟩ := List.mem_map.mp hr
    simp
theorem hd_app {r : List Int} (h : r ≠ []) (b : Int) : hd0 (r ++ [b]) = hd0 r := by
  cases r with
  | nil => exact absurd rfl h
  | cons x r => rfl
theorem lst_app (r : List Int) (b : Int) : lst0 (r ++ [b]) = b := by unfold lst0; simp
/-- how often each first and last mark comes -/
theorem rows_sum {ps : List (List Int)} {N : Nat} (hP : ∀ q ∈ ps, Pr (N : Int) q) (nd : ps.Nodup) {p : List Int} (hp : ∀ m ∈ p, lotOf ps N m = p) : ∀ (n : Nat) (φ : Int → Int → Int), sm (rowsN ps p n) (fun r => φ (hd0 r) (lst0 r)) = sm p fun m => sm p fun j => lw ps p n m j * φ m j
  | 0, φ => by
    show sm (p.map fun m => [m]) (fun r => φ (hd0 r) (lst0 r)) = _
    rw [sm_map]
    refine sm_congr fun m hm => ?_
    have ndp : p.Nodup := by rw [← hp m hm]; exact (lot_rise ps N m).imp fun h => by omega
    have e : sm p (fun j => lw ps p 0 m j * φ m j) = sm p (fun j => if j = m then φ m j else 0) := sm_congr fun j _ => by
      show (if j = m then (1 : Int) else 0) * φ m j = _
      by_cases c : j = m
      · rw [if_pos c, if_pos c, Int.one_mul]
      · rw [if_neg c, if_neg c, Int.zero_mul]
    rw [e, sm_at ndp hm]; rfl
  | n + 1, φ => by
    have e0 : sm (rowsN ps p (n + 1)) (fun r => φ (hd0 r) (lst0 r)) = sm (rowsN ps p n) (fun r => (fun m a => sm p fun b => if [a, b] ∈ ps then φ m b else 0) (hd0 r) (lst0 r)) := by
      show sm (longer ps p (rowsN ps p n)) _ = _
      unfold longer
      rw [sm_flat, sm_map]
      refine sm_congr fun r hr => ?_
      rw [sm_map, sm_filter]
      refine sm_congr fun b _ => ?_
      rw [hd_app (rows_ne hr), lst_app]
      by_cases c : [lst0 r, b] ∈ ps
      · rw [if_pos (decide_eq_true c), if_pos c]
      · rw [if_neg (by rw [decide_eq_false c]; decide), if_neg c]
    rw [e0]
    refine (rows_sum hP nd hp n (fun m a => sm p fun b => if [a, b] ∈ ps then φ m b else 0)).trans ?_
    refine sm_congr fun m hm => ?_
    have hl := hp m hm
    have hmm : m ∈ lotOf ps N m := by rw [hl]; exact hm
    have ndp : p.Nodup := by rw [← hl]; exact (lot_rise ps N m).imp fun h => by omega
    have out := (lw_cw hP hmm n).2
    rw [hl] at out
    have e1 : sm p (fun j => lw ps p n m j * sm p fun b => if [j, b] ∈ ps then φ m b else 0) = sm p fun j => sm p fun b => lw ps p n m j * (if [j, b] ∈ ps then φ m b else 0) := sm_congr fun j _ => (sm_mul p _ _).symm
    rw [e1, sm_comm]
    refine sm_congr fun b hb => ?_
    show _ = (if b ∈ p then stp ps (lw ps p n m) b else 0) * φ m b
    rw [if_pos hb, stp_part hP nd ndp out b, Int.mul_comm, ← sm_mul]
    refine sm_congr fun a _ => ?_
    by_cases c : [a, b] ∈ ps
    · rw [if_pos c, if_pos c, Int.mul_comm]
    · rw [if_neg c, if_neg c, Int.mul_zero, Int.mul_zero]
/-- all rings of n + 1 places -/
theorem rings_count {ps : List (List Int)} {N : Nat} (hP : ∀ q ∈ ps, Pr (N : Int) q) (nd : ps.Nodup) {p : List Int} (hp : ∀ m ∈ p, lotOf ps N m = p) (n : Nat) :
    (((rowsN ps p n).filter fun r => decide ([lst0 r, hd0 r] ∈ ps)).length : Int) = sm p fun m => cw ps (n + 1) m m := by
  rw [← sm_len, sm_filter]
  have e := rows_sum hP nd hp n (fun m j => if [j, m] ∈ ps then 1 else 0)
  have e0 : sm (rowsN ps p n) (fun r => if (decide ([lst0 r, hd0 r] ∈ ps)) = true then (1 : Int) else 0) = sm (rowsN ps p n) (fun r => (fun m j => if [j, m] ∈ ps then (1 : Int) else 0) (hd0 r) (lst0 r)) := sm_congr fun r _ => by
    by_cases c : [lst0 r, hd0 r] ∈ ps
    · rw [if_pos (decide_eq_true c)]; exact (if_pos c).symm
    · rw [if_neg (by rw [decide_eq_false c]; decide)]; exact (if_neg c).symm
  rw [e0, e]
  refine sm_congr fun m hm => ?_
  have hl := hp m hm
  have hmm : m ∈ lotOf ps N m := by rw [hl]; exact hm
  have ndp : p.Nodup := by rw [← hl]; exact (lot_rise ps N m).imp fun h => by omega
  have out := (lw_cw hP hmm n).2
  have inn := (lw_cw hP hmm (n + 1)).1 m hmm
  rw [hl] at out inn
  rw [← inn]
  show _ = (if m ∈ p then stp ps (lw ps p n m) m else 0)
  rw [if_pos hm, stp_part hP nd ndp out m]
  refine sm_congr fun a _ => ?_
  by_cases c : [a, m] ∈ ps
  · rw [if_pos c, if_pos c, Int.mul_one]
  · rw [if_neg c, if_neg c, Int.mul_zero]
theorem longer_len {ps : List (List Int)} {p : List Int} (rows : List (List Int)) : (longer ps p rows).length ≤ rows.length * p.length := by
  unfold longer
  induction rows with
  | nil => simp
  | cons r rows ih =>
    rw [List.map_cons, List.flatten_cons, List.length_append, List.length_map, List.length_cons, Nat.add_mul, Nat.one_mul]
    have := List.length_filter_le (fun b => decide ([lst0 r, b] ∈ ps)) p
    omega
theorem rows_len {ps : List (List Int)} {p : List Int} : ∀ n : Nat, (rowsN ps p n).length ≤ p.length ^ (n + 1)
  | 0 => by
    show (p.map fun m => [m]).length ≤ _
    rw [List.length_map, Nat.pow_one]; exact Nat.le_refl _
  | n + 1 => by
    rw [Nat.pow_succ]
    exact Nat.le_trans (longer_len _) (Nat.mul_le_mul (rows_len n) (Nat.le_refl _))
end RV
set_option maxHeartbeats 4000000
namespace K43
open PySem PySem.Spec PyProof.Rows L2 RV
section
variable {P : Program} {w : World} {K : PySem.W.Frag} {mg : Str → Option Value} {base : Heap}
/-! ### _law_made -/
theorem scMade : FnScope ["_law_rule_here"] ["_law_rule_here"] (defScope sMade) := ⟨rfl, rfl, rfl, by decide +kernel, rfl, by decide +kernel, by decide +kernel⟩
def spMade (K : PySem.W.Frag) (C : Addr) : Sp := fun vs H Q _ => ∃ (o : Addr) (ns : List Int) (ps : List (List Int)), vs = [.ref o] ∧ OwnH K H o ns ps ∧ ∀ (H' : Hp) (r : Addr), Same H H' → RuleAt K C H' r ns ps → Q (.ref r) H'
theorem ok_made {f fI C : Addr} {fd fdI : FuncData} (F : Fun K "_law_made" "_law_made" sMade f fd) (T : Txt K mg C) (M : Mk K C fI) (bI : Binds K fdI ["self", "mirrors", "steps"] []) (GI : FnOk P w K mg base CX0 6 fI fdI ["self", "mirrors", "steps"] (spInit K C)) (B : Bare mg) :
    FnOk P w K mg base CX0 8 f fd ["_law_rule_here"] (spMade K C) := by
  refine F.ok scMade (fun vs H Q E h => ?_) (fun cdv A outer s H vs Q E hr h => ?_)
  · obtain ⟨o, ns, ps, rfl, _⟩ := h
    rfl
  · obtain ⟨o, ns, ps, rfl, ⟨u, c, o1, o2, o3, hM, S⟩, q⟩ := h
    refine ⟨_, pss_one (ps_ret (pe_make M GI hr (by rfl) T.mgC bI .nil pass0 (pa_cons (pe_ix ix_tup (pv 0) pe_int (fun _ _ => rfl)) (pa_cons (pe_ix ix_tup (pv 0) pe_int (fun _ _ => rfl)) pa_nil)))), ?_⟩
    refine ⟨.ref o, rfl, o, _, 0, .ref u, rfl, rfl, tupNew o1, rfl, .ref o, rfl, o, _, 1, .ref c, rfl, rfl, tupNew o1, rfl, fun x dx nx nd ne => ?_⟩
    exact make_rule o2 o3.tups hM S nx nd ne fun H' s' R => q H' x s' R
end
end K43
namespace RV
open PySem PySem.Spec PyProof.Rows L2
section
variable {X : Cx} {K : PySem.W.Frag} {e : Expr} {f : Str} {pos : Pos} {ta : TE}
theorem pe_fldG (h : X.K = K) (he : PE X e ta) (hb : attributeBase e f X.env (eval e X.env) = eval e X.env) : PE X (.Attribute e f pos) (tFld K ta f) := h ▸ pe_fld he hb
end
end RV
set_option maxHeartbeats 4000000
/-! try: .. except X as n: suite, and what stands behind it: there the error's object is still known (it is pinned) -/
namespace RV
open PySem PySem.Spec PyProof.Rows L2
def wRest (K : PySem.W.Frag) (c : Value) (i : Nat) (ts u : Addr → Value → Option Addr → TS) (Wout : WX) (D : Ends) : WX := fun cls d σ H => ∃ b, PySem.W.exmOne K cls c = some b ∧ (b = false → Wout cls d σ H) ∧
  (b = true → ∀ a, H a = none → ts a cls d { nx := fun σ' H' => u a cls d D (σ'.set i none) H', rt := D.rt, bk := fun σ' H' => D.bk (σ'.set i none) H', ct := fun σ' H' => D.ct (σ'.set i none) H' } (σ.set i (some (.ref a))) H)
section
variable {X : Cx} {pins : List (Addr × Obj)} {σ : L2.St} {H : Hp} {s : Shared}
/-- behind the suite, the error still pinned -/
theorem pin_on {a : Addr} {q : Addr × Obj} {pn : List (Addr × Obj)} {E : Value → Shared → Prop} (I : Inv (X.suite a (q :: (X.pn ++ pins))) pn σ H s) (ok : X.Ok) : Inv (X.tr (q :: (X.pn ++ pins)) E) [] σ H s where
  ok := ok.toTry _ _
  os := I.os
  bare := I.bare
  base := I.base
  loc := I.loc
  cell := I.cell
  free := I.free
  freeC := I.freeC
  pin := fun p hp => I.pin p (by rw [List.append_nil] at hp; exact List.mem_append_left _ hp)
  hok := I.hok
  len := I.len
theorem pin_off {q : Addr × Obj} {E : Value → Shared → Prop} (I : Inv (X.tr (q :: (X.pn ++ pins)) E) [] σ H s) (ok : X.Ok) : Inv X pins σ H s where
  ok := ok
  os := I.os
  bare := I.bare
  base := I.base
  loc := I.loc
  cell := I.cell
  free := I.free
  freeC := I.freeC
  pin := fun p hp => I.pin p (List.mem_append_left _ (List.mem_cons_of_mem _ hp))
  hok := I.hok
  len := I.len
end
section
variable {X : Cx} {x n : Str} {c : Value} {i : Nat} {body suite rest : List Stmt} {b₀ : Stmt} {np pos pos' : Pos} {tb : WX → TS} {ts u : Addr → Value → Option Addr → TS} {v : TS} {Wout : WX}
theorem pss_try_rest (st : X.stack = X.env :: X.outer) (fr : X.env.frame = some X.env.locals) (nd : X.N.Nodup) (gi : X.N[i]? = some n) (kn : X.env.kindOf n = some .local) (nm : Names X x c) (tk : Takes X Wout)
    (hb : ∀ (W : WX) (pn : List (Addr × Obj)) (xe : Value → Shared → Prop), Takes (X.tr pn xe) W → PassesOwn (model X.prog X.w) X.A X.env xe → PSs (X.tr pn xe) body (tb W))
    (hsu : ∀ (a : Addr) (oe : Obj) (cls : Value) (d : Option Addr) (pn : List (Addr × Obj)), Zc cls d oe → (∃ vs, oe.data = .fields vs) → PSs (X.suite a ((a, oe) :: pn)) (b₀ :: suite) (ts a cls d))
    (hr : PSs X rest v)
    (hr' : ∀ (a : Addr) (oe : Obj) (cls : Value) (d : Option Addr) (pn : List (Addr × Obj)), Zc cls d oe → (∃ vs, oe.data = .fields vs) → PSs (X.tr ((a, oe) :: pn) X.xe) rest (u a cls d)) :
    PSs X (.Try body [.ExceptHandler (some (.Name x np)) (some n) (b₀ :: suite) pos'] [] [] pos :: rest) (fun D σ H => tb (wRest X.K c i ts u Wout D) { D with nx := v D } σ H) := by
  refine ⟨fun pins s σ H D I h => wpAny_execs_cons ?_⟩
  have ok := I.ok
  let R : Flow → Shared → Prop := fun f s' => match f with
    | .next => wpAny (model X.prog X.w) X.A (execs rest X.env) (SP X pins D) X.xe s'
    | f => SP X pins D f s'
  have goal : wpAny (model X.prog X.w) X.A (exec (.Try body [.ExceptHandler (some (.Name x np)) (some n) (b₀ :: suite) pos'] [] [] pos) X.env) R X.xe s := by
    refine wpAny_Try_except (wpAny_mono ((hb (wRest X.K c i ts u Wout D) (X.pn ++ pins) (fun e s₁ => wpAny (model X.prog X.w) X.A (noteFrame e X.env) (fun _ s₂ => wpAny (model X.prog X.w) X.A (setFlight e none) (fun _ s₃ =>
      wpAny (model X.prog X.w) X.A (handleBy e X.env [.ExceptHandler (some (.Name x np)) (some n) (b₀ :: suite) pos']) R X.xe s₃) X.xe s₂) X.xe s₁) (fun uu t xx => ?_) PassesOwn.looking).run [] s σ H { D with nx := v D } (I.toTry _) h) (fun f t hf => ?_) fun _ _ z => z)
    · -- the clause
      obtain ⟨a, B, sI, pins', σ', H', cls, d, rfl, J0, nb, up, sky, na, os, ag, b, hb1, hno, hyes⟩ := xx
      have J : Inv X pins σ' H' sI := J0.ofTry ok
      have sk : Sky B (X.env :: X.outer) a (Zc cls d) X.env.locals t.heap := st ▸ sky
      show wpAny (model X.prog X.w) X.A (noteFrame (.ref a) X.env) _ _ _
      refine Sky.land Zc.steady (by rw [ok.frames, st]) fr sk fun g fg ug => ?_
      have Jg : Inv X pins σ' H' { t with heap := g } := J.landed nb fg.1 (up.trans ug) os ag
      obtain ⟨og, vg, eg, zg, dg⟩ := fg.there
      have off : a ∉ frs (X.env :: X.outer) := fun hm => by
        obtain ⟨_, o', e', nf⟩ := fg.2.2.1.mem hm
        cases eg.symm.trans e'
        exact nf _ dg
      have offL : a ≠ X.env.locals := fun z => off (List.mem_filterMap.mpr ⟨X.env, List.mem_cons_self, by rw [fr, z]⟩)
      have offF : a ∉ X.fs := fun hm => by
        obtain ⟨e, he, q⟩ := List.mem_filterMap.mp hm
        exact off (List.mem_filterMap.mpr ⟨e, List.mem_cons_of_mem _ he, q⟩)
      have Sg := Jg.suite eg dg na offL offF
      refine wpAny_handleBy_cons (codeAny_handlers_test ?_) (fun q => nomatch q)
      have is : PySem.W.Looks (model X.prog X.w) g (typeOf (.ref a)) cls := fun _ _ _ _ k q => wpAny_typeOf_ref (k _ _ eg) (zg.1 ▸ q)
      have look := PySem.W.exm_one (M := model X.prog X.w) Jg.kIn is hb1
      have name : ∀ {Q E : Value → Shared → Prop}, Q c { t with heap := g } → wpAny (model X.prog X.w) (X.A.mark (some (.ref a))) (eval (.Name x np) X.env) Q E { t with heap := g } := fun {Q E} q => by
        obtain ⟨hg, hdb, hm | ⟨hm, hv, hn⟩⟩ := nm
        · exact ld_glob (X := X.suite a ((a, og) :: (X.pn ++ pins))) Sg hg hm q hdb
        · exact ld_blt (X := X.suite a ((a, og) :: (X.pn ++ pins))) Sg hg hm hv q hn hdb
      refine name (look.here ?_)
      cases b with
      | true =>
        refine codeAny_handlers_suite_as (HandSPX.lands_againZ fg fun k fk uk => ?_)
        have Jk : Inv X pins σ' H' { t with heap := k } := J.landed nb fk.1 ((up.trans ug).trans uk) os ag
        obtain ⟨o4, v4, e4, z4, d4⟩ := fk.there
        refine store_ok (X := X.suite a ((a, o4) :: (X.pn ++ pins))) (v := .ref a) (Jk.suite e4 d4 na offL offF) nd gi (.inl kn) rfl (fun s5 S5 => ?_) (.inr kn)
        refine wpAny_mono ((hsu a o4 cls d (X.pn ++ pins) z4 ⟨_, d4⟩).run [] s5 _ H' _ S5 (hyes rfl a na)) (fun f s6 hs => ?_) (fun _ _ z => False.elim z)
        cases f with
        | next =>
          obtain ⟨σ6, H6, S6, q6⟩ := hs
          refine gone_ok (X := X.tr ((a, o4) :: (X.pn ++ pins)) X.xe) (pins := []) (pin_on S6 ok) nd gi kn fun s7 J7 => ?_
          show wpAny (model X.prog X.w) X.A (execs rest X.env) (SP X pins D) X.xe s7
          refine wpAny_mono ((hr' a o4 cls d (X.pn ++ pins) z4 ⟨_, d4⟩).run [] s7 _ H6 D J7 q6) (fun f s8 h8 => ?_) fun _ _ z => z
          cases f with
          | next => obtain ⟨σ8, H8, J8, q8⟩ := h8; exact ⟨σ8, H8, pin_off J8 ok, q8⟩
          | brk => obtain ⟨σ8, H8, J8, q8⟩ := h8; exact ⟨σ8, H8, pin_off J8 ok, q8⟩
          | cont => obtain ⟨σ8, H8, J8, q8⟩ := h8; exact ⟨σ8, H8, pin_off J8 ok, q8⟩
          | ret _ => obtain ⟨w8, σ8, H8, J8, r8, q8⟩ := h8; exact ⟨w8, σ8, H8, pin_off J8 ok, r8, q8⟩
        | brk => obtain ⟨σ6, H6, S6, q6⟩ := hs; exact gone_ok (S6.unsuite ok) nd gi kn fun s7 J7 => ⟨_, _, J7, q6⟩
        | cont => obtain ⟨σ6, H6, S6, q6⟩ := hs; exact gone_ok (S6.unsuite ok) nd gi kn fun s7 J7 => ⟨_, _, J7, q6⟩
        | ret _ => obtain ⟨v6, σ6, H6, S6, r6, q6⟩ := hs; exact gone_ok (S6.unsuite ok) nd gi kn fun s7 J7 => ⟨_, _, _, J7, r6, q6⟩
      | false =>
        show wpAny _ X.A (handleBy (.ref a) X.env []) _ _ _
        refine wpAny_handleBy_nil ?_
        obtain ⟨_, _, _, oe, vs, T, oT, ts', he, hz, hd, h1, _⟩ := id fg
        unfold PySem.passOn
        refine wpAny_bind (wpAny_field he hd h1 ?_)
        rw [if_neg (show ¬ ((Value.ref T == Value.none) = true) by simp)]
        have fin : wpAny (model X.prog X.w) X.A (setFlight (.ref a) X.env.frame) (fun _ s4 => wpAny (model X.prog X.w) X.A (throw (.ref a) : Sem Flow) R X.xe s4) X.xe { t with heap := g } := by
          rw [fr]
          exact HandSPX.setFlight_upZ fg fun k hk uk => wpAny_throw (tk _ _ ⟨a, B, sI, pins, σ', H', cls, d, rfl, J, nb, (up.trans ug).trans uk, .inr (.inr (st.symm ▸ hk)), na, os, ag, hno rfl⟩)
        first | exact wpAny_bind (wpAny_pure (wpAny_bind fin)) | exact wpAny_bind fin
    · cases f with
      | next =>
        obtain ⟨σ', H', J, q⟩ := hf
        refine wpAny_execs_nil ?_
        exact hr.run pins t σ' H' D (J.ofTry ok) q
      | brk => obtain ⟨σ', H', J, q⟩ := hf; exact ⟨σ', H', J.ofTry ok, q⟩
      | cont => obtain ⟨σ', H', J, q⟩ := hf; exact ⟨σ', H', J.ofTry ok, q⟩
      | ret _ => obtain ⟨w, σ', H', J, r, q⟩ := hf; exact ⟨w, σ', H', J.ofTry ok, r, q⟩
  exact thn goal fun f s1 q => by cases f <;> exact q
/-- isinstance(e, c) of a pinned error -/
theorem call_isP {a D : Addr} {oe : Obj} (hm : (a, oe) ∈ X.pn) (C : ExcC X.K D) (hz : Zc (.ref D) none oe) (hf : ∃ vs, oe.data = .fields vs) : CallR X (.builtin "isinstance") (rIsE X.K D a) := by
  intro pins s σ H xs us Q I r h
  obtain ⟨t, cv, b, rfl, one, e, q⟩ := h
  match us, r with
  | [_, _], .cons rx (.cons rt .nil) =>
    cases rx
    cases one _ rt
    obtain ⟨get, _⟩ := I.pin (a, oe) (List.mem_append_left _ hm)
    obtain ⟨vs, hv⟩ := hf
    have J : PySem.W.InstAt s.heap a oe D none := by
      cases oe with
      | mk oc od oda osl =>
        obtain ⟨rfl, rfl⟩ := hz
        cases hv
        exact ⟨get, rfl, rfl, trivial⟩
    refine PySem.W.kia_one (PySem.W.handS_kitx_exc C.hg C.hk C.hs C.hd C.ha C.hn C.ht C.hm) I.kIn J e (by intro z; cases z) fun tk => ?_
    exact ⟨.bl b, H, I.kept (t' := tk) fun _ _ z => z, rfl, q⟩
/-- the same, its class told behind -/
theorem call_isP2 {K : PySem.W.Frag} {a D : Addr} {oe : Obj} {cls : Value} {d : Option Addr} (hK : X.K = K) (hm : (a, oe) ∈ X.pn) (C : ExcC K D) (hz : Zc cls d oe) (hf : ∃ vs, oe.data = .fields vs) : CallR X (.builtin "isinstance") (fun xs H Q => cls = .ref D ∧ d = none ∧ rIsE K D a xs H Q) := by
  subst hK
  intro pins s σ H xs us Q I r h
  obtain ⟨rfl, rfl, h⟩ := h
  exact call_isP hm C hz hf pins s σ H xs us Q I r h
/-- isinstance(e, (c, c')) of a pinned error -/
theorem call_isPT {a D : Addr} {oe : Obj} (hm : (a, oe) ∈ X.pn) (C : ExcC X.K D) (hz : Zc (.ref D) none oe) (hf : ∃ vs, oe.data = .fields vs) : CallR X (.builtin "isinstance") (fun xs H Q => ∃ (tp : Addr) (cs : List V) (ws : List Value) (b : Bool), xs = [.ref a, .ref tp] ∧ H tp = some (.tup cs) ∧ (∀ us, Vals cs us → us = ws) ∧ PySem.W.kitAny X.K (.ref D) ws = some b ∧ Q (.bl b) H) := by
  intro pins s σ H xs us Q I r h
  obtain ⟨tp, cs, ws, b, rfl, hT, one, e, q⟩ := h
  match us, r with
  | [_, _], .cons rx (.cons rt .nil) =>
    cases rx
    cases rt
    obtain ⟨get, _⟩ := I.pin (a, oe) (List.mem_append_left _ hm)
    obtain ⟨vs, hv⟩ := hf
    have J : PySem.W.InstAt s.heap a oe D none := by
      cases oe with
      | mk oc od oda osl =>
        obtain ⟨rfl, rfl⟩ := hz
        cases hv
        exact ⟨get, rfl, rfl, trivial⟩
    obtain ⟨_, its, rv, o, h1, h2, m, h3⟩ := (show ObjOk X.prog X.w H s.heap tp (.tup cs) from I.hok tp _ hT)
    cases one _ rv
    cases o with
    | mk oc od dt sl =>
      cases h2
      cases h3
      refine PySem.W.kia_tup (PySem.W.handS_kitx_exc C.hg C.hk C.hs C.hd C.ha C.hn C.ht C.hm) I.kIn J h1 e (by intro z; cases z) fun tk => ?_
      exact ⟨.bl b, H, I.kept (t' := tk) fun _ _ z => z, rfl, q⟩
theorem call_isPT2 {K : PySem.W.Frag} {a D : Addr} {oe : Obj} {cls : Value} {d : Option Addr} (hK : X.K = K) (hm : (a, oe) ∈ X.pn) (C : ExcC K D) (hz : Zc cls d oe) (hf : ∃ vs, oe.data = .fields vs) : CallR X (.builtin "isinstance") (fun xs H Q => cls = .ref D ∧ d = none ∧ ∃ (tp : Addr) (cs : List V) (ws : List Value) (b : Bool), xs = [.ref a, .ref tp] ∧ H tp = some (.tup cs) ∧ (∀ us, Vals cs us → us = ws) ∧ PySem.W.kitAny K (.ref D) ws = some b ∧ Q (.bl b) H) := by
  subst hK
  intro pins s σ H xs us Q I r h
  obtain ⟨rfl, rfl, h⟩ := h
  exact call_isPT hm C hz hf pins s σ H xs us Q I r h
/-- the slots at a raise are as many as ever -/
theorem takes_len {W : WX} (tk : Takes X W) : Takes X (fun cls d σ H => σ.length = X.N.length → W cls d σ H) := fun u s' ⟨a, B, sI, pins, σ, H, cls, d, e, I, nb, up, sky, na, os, ag, w⟩ => tk u s' ⟨a, B, sI, pins, σ, H, cls, d, e, I, nb, up, sky, na, os, ag, w I.len⟩
end
end RV
set_option maxHeartbeats 4000000
/-! {elt for a in x for b in y}: ints, two clauses, no tests -/
namespace RV
open PySem PySem.Spec PyProof.Rows L2
/-- two clauses, no tests -/
abbrev sc2 (el ta ia tb ib : Expr) (sco : Scope) (p : Pos) : Expr := .SetComp el [⟨ta, ia, [], 0⟩, ⟨tb, ib, [], 0⟩] sco p
/-- the code of a comprehension's turn: store what comes, then body -/
def turnOf (p : Pos) (tg : Expr) (it : Value) (env : Env) (rest : Sem Fin) : Sem Fin := standAt p >>= fun _ => pyNext it >>= fun r => match r with
  | none => pure (.done .next)
  | some v => letOwnedTupleGo tg it v >>= fun _ => assign tg env v >>= fun _ => rest
/-- a loop of a comprehension's block whose turns are of that form -/
theorem walk {Y : Cx} {el ta ia t1 ib tg : Expr} {sco : Scope} {pp : Pos} {d : Nat} {it : Addr} {acc : Value} {p : Pos} {rest : Sem Fin} {fp : List Addr} {tn : Nat → Heap → Prop} {J : It} {pins : List (Addr × Obj)} {σ0 : L2.St} {H0 : Hp} {s0 : Shared} {g : TG} {tb : L2.St → Hp → (Hp → Prop) → Prop} {R : Result → Shared → Prop}
    (hc : Y.calm = true) (T : Turn Y.prog Y.w Y.K tg J fp it tn) (form : compTurn (sc2 el ta ia t1 ib sco pp) d (.ref it) acc Y.env = turnOf p tg (.ref it) Y.env rest)
    (fpok : ∀ {H s}, Inv Y pins σ0 H s → (∀ b ∈ fp, H b = none) → ∀ b ∈ fp, FpOk Y pins H b) (pg : PG Y tg g) (noerr : ∀ e s, Y.xe e s → False)
    (hb : ∀ (pins' : List (Addr × Obj)) (σ2 : L2.St) (H2 : Hp) (s2 : Shared) (Nx : Hp → Prop), Inv Y pins' σ2 H2 s2 → tb σ2 H2 Nx → wpAny (model Y.prog Y.w) Y.A rest (fun fin s3 => fin = .again (.compLoop (sc2 el ta ia t1 ib sco pp) d (.ref it) acc Y.env) ∧ ∃ H3, Inv Y pins' σ0 H3 s3 ∧ Nx H3) (fun _ _ => False) s2)
    (W : Nat → Nat → Hp → Prop) {m0 : Nat} (I0 : Inv Y pins σ0 H0 s0) (t0 : tn 0 s0.heap) (n0 : ∀ b ∈ fp, H0 b = none) (w0 : W 0 m0 H0)
    (turn : ∀ i m H, W i m H → (J.stop i H ∧ ∀ s, Inv Y pins σ0 H s → R (.ok .next) s) ∨ (J.go i H ∧ ∃ Nx : Hp → Prop, (∀ H', Nx H' → ∃ m', m' < m ∧ W (i + 1) m' H') ∧ ∀ x H', J.yld i H x H' → g x σ0 H' fun σ2 H2 => tb σ2 H2 Nx)) :
    codeAny (model Y.prog Y.w) Y.A (.compLoop (sc2 el ta ia t1 ib sco pp) d (.ref it) acc Y.env) R s0 := by
  refine codeAny_loop rfl (fun n s => ∃ i H, Inv Y pins σ0 H s ∧ tn i s.heap ∧ (∀ b ∈ fp, H b = none) ∧ W i n H) (fun n s h => ?_) m0 ⟨0, H0, I0, t0, n0, w0⟩
  obtain ⟨i, H, I, st, nf, hw⟩ := h
  show wpAny (model Y.prog Y.w) Y.A ((compTurn (sc2 el ta ia t1 ib sco pp) d (.ref it) acc Y.env).onRaise fun x => do noteFrame x Y.env; theTreesLotGoes x) _ _ s
  refine wpAny_noted ?_
  rw [form]
  refine wpAny_bind (wpAny_standAt (wpAny_bind ?_))
  rcases turn i n H hw with ⟨stop, fin⟩ | ⟨go, Nx, hNx, step⟩
  · refine thnF (T.done Y rfl rfl rfl hc i pins s σ0 H (fun _ _ => False) I (fpok I nf) st stop) fun r s1 ⟨hr, I1⟩ => ?_
    subst hr
    exact wpAny_pure (fin s1 I1)
  · refine thnF (T.item Y rfl rfl rfl hc i pins s σ0 H (fun _ _ => False) I (fpok I nf) st go) fun r s1 ⟨u, hr, h1⟩ => ?_
    subst hr
    refine wpAny_bind (thnF h1 fun _ s2 ⟨x, H2, I2, rx, yx, st2, nf2⟩ => ?_)
    have J2 := I2.pinned (fpok I2 nf2) (T.obj _ _ st2)
    refine wpAny_bind (wpAny_mono (pg.run _ s2 σ0 H2 x u _ J2 rx (step x H2 yx)) (fun _ s3 h3 => ?_) fun e s' z => (noerr e s' z).elim)
    obtain ⟨σ3, H3, I3, b3⟩ := h3
    refine thnF (hb _ σ3 H3 s3 Nx I3 b3) fun fin s4 ⟨ef, H4, I4, nx⟩ => ?_
    subst ef
    refine ⟨rfl, ?_⟩
    obtain ⟨m', lt, w'⟩ := hNx H4 nx
    have held : ∀ b ∈ fp, ∀ o, s2.heap.get? b = some o → s4.heap.get? b = some o ∧ H4 b = none := fun b hb' o e => by
      have z := I4.pin (b, o) (List.mem_append_right _ (List.mem_append_right _ (mem_pinsAt hb' e)))
      exact ⟨z.1, z.2.1⟩
    refine ⟨m', lt, i + 1, H4, I4.unpinned, T.keep _ _ _ st2 fun b hb' o e => (held b hb' o e).1, fun b hb' => ?_, w'⟩
    obtain ⟨o, e, _⟩ := T.obj _ _ st2 b hb'
    exact (held b hb' o e).2
/-- a clause's start goes to its loop -/
theorem start_of {P : Program} {w : World} {A : Around} {env : Env} {R : Result → Shared → Prop} {s : Shared} {el ta ia t1 ib : Expr} {sco : Scope} {pp : Pos} {d : Nat} {it acc : Value} (hd : d < 2) (self : ∀ (Q : Value → Shared → Prop) (E : Value → Shared → Prop), Q it s → wpAny (model P w) A (pyIter it) Q E s)
    (h : codeAny (model P w) A (.compLoop (sc2 el ta ia t1 ib sco pp) d it acc env) R s) : codeAny (model P w) A (.compStart (sc2 el ta ia t1 ib sco pp) d it acc env) R s := by
  refine codeAny_of_tree ?_
  show wpAny (model P w) A ((compStart (sc2 el ta ia t1 ib sco pp) d it acc env).onRaise fun x => do noteFrame x env; standAt theWindowsPlace) _ _ s
  refine wpAny_notedAt ?_
  have go : ∀ q : Pos, wpAny (model P w) A (standAt q >>= fun _ => pyIter it >>= fun j => again (.compLoop (sc2 el ta ia t1 ib sco pp) d j acc env)) (fun fin s' => match fin with | .done f => R (.ok f) s' | .again c' => c'.quiet = true ∧ codeAny (model P w) A c' R s') (notedBy (model P w) A env fun e s' => R (.error e) s') s := fun q =>
    wpAny_bind (wpAny_standAt (wpAny_bind (self _ _ (wpAny_pure ⟨rfl, h⟩))))
  have now : wpAny (model P w) A (again (.compLoop (sc2 el ta ia t1 ib sco pp) d it acc env)) (fun fin s' => match fin with | .done f => R (.ok f) s' | .again c' => c'.quiet = true ∧ codeAny (model P w) A c' R s') (notedBy (model P w) A env fun e s' => R (.error e) s') s := wpAny_pure ⟨rfl, h⟩
  obtain rfl | rfl : d = 0 ∨ d = 1 := by omega
  all_goals
    unfold compStart
    show wpAny (model P w) A (ask >>= _) _ _ s
    refine wpAny_bind (wpAny_askSetting (wpAny_ite ?_))
    split
    · exact wpAny_bind (wpAny_pure now)
    · exact wpAny_bind (wpAny_rule (go _))
section
variable {el ta ia t1 ib : Expr} {sco : Scope} {pp : Pos}
theorem form0 (it acc : Value) (env : Env) : compTurn (sc2 el ta ia t1 ib sco pp) 0 it acc env = turnOf ia.pos ta it env
    (eval ib env >>= fun x => standAt ib.pos >>= fun _ => foldedSetIterable ib env x >>= fun x => holding [x] (pyIter x) >>= fun j => runOwn (.compStart (sc2 el ta ia t1 ib sco pp) 1 j acc env) env >>= fun _ => again (.compLoop (sc2 el ta ia t1 ib sco pp) 0 it acc env)) := by rfl
theorem form1 (it acc : Value) (env : Env) : compTurn (sc2 el ta ia t1 ib sco pp) 1 it acc env = turnOf ib.pos t1 it env
    ((eval el env >>= fun v => standAt el.pos >>= fun _ => call (.builtin "set.add") [acc, v] >>= fun _ => pure ()) >>= fun _ => again (.compLoop (sc2 el ta ia t1 ib sco pp) 1 it acc env)) := by rfl
end
/-- what the inner loop must do, from what the outer one stored -/
def tInner (w : World) (D : Addr) (wi1 : TI) (g1 : TG) (te : TE) (vs1 : List Nat) : L2.St → Hp → (Hp → Prop) → Prop := fun σ2 H2 Nx => wi1 σ2 H2 fun J1 H4 => ∃ W1 : Nat → Nat → Hp → Prop, (∃ m, W1 0 m H4) ∧ ∀ j k H, W1 j k H →
  (J1.stop j H ∧ Nx H) ∨ (J1.go j H ∧ ∃ Nx1 : Hp → Prop, (∀ H', Nx1 H' → ∃ k', k' < k ∧ W1 (j + 1) k' H') ∧ ∀ x H', J1.yld j H x H' → g1 x (wipe σ2 vs1) H' fun σ3 H5 => wipe σ3 vs1 = wipe σ2 vs1 ∧
    te σ3 H5 fun y H7 => ∃ (c : Int) (S : Int → Bool) (n : Nat), y = .int c ∧ H7 D = some (SetO w D S n) ∧ n + 1 < scanBound ∧ Nx1 (upd H7 D (SetO w D (fun j => S j || decide (j = c)) (if S c = true then n else n + 1))))
/-- {el for ta in ia for t1 in ib}: D the new set, vs the block's names, vs1 those of the second target -/
def tS2 (w : World) (wi : TI) (g : TG) (wi1 : TI) (g1 : TG) (te : TE) (vs vs1 : List Nat) : TE := fun σ H Q => wi σ H fun J H1 => ∀ D, H1 D = none → ∃ W : Nat → Nat → Hp → Prop, (∃ m, W 0 m (upd H1 D (SetO w D (fun _ => false) 0))) ∧ ∀ i m H, W i m H →
  (J.stop i H ∧ Q (.ref D) H) ∨ (J.go i H ∧ ∃ Nx : Hp → Prop, (∀ H', Nx H' → ∃ m', m' < m ∧ W (i + 1) m' H') ∧ ∀ x H', J.yld i H x H' → g x (wipe σ vs) H' fun σ2 H2 => wipe σ2 vs = wipe σ vs ∧ tInner w D wi1 g1 te vs1 σ2 H2 Nx)
theorem wipe_keep {σ : L2.St} {j : Nat} : ∀ {vs : List Nat}, j ∉ vs → (wipe σ vs)[j]? = σ[j]?
  | [], _ => rfl
  | v :: vs, h => by
    have h1 := List.ne_of_not_mem_cons h
    show ((wipe σ vs).set v none)[j]? = _
    rw [List.getElem?_set_ne (Ne.symm h1), wipe_keep (List.not_mem_of_not_mem_cons h)]
section
variable {Y : Cx} {el ta ia t1 ib : Expr} {sco : Scope} {pp : Pos} {D : Addr} {wi1 : TI} {g1 : TG} {te : TE} {vs vs1 : List Nat} {σ0 : L2.St}
/-- the outer loop's body -/
theorem inner {o : Addr} (hc : Y.calm = true) (noerr : ∀ e s, Y.xe e s → False) (hv : ∀ i ∈ vs1, i ∈ vs) (hs : ∀ x, foldedSetIterable ib Y.env x = pure x) (p1 : PI Y t1 ib wi1) (pg1 : PG Y t1 g1) (pe : PE Y el te)
    (pins : List (Addr × Obj)) (σ2 : L2.St) (H2 : Hp) (s2 : Shared) (Nx : Hp → Prop) (I2 : Inv Y pins σ2 H2 s2) (h : wipe σ2 vs = σ0 ∧ tInner Y.w D wi1 g1 te vs1 σ2 H2 Nx) :
    wpAny (model Y.prog Y.w) Y.A (eval ib Y.env >>= fun x => standAt ib.pos >>= fun _ => foldedSetIterable ib Y.env x >>= fun x => holding [x] (pyIter x) >>= fun j => runOwn (.compStart (sc2 el ta ia t1 ib sco pp) 1 j (.ref D) Y.env) Y.env >>= fun _ => again (.compLoop (sc2 el ta ia t1 ib sco pp) 0 (.ref o) (.ref D) Y.env))
      (fun fin s3 => fin = .again (.compLoop (sc2 el ta ia t1 ib sco pp) 0 (.ref o) (.ref D) Y.env) ∧ ∃ H3, Inv Y pins σ0 H3 s3 ∧ Nx H3) (fun _ _ => False) s2 := by
  obtain ⟨hw, h⟩ := h
  refine wpAny_bind (wpAny_mono (p1.run pins s2 σ2 H2 _ I2 h) (fun x s3 hx => ?_) fun e s z => (noerr e s z).elim)
  refine wpAny_bind (wpAny_standAt (wpAny_bind (wpAny_of_eq (hs x) (wpAny_bind (wpAny_holding (wpAny_mono hx (fun j s4 h4 => ?_) fun e s z => (noerr e s z).elim))))))
  obtain ⟨it, fp, tn, J1, H4, e, I4, T, st4, f4, W1, ⟨m1, w1⟩, turn1⟩ := h4
  subst e
  have back : ∀ {H s}, Inv Y pins (wipe σ2 vs1) H s → Inv Y pins σ0 H s := fun I => by
    subst hw
    refine I.weak (by rw [wipe_length, wipe_length]) fun i v e => ?_
    obtain ⟨e1, e2⟩ := wipe_some e
    rw [wipe_keep fun z => e2 (hv i z)]; exact e1
  refine wpAny_bind (wpAny_runOwn ?_)
  rw [Around.mark_none]
  have loop := walk (tb := fun σ3 H5 Nx1 => wipe σ3 vs1 = wipe σ2 vs1 ∧ te σ3 H5 fun y H7 => ∃ (c : Int) (S : Int → Bool) (n : Nat), y = .int c ∧ H7 D = some (SetO Y.w D S n) ∧ n + 1 < scanBound ∧ Nx1 (upd H7 D (SetO Y.w D (fun j => S j || decide (j = c)) (if S c = true then n else n + 1))))
    (R := fun r s' => match r with | .ok _ => ∃ H3, Inv Y pins σ0 H3 s' ∧ Nx H3 | .error _ => False) hc T (form1 (el := el) (ta := ta) (ia := ia) (t1 := t1) (ib := ib) (sco := sco) (pp := pp) (.ref it) (.ref D) Y.env)
    (fun {H s} _ hn b hb => ⟨hn b hb, (f4 b hb).2⟩) pg1 noerr
    (fun pins' σ3 H5 s5 Nx1 I5 ⟨hw5, h5⟩ => by
      refine wpAny_bind (wpAny_bind (wpAny_mono (pe.run pins' s5 σ3 H5 _ I5 h5) (fun z s6 h6 => ?_) fun e s z => (noerr e s z).elim))
      obtain ⟨y, H7, I7, r7, c, S, n, ey, hD, room, nx⟩ := h6
      subst ey
      refine wpAny_bind (wpAny_standAt (wpAny_bind ?_))
      refine wpAny_mono (mt_sadd pins' s6 σ3 H7 (.ref D) [.int c] (.ref D) [z] (fun _ H' => Nx1 H') I7 rfl (.cons r7 .nil) ⟨D, c, S, n, rfl, rfl, hD, room, nx⟩) (fun _ s8 h8 => ?_) fun e s z => (noerr e s z).elim
      obtain ⟨y8, H8, I8, _, q8⟩ := h8
      exact wpAny_pure (wpAny_pure ⟨rfl, H8, I8.weak (by rw [← hw5, wipe_length]) fun i v e => by rw [← hw5] at e; exact (wipe_some e).1, q8⟩))
    W1 (I4.weak (wipe_length _ _) fun i v e => (wipe_some e).1) st4 (fun b hb => (f4 b hb).1) w1
    (fun j k H hW => by
      rcases turn1 j k H hW with ⟨stop, nx⟩ | ⟨go, Nx1, hN1, step⟩
      · exact .inl ⟨stop, fun s I => ⟨H, back I, nx⟩⟩
      · exact .inr ⟨go, Nx1, hN1, step⟩)
  refine codeAny_mono (start_of (by decide) (fun Q E q => T.self _ 0 _ _ _ st4 q) loop) fun r s' hr => ?_
  cases r with
  | ok f => exact wpAny_pure ⟨rfl, hr⟩
  | error e => exact hr.elim
end
section
variable {X : Cx}
abbrev blkEnv (X : Cx) (sco : Scope) (s : Shared) : Env := compEnvC sco (cellsFrom (s.heap.objs.size + 1) sco.names (cloFrom X.env.cells sco.names [])) s.heap.objs.size X.env
theorem block {el ta ia t1 ib : Expr} {sco : Scope} {own : List (PySem.Str × Nat)} {vs1 : List Nat} {pp : Pos} {wi1 : TI} {g g1 : TG} {te : TE} {pins : List (Addr × Obj)} {σ : L2.St} {H : Hp} {s : Shared} {it D : Addr} {fp : List Addr} {tn : Nat → Heap → Prop} {J : It} {Q : VK} {W : Nat → Nat → Hp → Prop} {m0 : Nat} {Z : Result → Shared → Prop}
    (hc : X.calm = true) (hN : X.N.Nodup) (ok : BlkOk X.N X.env.scope sco own) (hv : ∀ i ∈ vs1, i ∈ own.map (·.2)) (hs1 : ∀ env x, foldedSetIterable ib env x = pure x)
    (pg : PG (X.blk s H sco (blkEnv X sco s) fp) ta g) (p1 : PI (X.blk s H sco (blkEnv X sco s) fp) t1 ib wi1) (pg1 : PG (X.blk s H sco (blkEnv X sco s) fp) t1 g1) (pe : PE (X.blk s H sco (blkEnv X sco s) fp) el te)
    (I : Inv X pins σ H s) (T : Turn X.prog X.w X.K ta J fp it tn) (st : tn 0 s.heap) (hf : ∀ b ∈ fp, FpOk X pins H b ∧ b < s.heap.objs.size) (w0 : W 0 m0 H)
    (turn : ∀ i m H, W i m H → (J.stop i H ∧ Q (.ref D) H) ∨ (J.go i H ∧ ∃ Nx : Hp → Prop, (∀ H', Nx H' → ∃ m', m' < m ∧ W (i + 1) m' H') ∧ ∀ x H', J.yld i H x H' → g x (wipe σ (own.map (·.2))) H' fun σ2 H2 => wipe σ2 (own.map (·.2)) = wipe σ (own.map (·.2)) ∧ tInner X.w D wi1 g1 te vs1 σ2 H2 Nx))
    (fin : ∀ s' H' m, Inv X pins σ H' s' → Q (.ref D) H' → s'.heap.Ns s.heap.objs.size m → FpOk X pins H' s.heap.objs.size → Z (.ok .next) s') :
    codeAny (model X.prog X.w) X.A (.compStart (sc2 el ta ia t1 ib sco pp) 0 (.ref it) (.ref D) (blkEnv X sco s)) Z { s with heap := pushCells (s.heap.push { cls := .type "dict", data := .dict #[] }) sco.names } := by
  have I4 := block_start I ok hN hf
  have st4 : tn 0 (pushCells (s.heap.push { cls := .type "dict", data := .dict #[] }) sco.names) := T.keep _ _ _ st fun b _ o e => pushCells_keeps _ _ _ _ (Heap.get?_push_of_some _ e)
  refine start_of (by decide) (fun Q' E q => T.self _ 0 _ _ _ st4 q) ?_
  refine walk (Y := X.blk s H sco (blkEnv X sco s) fp) (tb := fun σ2 H2 Nx => wipe σ2 (own.map (·.2)) = wipe σ (own.map (·.2)) ∧ tInner X.w D wi1 g1 te vs1 σ2 H2 Nx) hc T (form0 (.ref it) (.ref D) (blkEnv X sco s))
    (fun {H' s'} I' hn b hb => ⟨hn b hb, (I'.ok.exf b hb).1, I'.ok.exfs b hb, .inl hb, fun x c e => (I'.ok.exf b hb).2 x c e, fun p hp => nomatch (show p ∈ ([] : List (Addr × Obj)) from hp)⟩) pg (fun _ _ z => z)
    (fun pins' σ2 H2 s2 Nx I2 h2 => inner (Y := X.blk s H sco (blkEnv X sco s) fp) (vs := own.map (·.2)) hc (fun _ _ z => z) hv (hs1 _) p1 pg1 pe pins' σ2 H2 s2 Nx I2 h2) W I4 st4 (fun b hb => (hf b hb).1.1) w0 (fun i m H' hW => ?_)
  rcases turn i m H' hW with ⟨stop, qq⟩ | z
  · refine .inl ⟨stop, fun s6 I6 => ?_⟩
    obtain ⟨m', hn, _⟩ := I6.loc
    exact fin s6 H' m' (I.call' (ch := fp) I6.os I6.base I6.hok I6.bare fun b hb => (hf b hb).1.2.2.2.1 |> fun z => ⟨z, (hf b hb).1.2.1, (hf b hb).1.2.2.2.2.1, (hf b hb).1.2.2.2.2.2⟩) qq hn (I.fpOk (Nat.le_refl _) I6.free)
  · exact .inr z
theorem pe_sc2 {el ta ia t1 ib : Expr} {sco : Scope} {own : List (PySem.Str × Nat)} {vs1 : List Nat} {pp : Pos} {wi wi1 : TI} {g g1 : TG} {te : TE} (hc : X.calm = true) (hN : X.N.Nodup) (hi : PI X ta ia wi) (ok : BlkOk X.N X.env.scope sco own) (hv : ∀ i ∈ vs1, i ∈ own.map (·.2))
    (hg : ∀ s H C cl fp, PG (X.blk s H sco (compEnvC sco cl C X.env) fp) ta g) (hi1 : ∀ s H C cl fp, PI (X.blk s H sco (compEnvC sco cl C X.env) fp) t1 ib wi1) (hg1 : ∀ s H C cl fp, PG (X.blk s H sco (compEnvC sco cl C X.env) fp) t1 g1)
    (he : ∀ s H C cl fp, PE (X.blk s H sco (compEnvC sco cl C X.env) fp) el te) (hs : ∀ x, foldedSetIterable ia X.env x = pure x := by intro _; rfl) (hs1 : ∀ env x, foldedSetIterable ib env x = pure x := by intro _ _; rfl) :
    PE X (.SetComp el [⟨ta, ia, [], 0⟩, ⟨t1, ib, [], 0⟩] sco pp) (tS2 X.w wi g wi1 g1 te (own.map (·.2)) vs1) := by
  refine ⟨fun pins s σ H Q I h => ?_⟩
  rw [PpSet.eval_SetComp]
  have known : ∀ y ∈ sco.names, y.2 = .free → ∃ c, X.env.cells.lookup y.1 = some c := fun y hy e => I.ok.has _ (ok.free y hy e)
  refine wpAny_comprehension_free (use := none) rfl hs (closure_ok known) ok.kind (fun y hy e => by rw [ok.uniq y hy, e]) (thn (hi.run pins s σ H _ I h) fun _ _ hx => thn hx fun iv s2 h2 => ?_)
  obtain ⟨it, fp, tn, J, H2, e, I2, T, st2, f2, q⟩ := h2
  subst e
  refine PpSet.newSet_ok (newEnv_comp ?_)
  have nD : H2 s2.heap.objs.size = none := I2.hok.fresh (Nat.le_refl _)
  obtain ⟨W, ⟨m0, w0⟩, turn⟩ := q _ nD
  have I3 := I2.laid (t' := s2.toks) (o := SetO X.w s2.heap.objs.size (fun _ => false) 0) (fun b o e => Heap.get?_push_of_some { cls := .type "set", dict := none, data := .set #[] 0 (.fresh 0 0 (!X.w.params.followText "set-order")) } e) (Nat.le_refl _) (setO_new (setR_fresh X.w))
  have young : ∀ b ∈ fp, b < s2.heap.objs.size := fun b hb => (T.obj _ _ st2 b hb).elim fun o e => Heap.lt_size e.1
  exact block hc hN ok hv hs1 (hg _ _ _ _ _) (hi1 _ _ _ _ _) (hg1 _ _ _ _ _) (he _ _ _ _ _) I3 T (T.keep _ _ _ st2 fun b _ o e => Heap.get?_push_of_some _ e)
    (fun b hb => ⟨⟨by rw [upd_ne (Nat.ne_of_lt (young b hb))]; exact (f2 b hb).1, (f2 b hb).2⟩, by show b < (Heap.push _ _).objs.size; rw [Heap.size_push]; exact Nat.lt_succ_of_lt (young b hb)⟩) w0 turn
    fun s' H' m I' qq hn ⟨f0, f1, _, f3, f4, f5⟩ => ⟨m, hn, fun h'' sb => ⟨.ref s2.heap.objs.size, H', I'.turned (t' := s'.toks) (fun b o hb e => (sb.2 b hb).trans e) f0 f1 f3 f4 f5, rfl, qq⟩⟩
end
end RV
set_option maxHeartbeats 4000000
/-! min of tuples of ints: of two, of a list of them -/
namespace RV
open PySem PySem.Spec PyProof.Rows L2
theorem lex_irr (xs : List Int) : HT.lexLt xs xs = false := by
  cases e : HT.lexLt xs xs with
  | false => rfl
  | true => have := NtL.lex_asym _ _ e; rw [e] at this; cases this
/-- the place of the first least -/
theorem best_least (l : Nat → List Int) : ∀ n : Nat, argBest (fun i j => HT.lexLt (l i) (l j)) n ≤ n ∧ ∀ j, j ≤ n → HT.lexLt (l j) (l (argBest (fun i j => HT.lexLt (l i) (l j)) n)) = false
  | 0 => ⟨Nat.le_refl _, fun j hj => by
    have : j = 0 := by omega
    subst this
    exact lex_irr _⟩
  | n + 1 => by
    obtain ⟨h1, h2⟩ := best_least l n
    have e0 : argBest (fun i j => HT.lexLt (l i) (l j)) (n + 1) = if HT.lexLt (l (n + 1)) (l (argBest (fun i j => HT.lexLt (l i) (l j)) n)) then n + 1 else argBest (fun i j => HT.lexLt (l i) (l j)) n := rfl
    rw [e0]
    generalize argBest (fun i j => HT.lexLt (l i) (l j)) n = b at h1 h2
    cases e : HT.lexLt (l (n + 1)) (l b) with
    | true =>
      rw [if_pos rfl]
      refine ⟨Nat.le_refl _, fun j hj => ?_⟩
      rcases Nat.lt_or_ge j (n + 1) with z | z
      · exact NtL.lex_tr _ _ _ (NtL.lex_asym _ _ e) (h2 j (by omega))
      · have : j = n + 1 := by omega
        subst this; exact lex_irr _
    | false =>
      rw [if_neg (by decide)]
      refine ⟨by omega, fun j hj => ?_⟩
      rcases Nat.lt_or_ge j (n + 1) with z | z
      · exact h2 j (by omega)
      · have : j = n + 1 := by omega
        subst this; exact e
section
variable {prog : Program} {w : World} {A : Around} {E : Value → Shared → Prop} {s : Shared}
/-- v is a tuple of the ints ns in h -/
def TupIn (h : Heap) (v : Value) (ns : List Int) : Prop := ∃ (a : Addr) (items : Array Value), v = .ref a ∧ IsTup h a items ∧ IntsAre items.toList ns
theorem TupIn.keep {h h' : Heap} {v : Value} {ns : List Int} (t : TupIn h v ns) (k : ∀ b o, h.get? b = some o → h'.get? b = some o) : TupIn h' v ns := by
  obtain ⟨a, items, e, ⟨o, h1, h2, h3⟩, hi⟩ := t
  exact ⟨a, items, e, ⟨o, k _ _ h1, h2, h3⟩, hi⟩
theorem cmp_tups {vs : Array Value} {l : Nat → List Int} (hu : A.units < cLine) (ht : ∀ i v, vs[i]? = some v → TupIn s.heap v (l i)) :
    CmpIn prog w A .Lt s.heap (fun i v => vs[i]? = some v) (fun i j => HT.lexLt (l i) (l j)) := fun i j vi vj s' Q E hk hi hj hq => by
  obtain ⟨a, it1, rfl, t1, i1⟩ := (ht i vi hi).keep hk
  obtain ⟨b, it2, rfl, t2, i2⟩ := (ht j vj hj).keep hk
  exact HT.lt_tupInts t1 t2 i1 i2 hu hq
/-- min(l) of a list of tuples of ints -/
theorem min_tups {a : Addr} {vs : Array Value} {l : Nat → List Int} {Q : Value → Shared → Prop} (hh : A.handled = none) (hl : s.heap.IsList a vs) (h0 : 0 < vs.size) (hu : A.units + 1 < cLine) (ht : ∀ i v, vs[i]? = some v → TupIn s.heap v (l i))
    (h : ∀ (i : Nat) v h' tk, vs[i]? = some v → (∀ j, j < vs.size → HT.lexLt (l j) (l i) = false) → (∀ b o, s.heap.get? b = some o → h'.get? b = some o) → Q v { s with heap := h', toks := tk }) :
    wpAny (model prog w) A (call (.builtin "min") [.ref a]) Q E s := by
  refine call_min_walkH (PySem.W.iter_listW (A := A.in1) hh hl fun s₂ e W st hfp hw hk => ?_)
  refine ⟨_, _, _, _, _, _, _, s.heap, _, rfl, W, st, hfp, h0, hw, hk, cmp_tups (A := A.in1) (show A.units + 1 < cLine from hu) ht, fun v s' hP m => ?_⟩
  obtain ⟨h', tk, rfl, hk'⟩ := PySem.W.moved_old e rfl m
  obtain ⟨b1, b2⟩ := best_least l (vs.size - 1)
  exact h _ v h' tk hP (fun j hj => b2 j (by omega)) hk'
/-- min(v, u) of two tuples of ints -/
theorem min_two_tups {v u : Value} {ns ms : List Int} {Q : Value → Shared → Prop} (hh : A.handled = none) (hu : A.units + 1 < cLine) (hv : TupIn s.heap v ns) (hw : TupIn s.heap u ms)
    (h : ∀ h' tk, (∀ b o, s.heap.get? b = some o → h'.get? b = some o) → Q (if HT.lexLt ms ns = true then u else v) { s with heap := h', toks := tk }) :
    wpAny (model prog w) A (call (.builtin "min") [v, u]) Q E s := by
  have hname : (toString "min" ++ toString ".loop" : String) = "min.loop" := by decide
  refine call_function_tree F.kind_min F.plain_min F.entry_min (F.args_min2 _ _) ?_
  show wpAny _ A.in1 (Builtin.Builtins.bindParams "min" ["key", "default"] 0 ⟨[], []⟩ >>= _) _ _ s
  refine wpAny_bind (wpAny_of_eq (show Builtin.Builtins.bindParams "min" ["key", "default"] 0 ⟨[], []⟩ = pure [none, none] from rfl) ?_)
  show wpAny _ A.in1 (newTuple [v, u] >>= _) _ _ s
  refine wpAny_bind (wpAny_newObj_type ?_)
  have hT : (s.heap.push { cls := .type "tuple", data := .seq #[v, u] }).IsTuple s.heap.objs.size #[v, u] := ⟨_, Heap.get?_push_size _ rfl, rfl, 0, rfl⟩
  have k0 : ∀ b o, s.heap.get? b = some o → (s.heap.push { cls := .type "tuple", data := .seq #[v, u] }).get? b = some o := fun b o e => Heap.get?_push_of_some _ e
  have ht : ∀ i x, (#[v, u] : Array Value)[i]? = some x → TupIn (s.heap.push { cls := .type "tuple", data := .seq #[v, u] }) x ((fun i : Nat => if i = 0 then ns else ms) i) := fun i x hx => by
    match i, hx with
    | 0, hx => cases hx; exact hv.keep k0
    | 1, hx => cases hx; exact hw.keep k0
    | i + 2, hx => simp at hx
  refine wpAny_bind (PySem.W.iter_tupleW (s := { s with heap := s.heap.push { cls := .type "tuple", data := .seq #[v, u] } }) (A := A.in1) hh hT fun s₂ e W st hfp hw' hk => ?_)
  refine wpAny_bind (wpAny_newObj_type ?_)
  have hSf : s₂.heap.objs.size ∉ [(s.heap.push { cls := .type "tuple", data := .seq #[v, u] }).objs.size, s.heap.objs.size] := fun hm => Nat.lt_irrefl _ (hfp _ hm)
  rw [hname]
  refine wpAny_pure ⟨plainId_quiet F.plain_min_loop _, codeAny_min_loop_firstH W _ hw' _ (cmp_tups (s := { s with heap := s.heap.push { cls := .type "tuple", data := .seq #[v, u] } }) (A := A.in1) (show A.units + 1 < cLine from hu) ht) s₂.heap.objs.size hSf (fresh_in hk) _ (by show 0 < 2; decide) (fun b o e => Heap.get?_push_of_some _ (hk b o e)) (W.frame 0 s₂ _ s₂.toks st (Nat.le_refl _) fun b _ o e => Heap.get?_push_of_some _ e) (Heap.get?_push_size _ rfl) fun x s' hP hm => ?_⟩
  have m := Moved.drop_new (tk := s₂.toks) hm (Nat.le_refl _)
  obtain ⟨h', tk, rfl, hk'⟩ := PySem.W.moved_old e rfl m
  have z := h h' tk fun b o eb => hk' b o (k0 b o eb)
  have ex : x = if HT.lexLt ms ns = true then u else v := by
    have hP1 : (#[v, u] : Array Value)[argBest (fun i j => HT.lexLt ((fun i : Nat => if i = 0 then ns else ms) i) ((fun i : Nat => if i = 0 then ns else ms) j)) 1]? = some x := hP
    cases el : HT.lexLt ms ns with
    | true =>
      have e1 : argBest (fun i j => HT.lexLt ((fun i : Nat => if i = 0 then ns else ms) i) ((fun i : Nat => if i = 0 then ns else ms) j)) 1 = 1 := by simp [argBest, el]
      rw [e1] at hP1
      rw [if_pos rfl]; cases hP1; rfl
    | false =>
      have e1 : argBest (fun i j => HT.lexLt ((fun i : Nat => if i = 0 then ns else ms) i) ((fun i : Nat => if i = 0 then ns else ms) j)) 1 = 0 := by simp [argBest, el]
      rw [e1] at hP1
      rw [if_neg (by decide)]; cases hP1; rfl
  rw [ex]; exact z
end
section
variable {X : Cx}
theorem tupIn_of {pins : List (Addr × Obj)} {s : Shared} {σ : L2.St} {H : Hp} (I : Inv X pins σ H s) {a : Addr} {ns : List Int} (h : SqT X.K H a (ns.map V.int)) : TupIn s.heap (.ref a) ns := by
  obtain ⟨its, r1, p1, _⟩ := I.tuple h
  exact ⟨a, _, rfl, p1, intsAre_of r1⟩
/-- min(t, u) of two tuples of ints -/
def rMin2T (K : PySem.W.Frag) : List V → Hp → VK → Prop := fun vs H Q => ∃ (a b : Addr) (ns ms : List Int), vs = [.ref a, .ref b] ∧ SqT K H a (ns.map V.int) ∧ SqT K H b (ms.map V.int) ∧ Q (.ref (if HT.lexLt ms ns = true then b else a)) H
theorem cr_min2T (hc : X.calm = true) (hu : X.A.units + 1 < cLine) : CallR X (.builtin "min") (rMin2T X.K) := by
  intro pins s σ H vs us Q I r h
  obtain ⟨a, b, ns, ms, rfl, ha, hb, q⟩ := h
  obtain ⟨u, w', rfl, e1, e2⟩ := vals2 r
  cases e1
  cases e2
  refine min_two_tups (I.ok.hd hc) hu (tupIn_of I ha) (tupIn_of I hb) fun h' tk k => ⟨_, H, I.kept k, ?_, q⟩
  cases HT.lexLt ms ns <;> rfl
/-! sorted of two tuples of ints of one length -/
theorem code_lex {B : Int} : ∀ {xs ys : List Int}, xs.length = ys.length → TS.Bd B xs → TS.Bd B ys → HT.lexLt xs ys = decide (TS.code B xs < TS.code B ys)
  | [], [], _, _, _ => by
    show false = decide (TS.code B [] < TS.code B [])
    rw [decide_eq_false (Int.lt_irrefl _)]
  | x :: xs, y :: ys, hl, h1, h2 => by
    have hl' : xs.length = ys.length := by simpa using hl
    have t1 : TS.Bd B xs := fun m hm => h1 m (List.mem_cons_of_mem _ hm)
    have t2 : TS.Bd B ys := fun m hm => h2 m (List.mem_cons_of_mem _ hm)
    rw [HT.lexLt_cons]
    by_cases e : x = y
    · rw [if_pos e, code_lex hl' t1 t2, e]
      refine decide_eq_decide.mpr ?_
      show TS.code B xs < TS.code B ys ↔ y * B ^ xs.length + TS.code B xs < y * B ^ ys.length + TS.code B ys
      rw [hl']
      omega
    · rw [if_neg e]
      refine decide_eq_decide.mpr ⟨fun z => TS.code_lt hl' t1 t2 z, fun z => ?_⟩
      rcases Int.lt_trichotomy x y with c | c | c
      · exact c
      · exact absurd c e
      · have := TS.code_lt hl'.symm t2 t1 c
        omega
theorem lex_tot : ∀ {xs ys : List Int}, HT.lexLt xs ys = false → HT.lexLt ys xs = false → xs = ys
  | [], [], _, _ => rfl
  | [], y :: ys, h, _ => by cases h
  | x :: xs, [], _, h => by cases h
  | x :: xs, y :: ys, h1, h2 => by
    rw [HT.lexLt_cons] at h1 h2
    by_cases e : x = y
    · rw [if_pos e] at h1
      rw [if_pos e.symm] at h2
      rw [e, lex_tot h1 h2]
    · rw [if_neg e] at h1
      rw [if_neg (fun z => e z.symm)] at h2
      have a1 := of_decide_eq_false h1
      have a2 := of_decide_eq_false h2
      omega
def rSort2T (K : PySem.W.Frag) : List V → Hp → VK → Prop := fun vs H Q => ∃ (l a b : Addr) (ns ms : List Int) (B : Int), vs = [.ref l] ∧ SqL K H l [.ref a, .ref b] ∧ SqT K H a (ns.map V.int) ∧ SqT K H b (ms.map V.int) ∧ ns.length = ms.length ∧ 1 ≤ ns.length ∧ TS.Bd B ns ∧ TS.Bd B ms ∧
  ∀ (c d p : Addr), SqT K H c ((if HT.lexLt ms ns = true then ms else ns).map V.int) → H p = none → Q (.ref p) (upd H p (.lst [.ref c, .ref d]))
theorem cr_sort2T : CallR X (.builtin "sorted") (rSort2T X.K) := by
  intro pins s σ H vs us Q I r h
  obtain ⟨l, a, b, ns, ms, B, rfl, hL, ha, hb, hlen, h1, B1, B2, q⟩ := h
  refine cr_sortT (d := ns.length) (B := B) h1 pins s σ H _ us Q I r ⟨l, _, rfl, hL, by show 2 < 64; decide, fun x hx => ?_, fun ys p pm pw np => ?_⟩
  · simp only [List.mem_cons, List.not_mem_nil, or_false] at hx
    rcases hx with rfl | rfl
    · exact ⟨ns, ⟨a, rfl, ha⟩, rfl, B1⟩
    · exact ⟨ms, ⟨b, rfl, hb⟩, hlen.symm, B2⟩
  · have hl2 : ys.length = 2 := pm.length_eq
    match ys, hl2, pm, pw with
    | [x, y], _, pm, pw =>
      have rel : ∀ n m, TupI X.K H x n → TupI X.K H y m → TS.code B n ≤ TS.code B m := by
        have z := pw
        rw [List.pairwise_cons] at z
        exact z.1 y (List.mem_singleton.mpr rfl)
      have ma : V.ref a = x ∨ V.ref a = y := by
        have z := pm.mem_iff.mpr (show V.ref a ∈ [V.ref a, V.ref b] by simp)
        simpa using z
      have mb : V.ref b = x ∨ V.ref b = y := by
        have z := pm.mem_iff.mpr (show V.ref b ∈ [V.ref a, V.ref b] by simp)
        simpa using z
      have my : y = V.ref a ∨ y = V.ref b := by
        have z := pm.mem_iff.mp (show y ∈ [x, y] by simp)
        simpa using z
      obtain ⟨d, ed⟩ : ∃ d, y = V.ref d := my.elim (fun e => ⟨_, e⟩) fun e => ⟨_, e⟩
      have fst : ∀ ty : TupI X.K H y ms, x = V.ref a → Q (.ref p) (upd H p (.lst [x, y])) := fun ty ex => by
        have le := rel ns ms ⟨a, ex, ha⟩ ty
        have z := code_lex hlen.symm B2 B1
        rw [decide_eq_false (by omega)] at z
        rw [ex, ed]
        refine q a d p ?_ np
        rw [z, if_neg (by decide)]; exact ha
      rcases ma with ea | ea
      · rcases mb with eb | eb
        · have eab : a = b := V.ref.inj (ea.trans eb.symm)
          refine fst ?_ ea.symm
          rcases my with e | e
          · exact ⟨a, e, by rw [eab]; exact hb⟩
          · exact ⟨b, e, hb⟩
        · exact fst ⟨b, eb.symm, hb⟩ ea.symm
      · rcases mb with eb | eb
        · have le := rel ms ns ⟨b, eb.symm, hb⟩ ⟨a, ea.symm, ha⟩
          rw [← eb, ed]
          refine q b d p ?_ np
          have z := code_lex hlen.symm B2 B1
          cases el : HT.lexLt ms ns with
          | true => rw [if_pos rfl]; exact hb
          | false =>
            rw [if_neg (by decide)]
            have z2 := code_lex hlen B1 B2
            rw [decide_eq_false (by omega)] at z2
            rw [lex_tot z2 el]; exact hb
        · have eab : a = b := V.ref.inj (ea.trans eb.symm)
          have mx : x = V.ref a ∨ x = V.ref b := by
            have z := pm.mem_iff.mp (show x ∈ [x, y] by simp)
            simpa using z
          refine fst ⟨b, eb.symm, hb⟩ ?_
          rcases mx with e | e
          · exact e
          · rw [e, eab]
end
end RV
set_option maxHeartbeats 4000000
/-! the least of all walks: mark by mark, and of all gone through -/
namespace RV
open PyProof.Rows
section
variable {bh : Int → List Int} {N : Nat} {E : List Int}
/-- from where so many steps lead to E -/
def beg (bh : Int → List Int) (N : Nat) (E : List Int) : Nat → List Int
  | 0 => E
  | n + 1 => (upN N).filter fun m => (bh m).any fun c => decide (c ∈ beg bh N E n)
theorem mem_beg {n : Nat} {m : Int} : m ∈ beg bh N E (n + 1) ↔ (0 ≤ m ∧ m < (N : Int)) ∧ ∃ c ∈ bh m, c ∈ beg bh N E n := by
  show m ∈ (upN N).filter _ ↔ _
  rw [List.mem_filter, mem_upN, List.any_eq_true]
  simp only [decide_eq_true_eq]
/-- mark by mark the least that still leads there -/
def Gr (bh : Int → List Int) (B : Nat → List Int) : Nat → Int → List Int → Prop
  | 0, m, w => w = [m]
  | n + 1, m, w => ∃ c w', w = m :: w' ∧ c ∈ bh m ∧ c ∈ B n ∧ (∀ y ∈ bh m, y ∈ B n → c ≤ y) ∧ Gr bh B n c w'
theorem Gr.uniq {B : Nat → List Int} : ∀ {n : Nat} {m : Int} {w v : List Int}, Gr bh B n m w → Gr bh B n m v → w = v
  | 0, m, w, v, h, h' => by rw [show w = [m] from h, show v = [m] from h']
  | n + 1, m, w, v, h, h' => by
    obtain ⟨c, w', rfl, a1, a2, a3, a4⟩ := h
    obtain ⟨d, v', rfl, b1, b2, b3, b4⟩ := h'
    have : c = d := Int.le_antisymm (a3 d b1 b2) (b3 c a1 a2)
    subst this
    rw [a4.uniq b4]
theorem Gr.len {B : Nat → List Int} : ∀ {n : Nat} {m : Int} {w : List Int}, Gr bh B n m w → w.length = n + 1
  | 0, m, w, h => by rw [show w = [m] from h]; rfl
  | n + 1, m, w, h => by
    obtain ⟨c, w', rfl, _, _, _, a4⟩ := h
    rw [List.length_cons, a4.len]
theorem Gr.congr {B B' : Nat → List Int} : ∀ {n : Nat} (_ : ∀ k, k < n → ∀ m, m ∈ B k ↔ m ∈ B' k) {m : Int} {w : List Int}, Gr bh B n m w → Gr bh B' n m w
  | 0, _, m, w, h => h
  | n + 1, e, m, w, h => by
    obtain ⟨c, w', rfl, a1, a2, a3, a4⟩ := h
    exact ⟨c, w', rfl, a1, (e n (by omega) c).mp a2, fun y y1 y2 => a3 y y1 ((e n (by omega) y).mpr y2), a4.congr fun k hk => e k (by omega)⟩
theorem Gr.inn {B : Nat → List Int} {P : Int → Prop} (hb : ∀ m, P m → ∀ c ∈ bh m, P c) : ∀ {n : Nat} {m : Int} {w : List Int}, Gr bh B n m w → P m → ∀ x ∈ w, P x
  | 0, m, w, h, hm, x, hx => by
    rw [show w = [m] from h, List.mem_singleton] at hx
    rw [hx]; exact hm
  | n + 1, m, w, h, hm, x, hx => by
    obtain ⟨c, w', rfl, a1, a2, a3, a4⟩ := h
    rcases List.mem_cons.mp hx with rfl | z
    · exact hm
    · exact a4.inn hb (hb m hm c a1) x z
/-- a walk of so many steps from m to o -/
def WkL (bh : Int → List Int) : Nat → Int → Int → List Int → Prop
  | 0, m, o, w => w = [m] ∧ m = o
  | n + 1, m, o, w => ∃ c w', w = m :: w' ∧ c ∈ bh m ∧ WkL bh n c o w'
theorem WkL.head : ∀ {n : Nat} {m o : Int} {w : List Int}, WkL bh n m o w → ∃ v, w = m :: v
  | 0, m, o, w, h => ⟨[], h.1⟩
  | n + 1, m, o, w, h => by
    obtain ⟨c, w', e, _⟩ := h
    exact ⟨w', e⟩
theorem Gr.head {B : Nat → List Int} : ∀ {n : Nat} {m : Int} {w : List Int}, Gr bh B n m w → ∃ v, w = m :: v
  | 0, m, w, h => ⟨[], h⟩
  | n + 1, m, w, h => by
    obtain ⟨c, w', e, _⟩ := h
    exact ⟨w', e⟩
theorem WkL.beg (hb : ∀ m, (0 ≤ m ∧ m < (N : Int)) → ∀ c ∈ bh m, 0 ≤ c ∧ c < (N : Int)) {o : Int} : ∀ {n : Nat} {m : Int} {w : List Int}, WkL bh n m o w → (0 ≤ m ∧ m < (N : Int)) → m ∈ RV.beg bh N [o] n
  | 0, m, w, h, _ => by rw [h.2]; exact List.mem_singleton.mpr rfl
  | n + 1, m, w, h, hm => by
    obtain ⟨c, w', _, h1, h2⟩ := h
    exact mem_beg.mpr ⟨hm, c, h1, h2.beg hb (hb m hm c h1)⟩
theorem Gr.wk {o : Int} : ∀ {n : Nat} {m : Int} {w : List Int}, Gr bh (RV.beg bh N [o]) n m w → m ∈ RV.beg bh N [o] n → WkL bh n m o w
  | 0, m, w, h, hm => ⟨h, List.mem_singleton.mp hm⟩
  | n + 1, m, w, h, hm => by
    obtain ⟨c, w', e, a1, a2, a3, a4⟩ := h
    exact ⟨c, w', e, a1, a4.wk a2⟩
theorem Gr.least (hb : ∀ m, (0 ≤ m ∧ m < (N : Int)) → ∀ c ∈ bh m, 0 ≤ c ∧ c < (N : Int)) {o : Int} : ∀ {n : Nat} {m : Int} {g w : List Int}, Gr bh (RV.beg bh N [o]) n m g → WkL bh n m o w → (0 ≤ m ∧ m < (N : Int)) → HT.lexLt w g = false
  | 0, m, g, w, h, h', _ => by rw [show g = [m] from h, h'.1]; exact lex_irr _
  | n + 1, m, g, w, h, h', hm => by
    obtain ⟨c, g', rfl, a1, a2, a3, a4⟩ := h
    obtain ⟨d, w', rfl, b1, b2⟩ := h'
    have hd := hb m hm d b1
    have le := a3 d b1 (b2.beg hb hd)
    rw [HT.lexLt_cons, if_pos rfl]
    by_cases e : d = c
    · subst e
      exact a4.least hb b2 hd
    · obtain ⟨x, rfl⟩ := a4.head
      obtain ⟨y, rfl⟩ := b2.head
      rw [HT.lexLt_cons, if_neg e, decide_eq_false (by omega)]
theorem ex_gr : ∀ {n : Nat} {m : Int}, m ∈ RV.beg bh N E n → ∃ w, Gr bh (RV.beg bh N E) n m w
  | 0, m, _ => ⟨[m], rfl⟩
  | n + 1, m, h => by
    obtain ⟨_, c, h1, h2⟩ := mem_beg.mp h
    have lst : ∀ (l : List Int), l ≠ [] → ∃ x ∈ l, ∀ y ∈ l, x ≤ y := by
      intro l
      induction l with
      | nil => intro z; exact absurd rfl z
      | cons a l ih =>
        intro _
        by_cases e : l = []
        · subst e
          exact ⟨a, List.mem_singleton.mpr rfl, fun y hy => by rw [List.mem_singleton.mp hy]; exact Int.le_refl _⟩
        · obtain ⟨x, x1, x2⟩ := ih e
          rcases Int.le_total a x with z | z
          · exact ⟨a, List.mem_cons_self, fun y hy => by
              rcases List.mem_cons.mp hy with rfl | y1
              · exact Int.le_refl _
              · exact Int.le_trans z (x2 y y1)⟩
          · exact ⟨x, List.mem_cons_of_mem _ x1, fun y hy => by
              rcases List.mem_cons.mp hy with rfl | y1
              · exact z
              · exact x2 y y1⟩
    obtain ⟨x, x1, x2⟩ := lst ((bh m).filter fun y => decide (y ∈ RV.beg bh N E n)) (fun z => by
      have : c ∈ (bh m).filter fun y => decide (y ∈ RV.beg bh N E n) := List.mem_filter.mpr ⟨h1, decide_eq_true h2⟩
      rw [z] at this; cases this)
    obtain ⟨x3, x4⟩ := List.mem_filter.mp x1
    have x4 := of_decide_eq_true x4
    obtain ⟨w, hw⟩ := ex_gr x4
    exact ⟨m :: w, x, w, rfl, x3, x4, fun y y1 y2 => x2 y (List.mem_filter.mpr ⟨y1, decide_eq_true y2⟩), hw⟩
/-- the last mark -/
def la (w : List Int) : Int := w.getLast?.getD 0
theorem la_add (w : List Int) (c : Int) : la (w ++ [c]) = c := by unfold la; simp
theorem WkL.snoc {o d : Int} : ∀ {n : Nat} {m : Int} {w : List Int}, WkL bh n m o w → d ∈ bh o → WkL bh (n + 1) m d (w ++ [d])
  | 0, m, w, h, hd => by
    obtain ⟨rfl, rfl⟩ := h
    exact ⟨d, [d], rfl, hd, rfl, rfl⟩
  | n + 1, m, w, h, hd => by
    obtain ⟨c, w', rfl, h1, h2⟩ := h
    exact ⟨c, w' ++ [d], rfl, h1, h2.snoc hd⟩
theorem WkL.unsnoc {d : Int} : ∀ {n : Nat} {m : Int} {w : List Int}, WkL bh (n + 1) m d w → ∃ o v, WkL bh n m o v ∧ d ∈ bh o ∧ w = v ++ [d]
  | 0, m, w, h => by
    obtain ⟨c, w', rfl, h1, h2, rfl⟩ := h
    exact ⟨m, [m], ⟨rfl, rfl⟩, h1, by rw [h2]; rfl⟩
  | n + 1, m, w, h => by
    obtain ⟨c, w', rfl, h1, h2⟩ := h
    obtain ⟨o, v, k1, k2, rfl⟩ := h2.unsnoc
    exact ⟨o, m :: v, ⟨c, v, rfl, h1, k1⟩, k2, rfl⟩
theorem WkL.la : ∀ {n : Nat} {m o : Int} {w : List Int}, WkL bh n m o w → RV.la w = o
  | 0, m, o, w, h => by rw [h.1, h.2]; rfl
  | n + 1, m, o, w, h => by
    obtain ⟨c, v, _, _, rfl⟩ := h.unsnoc
    exact la_add _ _
theorem WkL.len : ∀ {n : Nat} {m o : Int} {w : List Int}, WkL bh n m o w → w.length = n + 1
  | 0, m, o, w, h => by rw [h.1]; rfl
  | n + 1, m, o, w, h => by
    obtain ⟨c, v, rfl, _, h2⟩ := h
    rw [List.length_cons, h2.len]
/-- all walks of so many steps from m, gone through -/
def alw (bh : Int → List Int) (m : Int) : Nat → List (List Int)
  | 0 => [[m]]
  | n + 1 => (alw bh m n).flatMap fun w => (bh (la w)).map fun c => w ++ [c]
theorem mem_alw {m : Int} : ∀ {n : Nat} {w : List Int}, w ∈ alw bh m n ↔ ∃ o, WkL bh n m o w
  | 0, w => by
    show w ∈ [[m]] ↔ _
    rw [List.mem_singleton]
    exact ⟨fun h => ⟨m, h, rfl⟩, fun ⟨o, h, _⟩ => h⟩
  | n + 1, w => by
    show w ∈ (alw bh m n).flatMap _ ↔ _
    rw [List.mem_flatMap]
    constructor
    · rintro ⟨v, h1, h2⟩
      obtain ⟨o, ho⟩ := mem_alw.mp h1
      obtain ⟨c, c1, rfl⟩ := List.mem_map.mp h2
      rw [ho.la] at c1
      exact ⟨c, ho.snoc c1⟩
    · rintro ⟨d, hd⟩
      obtain ⟨o, v, k1, k2, rfl⟩ := hd.unsnoc
      refine ⟨v, mem_alw.mpr ⟨o, k1⟩, List.mem_map.mpr ⟨d, ?_, rfl⟩⟩
      rw [k1.la]; exact k2
theorem alw_len {m : Int} {b : Nat} (hb : ∀ x, (bh x).length ≤ b) : ∀ n, (alw bh m n).length ≤ b ^ n
  | 0 => Nat.le_refl _
  | n + 1 => by
    show ((alw bh m n).flatMap _).length ≤ _
    have h : ∀ L : List (List Int), (L.flatMap fun w => (bh (la w)).map fun c => w ++ [c]).length ≤ L.length * b := by
      intro L
      induction L with
      | nil => simp
      | cons w L ih =>
        rw [List.flatMap_cons, List.length_append, List.length_map, List.length_cons, Nat.succ_mul]
        have := hb (la w)
        omega
    exact Nat.le_trans (h _) (by rw [Nat.pow_succ]; exact Nat.mul_le_mul (alw_len hb n) (Nat.le_refl _))
end
end RV
namespace RV
open PySem PySem.Spec PyProof.Rows L2
/-! ### what repr asks of tuples of pairs -/
theorem small_log {i : Int} (h : i.natAbs < 10 ^ 12) : i.natAbs.log2 < 1920 := by
  rcases Nat.eq_zero_or_pos i.natAbs with e | e
  · rw [e]; decide
  · have h1 : i.natAbs < 2 ^ 64 := Nat.lt_of_lt_of_le h (by decide)
    have h2 : i.natAbs.log2 < 64 := (Nat.log2_lt (by omega)).mpr h1
    omega
theorem show_ints : ∀ ns : List Int, (∀ n ∈ ns, n.natAbs < 10 ^ 12) → PyData.showableAll (ns.map PyData.int) = true
  | [], _ => by simp [PyData.showableAll]
  | n :: r, h => by
    have h1 := small_log (h n (List.mem_cons_self ..))
    have h2 := show_ints r fun m hm => h m (List.mem_cons_of_mem _ hm)
    simp [PyData.showableAll, PyData.showable, h1, h2]
theorem show_dIs : ∀ ps : List (List Int), (∀ p ∈ ps, ∀ n ∈ p, n.natAbs < 10 ^ 12) → PyData.showableAll (ps.map dI) = true
  | [], _ => by simp [PyData.showableAll]
  | p :: r, h => by
    have h1 := show_ints p (h p (List.mem_cons_self ..))
    have h2 := show_dIs r fun m hm => h m (List.mem_cons_of_mem _ hm)
    have h3 : (dI p).showable = true := by simp only [dI, PyData.showable]; exact h1
    simp [PyData.showableAll, h3, h2]
theorem short_dIs : ∀ ps : List (List Int), (∀ p ∈ ps, ∀ n ∈ p, n.natAbs < 10 ^ 12) → PyData.intsShortAll 13 (ps.map dI) = true
  | [], _ => by simp [PyData.intsShortAll]
  | p :: r, h => by
    have h1 := PyData.intsShortAll_ints p (h p (List.mem_cons_self ..))
    have h2 := short_dIs r fun m hm => h m (List.mem_cons_of_mem _ hm)
    have h3 : (dI p).intsShort 13 = true := by simp only [dI, PyData.intsShort]; exact h1
    simp [PyData.intsShortAll, h3, h2]
theorem bulk_ints : ∀ ns : List Int, PyData.bulkAll (ns.map PyData.int) = ns.length
  | [] => by simp [PyData.bulkAll]
  | n :: r => by simp [PyData.bulkAll, PyData.bulk, bulk_ints r]; omega
theorem bulk_dIs : ∀ ps : List (List Int), (∀ p ∈ ps, p.length ≤ 2) → PyData.bulkAll (ps.map dI) ≤ 3 * ps.length
  | [], _ => by simp [PyData.bulkAll]
  | p :: r, h => by
    have h1 : (dI p).bulk = p.length := by simp only [dI, PyData.bulk, bulk_ints]
    have h2 := bulk_dIs r fun m hm => h m (List.mem_cons_of_mem _ hm)
    have h3 := h p (List.mem_cons_self ..)
    simp only [List.map_cons, PyData.bulkAll, h1, List.length_cons]
    omega
/-- (ps, os), two tuples of pairs -/
def d2 (ps os : List (List Int)) : PyData := .tuple [dTT ps, dTT os]
theorem pr_small {b : Int} (hb : b ≤ 64) {ps : List (List Int)} (h : ∀ p ∈ ps, Pr b p) : ∀ p ∈ ps, ∀ n ∈ p, n.natAbs < 10 ^ 12 := fun p hp n hn => by
  obtain ⟨x, y, rfl, hx, hy⟩ := h p hp
  simp only [List.mem_cons, List.not_mem_nil, or_false] at hn
  rcases hn with rfl | rfl <;> omega
theorem pr_len {b : Int} {ps : List (List Int)} (h : ∀ p ∈ ps, Pr b p) : ∀ p ∈ ps, p.length ≤ 2 := fun p hp => by
  obtain ⟨x, y, rfl, _⟩ := h p hp
  simp
structure Reprs (ps os : List (List Int)) : Prop where
  h1 : (d2 ps os).showable = true
  h2 : (d2 ps os).hasDict = false
  h3 : (d2 ps os).depth ≤ 64
  h4 : (d2 ps os).shown.length ≤ sizeLine
theorem reprs {b c : Int} (hb : b ≤ 64) (hc : c ≤ 64) {ps os : List (List Int)} (h : ∀ p ∈ ps, Pr b p) (h' : ∀ p ∈ os, Pr c p) (l1 : ps.length ≤ 1000) (l2 : os.length ≤ 1000) : Reprs ps os := by
  have lay : (d2 ps os).canLay0 = true := by
    simp only [d2, dTT, PyData.canLay0, PyData.canLayAll0, lay_dI, Bool.and_self]
  refine ⟨?_, PyData.hasDict_of_canLay _ lay, ?_, ?_⟩
  · simp only [d2, dTT, PyData.showable, PyData.showableAll, show_dIs ps (pr_small hb h), show_dIs os (pr_small hc h'), Bool.and_self]
  · have h1 := dep_dI ps
    have h2 := dep_dI os
    simp only [d2, dTT, PyData.depth, PyData.depthAll]
    omega
  · refine PyData.shown_fits_bulk (B := 13) (by decide) (by decide) (PyData.leavesShort_of_canLay0 13 _ lay ?_) ?_
    · simp only [d2, dTT, PyData.intsShort, PyData.intsShortAll, short_dIs ps (pr_small hb h), short_dIs os (pr_small hc h'), Bool.and_self]
    · have h1 := bulk_dIs ps (pr_len h)
      have h2 := bulk_dIs os (pr_len h')
      simp only [d2, dTT, PyData.bulk, PyData.bulkAll]
      omega
theorem d2_dp {K : PySem.W.Frag} {H : Hp} {T a b : Addr} {ps os : List (List Int)} (h : H T = some (.tup [.ref a, .ref b])) (h1 : Tups K H a ps) (h2 : Tups K H b os) : Dp K H (.ref T) (d2 ps os) :=
  .tup (.inl (.inl h)) (.cons h1.dp (.cons h2.dp .nil))
end RV
namespace RV
open PySem PySem.Spec PyProof.Rows L2
/-- (ns, ps): mirrors and steps -/
def d1 (ns : List Int) (ps : List (List Int)) : PyData := .tuple [dI ns, dTT ps]
structure Shows (d : PyData) : Prop where
  h1 : d.showable = true
  h2 : d.hasDict = false
  h3 : d.depth ≤ 64
  h4 : d.shown.length ≤ sizeLine
theorem shows_d1 {b : Int} (hb : b ≤ 64) {ns : List Int} {ps : List (List Int)} (hn : ∀ n ∈ ns, n.natAbs < 10 ^ 12) (ln : ns.length ≤ 1000) (h : ∀ p ∈ ps, Pr b p) (l1 : ps.length ≤ 1000) : Shows (d1 ns ps) := by
  have lay : (d1 ns ps).canLay0 = true := by
    simp only [d1, dTT, PyData.canLay0, PyData.canLayAll0, lay_dI, dI_lay, Bool.and_self]
  have i1 : (dI ns).showable = true := by simp only [dI, PyData.showable]; exact show_ints ns hn
  have i2 : (dI ns).intsShort 13 = true := by simp only [dI, PyData.intsShort]; exact PyData.intsShortAll_ints ns hn
  have i3 : (dI ns).bulk = ns.length := by simp only [dI, PyData.bulk, bulk_ints]
  refine ⟨?_, PyData.hasDict_of_canLay _ lay, ?_, ?_⟩
  · simp only [d1, dTT, PyData.showable, PyData.showableAll, i1, show_dIs ps (pr_small hb h), Bool.and_self]
  · have h1 := dep_dI ps
    simp only [d1, dTT, PyData.depth, PyData.depthAll, dI_dep]
    omega
  · refine PyData.shown_fits_bulk (B := 13) (by decide) (by decide) (PyData.leavesShort_of_canLay0 13 _ lay ?_) ?_
    · simp only [d1, dTT, PyData.intsShort, PyData.intsShortAll, i2, short_dIs ps (pr_small hb h), Bool.and_self]
    · have h1 := bulk_dIs ps (pr_len h)
      simp only [d1, dTT, PyData.bulk, PyData.bulkAll, i3]
      omega
theorem shows_dI {ns : List Int} (hn : ∀ n ∈ ns, n.natAbs < 10 ^ 12) (ln : ns.length ≤ 1000) : Shows (dI ns) := by
  have i3 : (dI ns).bulk = ns.length := by simp only [dI, PyData.bulk, bulk_ints]
  refine ⟨by simp only [dI, PyData.showable]; exact show_ints ns hn, PyData.hasDict_of_canLay _ (dI_lay ns), by rw [dI_dep]; decide, ?_⟩
  refine PyData.shown_fits_bulk (B := 13) (by decide) (by decide) (PyData.leavesShort_of_canLay0 13 _ (dI_lay ns) ?_) (by rw [i3]; omega)
  simp only [dI, PyData.intsShort]; exact PyData.intsShortAll_ints ns hn
theorem d1_dp {K : PySem.W.Frag} {H : Hp} {T a b : Addr} {ns : List Int} {ps : List (List Int)} (h : H T = some (.tup [.ref a, .ref b])) (h1 : SqT K H a (ns.map V.int)) (h2 : Tups K H b ps) : Dp K H (.ref T) (d1 ns ps) :=
  .tup (.inl (.inl h)) (.cons (dpT h1) (.cons h2.dp .nil))
theorem shaped_d1 (ns : List Int) (ps : List (List Int)) : SeqAt.shaped (d1 ns ps) = true := by
  have h1 := dep_dI ps
  have e : (d1 ns ps).depth ≤ 64 := by simp only [d1, dTT, PyData.depth, PyData.depthAll, dI_dep]; omega
  show ((d1 ns ps).canLay0 && decide ((d1 ns ps).depth ≤ 64)) = true
  rw [decide_eq_true e, Bool.and_true]
  simp only [d1, dTT, PyData.canLay0, PyData.canLayAll0, lay_dI, dI_lay, Bool.and_self]
theorem eqv_d1 (ns ms : List Int) (ps qs : List (List Int)) : PyData.eqv (d1 ns ps) (d1 ms qs) = (decide (ns = ms) && decide (ps = qs)) := by
  simp only [d1, PyData.eqv, PyData.eqvAll, eqvI, eqvTT, Bool.and_true]
end RV
set_option maxHeartbeats 4000000
namespace RV
open PySem PySem.Spec PyProof.Rows L2
section
variable {X : Cx}
/-- ts.index(t), tuples of ints in a tuple -/
def rIndexTs (K : PySem.W.Frag) : V → List V → Hp → VK → Prop := fun x xs H Q => ∃ (a b : Addr) (ps : List (List Int)) (p : List Int) (j : Nat), x = V.ref a ∧ xs = [V.ref b] ∧ Tups K H a ps ∧ SqT K H b (p.map V.int) ∧ ps[j]? = some p ∧ (∀ m, m < j → ps[m]? ≠ some p) ∧ Q (.int (j : Nat)) H
theorem mt_indexTs (hu : X.A.units + 65 < cLine) : MtR X "tuple.index" (rIndexTs X.K) := by
  intro pins s σ H x xs v us Q I rx rxs h
  obtain ⟨a, b, ps, p, j, rfl, rfl, hT, hb, hj, hno, q⟩ := h
  cases rx
  obtain ⟨u, rfl, ru⟩ := vals1 rxs
  cases ru
  obtain ⟨bs, r1⟩ := Dp.reads I (dI p) (.ref b) (.ref b) (dpT hb) rfl
  have lay := lay_dI ps
  have room : X.A.units + 1 + min (PyData.depthAll (ps.map dI)) (dI p).depth < cLine := by
    have := Nat.min_le_right (PyData.depthAll (ps.map dI)) (dI p).depth
    have e := dI_dep p
    omega
  obtain ⟨ks, rfl, hs, hks⟩ := hT
  obtain ⟨its, rv, ⟨⟨cls, dd, dat, sls⟩, ho, hc, n, hd⟩, hlen⟩ := I.tuple hs
  simp only at hc hd
  subst hc hd
  obtain ⟨as, rall⟩ := Dp.readsAll I ((ks.map (·.2)).map dI) _ its (dpTs ks hks) rv
  have ln : its.length = ((ks.map (·.2)).map dI).length := SeqAt.ReadsAll.length _ its as rall
  have mp : its.map (SeqAt.readOf s.heap) = (ks.map (·.2)).map dI := SeqAt.readsAll_map _ its as lay rall
  have jl : j < its.toArray.size := by
    have := (List.getElem?_eq_some_iff.mp hj).1
    rw [List.size_toArray, ln, List.length_map]; exact this
  have at_ : ∀ (m : Nat) (hm : m < its.toArray.size), ∃ z, (ks.map (·.2))[m]? = some z ∧ SeqAt.readOf s.heap its.toArray[m] = dI z := fun m hm => by
    have hm2 : m < (ks.map (·.2)).length := by rw [List.size_toArray, ln, List.length_map] at hm; exact hm
    refine ⟨_, List.getElem?_eq_getElem hm2, ?_⟩
    have e : (its.map (SeqAt.readOf s.heap))[m]? = some (dI (ks.map (·.2))[m]) := by rw [mp, List.getElem?_map, List.getElem?_eq_getElem hm2]; rfl
    have hml : m < its.length := by simpa using hm
    rw [List.getElem?_map, List.getElem?_eq_getElem hml] at e
    have e' := Option.some.inj e
    simpa using e'
  refine call_meets PySem.F.slot_tuple_index ⟨_, ho, rfl⟩ PySem.F.entry_tuple_index (PySem.F.args_tuple_index_2 _ _) (TI.tuple_indexAt a its.toArray n dd sls (.ref b) (fun y => PyData.eqv (SeqAt.readOf s.heap y) (dI p)) j jl ?_ ?_)
    ⟨ho, SeqAt.items_eqAt (vs := its.toArray) (show ReadsAll s.heap its.toArray.toList _ as from rall) r1 lay (dI_lay p) room, ⟨.int (j : Nat), H, I.tok _, ⟨_, rfl⟩, q⟩⟩
  · obtain ⟨z, e1, e2⟩ := at_ j jl
    rw [hj] at e1
    cases e1
    show PyData.eqv (SeqAt.readOf s.heap its.toArray[j]) (dI p) = true
    rw [e2, eqvI]
    exact decide_eq_true rfl
  · intro m hm hmj
    obtain ⟨z, e1, e2⟩ := at_ m hm
    show PyData.eqv (SeqAt.readOf s.heap its.toArray[m]) (dI p) = false
    rw [e2, eqvI]
    exact decide_eq_false fun e => hno m hmj (by rw [e1, e])
/-- repr(None), repr of a whole number -/
def rReprO : List V → Hp → VK → Prop := fun xs H Q => (∃ i : Int, xs = [.int i] ∧ i.natAbs.log2 < 1920 ∧ Q (.str (toString i)) H) ∨ (xs = [.non] ∧ Q (.str "None") H)
theorem call_reprO : CallR X (.builtin "repr") rReprO := by
  intro pins s σ H xs us Q I r h
  rcases h with h | ⟨rfl, q⟩
  · exact SkE.call_repr_int pins s σ H xs us Q I r h
  · obtain ⟨u, rfl, rx⟩ := vals1 r
    cases (show u = Value.none from rx)
    exact PySem.P.repr_of_none ⟨.str "None", H, I.tok _, ⟨_, rfl⟩, q⟩
theorem op_neDK {K : PySem.W.Frag} (h : X.K = K) (hu : X.A.units + 64 < cLine) : OpR X (compareOp .NotEq) (rNeD K) := h ▸ op_neD hu
end
theorem bulk_any : ∀ (ps : List (List Int)) (k : Nat), (∀ p ∈ ps, p.length ≤ k) → PyData.bulkAll (ps.map dI) ≤ (k + 1) * ps.length
  | [], k, _ => by simp [PyData.bulkAll]
  | p :: r, k, h => by
    have h1 : (dI p).bulk = p.length := by simp only [dI, PyData.bulk, bulk_ints]
    have h2 := bulk_any r k fun m hm => h m (List.mem_cons_of_mem _ hm)
    have h3 := h p (List.mem_cons_self ..)
    simp only [List.map_cons, PyData.bulkAll, h1, List.length_cons, Nat.mul_succ]
    omega
theorem shows_dTT {ps : List (List Int)} (hn : ∀ p ∈ ps, ∀ n ∈ p, n.natAbs < 10 ^ 12) (h1 : ∀ p ∈ ps, p.length ≤ 8) (h2 : ps.length ≤ 64) : Shows (dTT ps) := by
  have lay : (dTT ps).canLay0 = true := by simp only [dTT, PyData.canLay0]; exact lay_dI ps
  refine ⟨by simp only [dTT, PyData.showable]; exact show_dIs ps hn, PyData.hasDict_of_canLay _ lay, ?_, ?_⟩
  · have h := dep_dI ps
    simp only [dTT, PyData.depth]; omega
  · refine PyData.shown_fits_bulk (B := 13) (by decide) (by decide) (PyData.leavesShort_of_canLay0 13 _ lay ?_) ?_
    · simp only [dTT, PyData.intsShort]; exact short_dIs ps hn
    · have b := bulk_any ps 8 h1
      simp only [dTT, PyData.bulk]
      omega
/-! ### lots in order -/
end RV
set_option maxHeartbeats 4000000
namespace RV
open PySem PySem.Spec PyProof.Rows L2
theorem shows_dI7 {ns : List Int} (hn : ∀ n ∈ ns, n.natAbs < 10 ^ 12) (ln : ns.length ≤ 7000) : Shows (dI ns) := by
  have i3 : (dI ns).bulk = ns.length := by simp only [dI, PyData.bulk, bulk_ints]
  refine ⟨by simp only [dI, PyData.showable]; exact show_ints ns hn, PyData.hasDict_of_canLay _ (dI_lay ns), by rw [dI_dep]; decide, ?_⟩
  refine PyData.shown_fits_bulk (B := 13) (by decide) (by decide) (PyData.leavesShort_of_canLay0 13 _ (dI_lay ns) ?_) (by rw [i3]; omega)
  simp only [dI, PyData.intsShort]; exact PyData.intsShortAll_ints ns hn
section
variable {X : Cx}
/-- repr of a tuple or of None -/
def rReprT (K : PySem.W.Frag) : List V → Hp → VK → Prop := fun xs H Q => (∃ (a : Addr) (ns : List Int), xs = [.ref a] ∧ SqT K H a (ns.map V.int) ∧ Shows (dI ns) ∧ Q (.str (dI ns).shown) H) ∨ (xs = [.non] ∧ Q (.str "None") H)
theorem call_reprT (gd : X.A.guards = some []) (hu : X.A.units + 65 < cLine) : CallR X (.builtin "repr") (rReprT X.K) := by
  intro pins s σ H xs us Q I r h
  rcases h with ⟨a, ns, e, hT, sh, q⟩ | ⟨rfl, q⟩
  · exact call_reprD gd hu pins s σ H xs us Q I r ⟨a, dI ns, e, dpT hT, sh.h1, sh.h2, sh.h3, sh.h4, q⟩
  · obtain ⟨u, rfl, rx⟩ := vals1 r
    cases (show u = Value.none from rx)
    exact PySem.P.repr_of_none ⟨.str "None", H, I.tok _, ⟨_, rfl⟩, q⟩
end
/-- unlike numbers below n are at most n -/
theorem few_below : ∀ {n : Nat} {l : List Int}, l.Nodup → (∀ x ∈ l, 0 ≤ x ∧ x < (n : Int)) → l.length ≤ n
  | 0, l, _, h => by
    cases l with
    | nil => exact Nat.le_refl _
    | cons x l => have := h x List.mem_cons_self; omega
  | n + 1, l, nd, h => by
    have nd2 : (l.erase (n : Int)).Nodup := nd.erase _
    have h2 : ∀ x ∈ l.erase (n : Int), 0 ≤ x ∧ x < (n : Int) := fun x hx => by
      have h3 := (List.Nodup.mem_erase_iff nd).mp hx
      have h4 := h x h3.2
      have h5 := h3.1
      omega
    have z := few_below nd2 h2
    rw [List.length_erase] at z
    split at z
    · omega
    · rename_i hno
      omega
end RV
set_option maxHeartbeats 4000000
/-! walks of so many steps, and tables of where they end -/
namespace RV
open PySem PySem.Spec PyProof.Rows L2
section
variable {bh : Int → List Int} {N : Nat}
/-- so many steps lead from the one to the other -/
def lk (bh : Int → List Int) : Nat → Int → Int → Prop
  | 0, a, b => a = b
  | n + 1, a, b => ∃ c, c ∈ bh a ∧ lk bh n c b
theorem lk_add {n : Nat} {b : Int} : ∀ {m : Nat} {a : Int}, lk bh (m + n) a b ↔ ∃ c, lk bh m a c ∧ lk bh n c b
  | 0, a => by
    rw [Nat.zero_add]
    exact ⟨fun h => ⟨a, rfl, h⟩, fun ⟨c, h1, h2⟩ => by rw [show a = c from h1]; exact h2⟩
  | m + 1, a => by
    rw [show m + 1 + n = (m + n) + 1 by omega]
    constructor
    · rintro ⟨c, h1, h2⟩
      obtain ⟨d, h3, h4⟩ := lk_add.mp h2
      exact ⟨d, ⟨c, h1, h3⟩, h4⟩
    · rintro ⟨d, ⟨c, h1, h3⟩, h4⟩
      exact ⟨c, h1, lk_add.mpr ⟨d, h3, h4⟩⟩
theorem lk_one {a b : Int} : lk bh 1 a b ↔ b ∈ bh a :=
  ⟨fun ⟨c, h1, h2⟩ => by rw [← show c = b from h2]; exact h1, fun h => ⟨b, h, rfl⟩⟩
theorem lk_inn (hb : ∀ m, ∀ c ∈ bh m, 0 ≤ c ∧ c < (N : Int)) {b : Int} : ∀ {n : Nat} {a : Int}, lk bh n a b → (0 ≤ a ∧ a < (N : Int)) → 0 ≤ b ∧ b < (N : Int)
  | 0, a, h, ha => by rw [← show a = b from h]; exact ha
  | n + 1, a, ⟨c, h1, h2⟩, _ => lk_inn hb h2 (hb a c h1)
theorem beg_lk (hb : ∀ m, ∀ c ∈ bh m, 0 ≤ c ∧ c < (N : Int)) {b : Int} : ∀ {n : Nat} {a : Int}, (0 ≤ a ∧ a < (N : Int)) → (a ∈ beg bh N [b] n ↔ lk bh n a b)
  | 0, a, _ => by show a ∈ [b] ↔ a = b; rw [List.mem_singleton]
  | n + 1, a, ha => by
    rw [mem_beg]
    exact ⟨fun ⟨_, c, h1, h2⟩ => ⟨c, h1, (beg_lk hb (hb a c h1)).mp h2⟩, fun ⟨c, h1, h2⟩ => ⟨ha, c, h1, (beg_lk hb (hb a c h1)).mpr h2⟩⟩
end
/-- a tuple of rising tuples: x in the row of i just where f i x -/
def Tab (K : PySem.W.Frag) (H : Hp) (t : Addr) (N : Nat) (f : Int → Int → Prop) : Prop := ∃ as : List Addr, SqT K H t (as.map V.ref) ∧ as.length = N ∧
  ∀ (i : Nat) (a : Addr), as[i]? = some a → ∃ xs : List Int, SqT K H a (xs.map V.int) ∧ xs.Pairwise (· < ·) ∧ (∀ x ∈ xs, 0 ≤ x ∧ x < (N : Int)) ∧ ∀ x, x ∈ xs ↔ f (i : Int) x
theorem Tab.same {K : PySem.W.Frag} {H H' : Hp} {t : Addr} {N : Nat} {f : Int → Int → Prop} (h : Tab K H t N f) (s : Same H H') : Tab K H' t N f := by
  obtain ⟨as, h1, h2, h3⟩ := h
  exact ⟨as, sqT_same s h1, h2, fun i a e => (h3 i a e).imp fun xs q => ⟨sqT_same s q.1, q.2⟩⟩
theorem Tab.congr {K : PySem.W.Frag} {H : Hp} {t : Addr} {N : Nat} {f g : Int → Int → Prop} (h : Tab K H t N f) (e : ∀ i x : Int, 0 ≤ i → i < (N : Int) → (f i x ↔ g i x)) : Tab K H t N g := by
  obtain ⟨as, h1, h2, h3⟩ := h
  refine ⟨as, h1, h2, fun i a ea => ?_⟩
  obtain ⟨xs, q1, q2, q3, q4⟩ := h3 i a ea
  have hi := (List.getElem?_eq_some_iff.mp ea).1
  exact ⟨xs, q1, q2, q3, fun x => (q4 x).trans (e i x (by omega) (by omega))⟩
theorem Tab.at {K : PySem.W.Frag} {H : Hp} {t : Addr} {N : Nat} {f : Int → Int → Prop} (h : Tab K H t N f) {m : Int} (h0 : 0 ≤ m) (h1 : m < (N : Int)) : ∃ (vs : List V) (a : Addr) (xs : List Int), SqT K H t vs ∧ atI vs m = some (.ref a) ∧ SqT K H a (xs.map V.int) ∧ xs.Pairwise (· < ·) ∧ (∀ x ∈ xs, 0 ≤ x ∧ x < (N : Int)) ∧ ∀ x, x ∈ xs ↔ f m x := by
  obtain ⟨as, q1, q2, q3⟩ := h
  have hm : m.toNat < as.length := by omega
  have e : ((m.toNat : Nat) : Int) = m := Int.toNat_of_nonneg h0
  obtain ⟨xs, z1, z2, z3, z4⟩ := q3 m.toNat _ (List.getElem?_eq_getElem hm)
  rw [e] at z4
  refine ⟨_, as[m.toNat], xs, q1, ?_, z1, z2, z3, z4⟩
  have := atI_nat (xs := as.map V.ref) (j := m.toNat) (v := .ref as[m.toNat]) (by rw [List.getElem?_map, List.getElem?_eq_getElem hm]; rfl)
  rw [e] at this; exact this
theorem rise_nodup {xs : List Int} (h : xs.Pairwise (· < ·)) : xs.Nodup := h.imp fun {a b} z e => by omega
section
variable {X : Cx} {K : PySem.W.Frag} {w : World}
theorem pe_tupleOfK {a : Expr} {ta : TE} {p pos : Pos} (h : X.K = K) (hg : Gl X "tuple") (hm : X.mg "tuple" = none) (ha : PE X a ta) (na : starEach [a] X.env = (false, eval a X.env) :: starEach [] X.env := by rfl) :
    PE X (.Call (.Name "tuple" p) [a] [] pos) (tThen ta (kTup K)) := h ▸ pe_tupleOf hg hm ha na
theorem cr_sortedSetW (h : X.w = w) (hc : X.calm = true) : CallR X (.builtin "sorted") (rSortedSet w) := h ▸ cr_sortedSet hc
theorem pe_sc2W {el ta ia t1 ib : Expr} {sco : Scope} {own : List (PySem.Str × Nat)} {vs1 : List Nat} {pp : Pos} {wi wi1 : TI} {g g1 : TG} {te : TE} (h : X.w = w) (hc : X.calm = true) (hN : X.N.Nodup) (hi : PI X ta ia wi) (ok : BlkOk X.N X.env.scope sco own) (hv : ∀ i ∈ vs1, i ∈ own.map (·.2))
    (hg : ∀ s H C cl fp, PG (X.blk s H sco (compEnvC sco cl C X.env) fp) ta g) (hi1 : ∀ s H C cl fp, PI (X.blk s H sco (compEnvC sco cl C X.env) fp) t1 ib wi1) (hg1 : ∀ s H C cl fp, PG (X.blk s H sco (compEnvC sco cl C X.env) fp) t1 g1)
    (he : ∀ s H C cl fp, PE (X.blk s H sco (compEnvC sco cl C X.env) fp) el te) (hs : ∀ x, foldedSetIterable ia X.env x = pure x := by intro _; rfl) (hs1 : ∀ env x, foldedSetIterable ib env x = pure x := by intro _ _; rfl) :
    PE X (.SetComp el [⟨ta, ia, [], 0⟩, ⟨t1, ib, [], 0⟩] sco pp) (tS2 w wi g wi1 g1 te (own.map (·.2)) vs1) := h ▸ pe_sc2 hc hN hi ok hv hg hi1 hg1 he hs hs1
end
/-- a loop over a tuple that its turns leave as it is -/
theorem it_tup {K : PySem.W.Frag} {a : Addr} {xs : List V} {H0 : Hp} {Fin : Hp → Prop} {Bd : V → Hp → (Hp → Prop) → Prop} (Pv : Nat → Hp → Prop) (h0 : Pv 0 H0) (hl : ∀ i H, i ≤ xs.length → Pv i H → SqT K H a xs)
    (hs : ∀ i x H, xs[i]? = some x → Pv i H → Bd x H (Pv (i + 1))) (hd : ∀ H, Pv xs.length H → Fin H) :
    ∃ W : Nat → Nat → Hp → Prop, (∃ m, W 0 m H0) ∧ ∀ i m H, W i m H → ((Itt K a).stop i H ∧ Fin H) ∨ ((Itt K a).go i H ∧ ∃ Nx : Hp → Prop, (∀ H', Nx H' → ∃ m', m' < m ∧ W (i + 1) m' H') ∧ ∀ x H', (Itt K a).yld i H x H' → Bd x H' Nx) := by
  refine ⟨fun i m H => i ≤ xs.length ∧ m + i = xs.length ∧ Pv i H, ⟨xs.length, Nat.zero_le _, rfl, h0⟩, fun i m H ⟨hi, hm, hp⟩ => ?_⟩
  have hq := hl i H hi hp
  rcases Nat.lt_or_ge i xs.length with z | z
  · refine .inr ⟨⟨xs, xs[i], hq, List.getElem?_eq_getElem z⟩, Pv (i + 1), fun H' p' => ⟨m - 1, by omega, z, by omega, p'⟩, fun x H' y => ?_⟩
    obtain ⟨rfl, y⟩ := y
    exact hs i x _ (y xs hq) hp
  · obtain rfl : i = xs.length := by omega
    exact .inl ⟨⟨xs, hq, Nat.le_refl _⟩, hd H hp⟩
/-- a set that has just these -/
def SetL (w : World) (H : Hp) (D : Addr) (ls : List Int) : Prop := ∃ S : Int → Bool, H D = some (SetO w D S ls.length) ∧ ls.Nodup ∧ ∀ k, S k = true ↔ k ∈ ls
theorem SetL.nil {w : World} {H : Hp} {D : Addr} : SetL w (upd H D (SetO w D (fun _ => false) 0)) D [] := ⟨_, upd_same, List.nodup_nil, fun k => by simp⟩
theorem SetL.add {w : World} {H : Hp} {D : Addr} {ls : List Int} (h : SetL w H D ls) (c : Int) (room : ls.length ≤ 1000) : ∃ (S : Int → Bool) (n : Nat), H D = some (SetO w D S n) ∧ n + 1 < scanBound ∧ ∃ ls', SetL w (upd H D (SetO w D (fun j => S j || decide (j = c)) (if S c = true then n else n + 1))) D ls' ∧ ∀ k, k ∈ ls' ↔ k ∈ ls ∨ k = c := by
  obtain ⟨S, h1, h2, h3⟩ := h
  refine ⟨S, ls.length, h1, by show ls.length + 1 < 4096; omega, ?_⟩
  by_cases e : S c = true
  · refine ⟨ls, ⟨_, by rw [upd_same, if_pos e], h2, fun k => ?_⟩, fun k => ⟨.inl, fun z => z.elim id fun z => by rw [z]; exact (h3 c).mp e⟩⟩
    rw [Bool.or_eq_true, h3, decide_eq_true_iff]
    exact ⟨fun z => z.elim id fun z => by rw [z]; exact (h3 c).mp e, .inl⟩
  · refine ⟨c :: ls, ⟨_, by rw [upd_same, if_neg e]; rfl, List.nodup_cons.mpr ⟨fun z => e ((h3 c).mpr z), h2⟩, fun k => ?_⟩, fun k => by rw [List.mem_cons, or_comm]⟩
    rw [Bool.or_eq_true, h3, decide_eq_true_iff, List.mem_cons, or_comm]
theorem SetL.same {w : World} {H H' : Hp} {D : Addr} {ls : List Int} (h : SetL w H D ls) (s : Same H H') : SetL w H' D ls := by
  obtain ⟨S, h1, h2⟩ := h
  exact ⟨S, s _ _ h1, h2⟩
theorem sqT_set {w : World} {K : PySem.W.Frag} {H : Hp} {D D' : Addr} {S : Int → Bool} {n : Nat} {o' : HO} (e : H D = some (SetO w D' S n)) {a : Addr} {xs : List V} (h : SqT K H a xs) : SqT K (upd H D o') a xs := by
  rcases h with (h | ⟨o, h⟩) | h
  · exact .inl (.inl (by rw [upd_ne (fun z => by rw [z, e] at h; cases h)]; exact h))
  · exact .inl (.inr ⟨o, by rw [upd_ne (fun z => by rw [z, e] at h; cases h)]; exact h⟩)
  · exact .inr h
end RV
set_option maxHeartbeats 4000000
namespace RV
open PySem PySem.Spec PyProof.Rows L2
/-- [h(x) for x in l], l a list of ints -/
theorem lc_mapL {K : PySem.W.Frag} {te : TE} {h : Int → Int} {σ : L2.St} {H1 : Hp} {a D : Addr} {v : Nat} {ns : List Int} {Qd : Hp → Prop} (hT : SqL K H1 a (ns.map V.int)) (hl : ns.length ≤ 100000) (nD : H1 D = none)
    (hte : ∀ x ∈ ns, ∀ (H' : Hp) (Q : VK), Same H1 H' → (∀ H2, Same H' H2 → Q (.int (h x)) H2) → te ((wipe σ [v]).set v (some (.int x))) H' Q)
    (hd : ∀ H', Same H1 H' → H' D = some (.lst ((ns.map h).map V.int)) → Qd H') :
    ∃ W : Nat → Nat → Hp → Prop, (∃ m, W 0 m (upd H1 D (.lst []))) ∧ ∀ i m H, W i m H →
      ((Itl K a).stop i H ∧ Qd H) ∨ ((Itl K a).go i H ∧ ∃ Nx : Hp → Prop, (∀ H', Nx H' → ∃ m', m' < m ∧ W (i + 1) m' H') ∧ ∀ x H', (Itl K a).yld i H x H' → gName v x (wipe σ [v]) H' fun σ2 H2 => wipe σ2 [v] = wipe σ [v] ∧ tYes σ2 H2 fun b H3 =>
        if b = true then te σ2 H3 fun y H4 => ∃ acc, H4 D = some (.lst acc) ∧ acc.length < sizeLine ∧ Nx (upd H4 D (.lst (acc ++ [y]))) else Nx H3) := by
  refine lc_list (K := K) (a := a) (xs := ns.map V.int) (fun i H' => Same H1 H' ∧ H' D = some (.lst (((ns.take i).map h).map V.int))) ⟨same_upd nD, upd_same⟩ (fun i H' _ p => sqL_same p.1 hT) (fun i x H' hx p => ?_) fun H' p => ?_
  · obtain ⟨k, g, rfl⟩ := map_at hx
    refine ⟨by simp [wipe, List.set_set], tt_yes (hte k (List.mem_of_getElem? g) H' _ p.1 fun H2 s2 => ⟨_, s2 _ _ p.2, ?_, fun b o z => ?_, ?_⟩)⟩
    · rw [List.length_map, List.length_map, List.length_take, sizeLine_eq]; omega
    · rw [upd_ne (ne_of_none z nD)]; exact s2 _ _ (p.1 b o z)
    · rw [upd_same, List.take_add_one, g, List.map_append, List.map_append]; rfl
  · rw [List.length_map, List.take_of_length_le (Nat.le_refl _)] at p
    exact hd H' p.1 p.2
/-- [h(i) for i in range(lo, lo + n)] -/
theorem lc_mapG {te : TE} {h : Int → Int} {σ : L2.St} {H1 : Hp} {D : Addr} {v n : Nat} {lo : Int} {Qd : Hp → Prop} (hl : n ≤ 100000) (nD : H1 D = none)
    (hte : ∀ i, i < n → ∀ (H' : Hp) (Q : VK), Same H1 H' → (∀ H2, Same H' H2 → Q (.int (h (lo + (i : Int)))) H2) → te ((wipe σ [v]).set v (some (.int (lo + (i : Int))))) H' Q)
    (hd : ∀ H', Same H1 H' → H' D = some (.lst (((List.range n).map fun (i : Nat) => h (lo + (i : Int))).map V.int)) → Qd H') :
    ∃ W : Nat → Nat → Hp → Prop, (∃ m, W 0 m (upd H1 D (.lst []))) ∧ ∀ i m H, W i m H →
      ((Itr lo n).stop i H ∧ Qd H) ∨ ((Itr lo n).go i H ∧ ∃ Nx : Hp → Prop, (∀ H', Nx H' → ∃ m', m' < m ∧ W (i + 1) m' H') ∧ ∀ x H', (Itr lo n).yld i H x H' → gName v x (wipe σ [v]) H' fun σ2 H2 => wipe σ2 [v] = wipe σ [v] ∧ tYes σ2 H2 fun b H3 =>
        if b = true then te σ2 H3 fun y H4 => ∃ acc, H4 D = some (.lst acc) ∧ acc.length < sizeLine ∧ Nx (upd H4 D (.lst (acc ++ [y]))) else Nx H3) := by
  refine lc_range (lo := lo) (n := n) (fun i H' => Same H1 H' ∧ H' D = some (.lst (((List.range i).map fun (i : Nat) => h (lo + (i : Int))).map V.int))) ⟨same_upd nD, upd_same⟩ (fun i H' hi p => ?_) fun H' p => hd H' p.1 p.2
  refine ⟨by simp [wipe, List.set_set], tt_yes (hte i hi H' _ p.1 fun H2 s2 => ⟨_, s2 _ _ p.2, ?_, fun b o z => ?_, ?_⟩)⟩
  · rw [List.length_map, List.length_map, List.length_range, sizeLine_eq]; omega
  · rw [upd_ne (ne_of_none z nD)]; exact s2 _ _ (p.1 b o z)
  · rw [upd_same, List.range_succ, List.map_append, List.map_append]; rfl
end RV
set_option maxHeartbeats 4000000
namespace RV
open PySem PySem.Spec PyProof.Rows L2 TL
/-- [.. for x in l], l a list of any values xs, which gives the values ys -/
theorem lc_mapV {K : PySem.W.Frag} {te : TE} {ys : List V} {σ : L2.St} {H1 : Hp} {a D : Addr} {v : Nat} {xs : List V} {Qd : Hp → Prop} (hT : SqL K H1 a xs) (hl : xs.length ≤ 100000) (hy : ys.length = xs.length) (nD : H1 D = none)
    (hte : ∀ (i : Nat) (x y : V), xs[i]? = some x → ys[i]? = some y → ∀ (H' : Hp) (Q : VK), Same H1 H' → (∀ H2, Same H' H2 → Q y H2) → te ((wipe σ [v]).set v (some x)) H' Q)
    (hd : ∀ H', Same H1 H' → H' D = some (.lst ys) → Qd H') :
    ∃ W : Nat → Nat → Hp → Prop, (∃ m, W 0 m (upd H1 D (.lst []))) ∧ ∀ i m H, W i m H →
      ((Itl K a).stop i H ∧ Qd H) ∨ ((Itl K a).go i H ∧ ∃ Nx : Hp → Prop, (∀ H', Nx H' → ∃ m', m' < m ∧ W (i + 1) m' H') ∧ ∀ x H', (Itl K a).yld i H x H' → gName v x (wipe σ [v]) H' fun σ2 H2 => wipe σ2 [v] = wipe σ [v] ∧ tYes σ2 H2 fun b H3 =>
        if b = true then te σ2 H3 fun y H4 => ∃ acc, H4 D = some (.lst acc) ∧ acc.length < sizeLine ∧ Nx (upd H4 D (.lst (acc ++ [y]))) else Nx H3) := by
  refine lc_list (K := K) (a := a) (xs := xs) (fun i H' => Same H1 H' ∧ H' D = some (.lst (ys.take i))) ⟨same_upd nD, upd_same⟩ (fun i H' _ p => sqL_same p.1 hT) (fun i x H' hx p => ?_) fun H' p => ?_
  · have hi : i < xs.length := (List.getElem?_eq_some_iff.mp hx).1
    obtain ⟨y, ey⟩ : ∃ y, ys[i]? = some y := ⟨_, List.getElem?_eq_getElem (by omega)⟩
    refine ⟨by simp [wipe, List.set_set], tt_yes (hte i x y hx ey H' _ p.1 fun H2 s2 => ⟨_, s2 _ _ p.2, ?_, fun b o z => ?_, ?_⟩)⟩
    · rw [List.length_take, sizeLine_eq]; omega
    · rw [upd_ne (ne_of_none z nD)]; exact s2 _ _ (p.1 b o z)
    · rw [upd_same, List.take_add_one, ey]; rfl
  · rw [← hy, List.take_of_length_le (Nat.le_refl _)] at p
    exact hd H' p.1 p.2
/-- [.. for sign in text], all true -/
theorem lc_signs {te : TE} {σ : L2.St} {H1 : Hp} {D : Addr} {v : Nat} {z : Str} {Qd : Hp → Prop} (hl : z.length ≤ 100000) (nD : H1 D = none)
    (hte : ∀ c ∈ tl z, ∀ (H' : Hp) (Q : VK), Same H1 H' → (∀ H2, Same H' H2 → Q (.bl true) H2) → te ((wipe σ [v]).set v (some (.str ⟨#[c]⟩))) H' Q)
    (hd : ∀ H', Same H1 H' → H' D = some (.lst (List.replicate z.length (V.bl true))) → Qd H') :
    ∃ W : Nat → Nat → Hp → Prop, (∃ m, W 0 m (upd H1 D (.lst []))) ∧ ∀ i m H, W i m H →
      ((Its z).stop i H ∧ Qd H) ∨ ((Its z).go i H ∧ ∃ Nx : Hp → Prop, (∀ H', Nx H' → ∃ m', m' < m ∧ W (i + 1) m' H') ∧ ∀ x H', (Its z).yld i H x H' → gName v x (wipe σ [v]) H' fun σ2 H2 => wipe σ2 [v] = wipe σ [v] ∧ tYes σ2 H2 fun b H3 =>
        if b = true then te σ2 H3 fun y H4 => ∃ acc, H4 D = some (.lst acc) ∧ acc.length < sizeLine ∧ Nx (upd H4 D (.lst (acc ++ [y]))) else Nx H3) := by
  have ez : z.cps.size = z.length := rfl
  refine ⟨fun i m H' => i ≤ z.length ∧ m = z.length - i ∧ Same H1 H' ∧ H' D = some (.lst (List.replicate i (V.bl true))), ⟨_, Nat.zero_le _, rfl, same_upd nD, upd_same⟩, fun i m H' p => ?_⟩
  obtain ⟨p1, p2, p3, p4⟩ := p
  by_cases e : i < z.length
  · refine Or.inr ⟨e, fun H' => i + 1 ≤ z.length ∧ Same H1 H' ∧ H' D = some (.lst (List.replicate (i + 1) (V.bl true))), fun H2 q => ⟨z.length - (i + 1), by omega, q.1, rfl, q.2⟩, fun x H2 y => ?_⟩
    obtain ⟨rfl, c, hc, rfl⟩ := y
    refine nx_step ?_
    refine ⟨by simp [wipe, List.set_set], tt_yes (hte c ?_ _ _ p3 fun H3 s3 => ⟨_, s3 _ _ p4, ?_, e, fun b o w => ?_, ?_⟩)⟩
    · exact List.mem_of_getElem? (by rw [Array.getElem?_toList]; exact hc)
    · rw [List.length_replicate, sizeLine_eq]; omega
    · rw [upd_ne (ne_of_none w nD)]; exact s3 _ _ (p3 b o w)
    · rw [upd_same, List.replicate_succ']
  · refine Or.inl ⟨by show z.cps.size ≤ i; rw [ez]; omega, hd H' p3 ?_⟩
    rw [show z.length = i by omega]
    exact p4
end RV
set_option maxHeartbeats 4000000
namespace RV
open PySem PySem.Spec PyProof.Rows L2
/-- a list of tuples of ints, one that is written -/
def TLp (K : PySem.W.Frag) (H : Hp) (F : Addr) (Ls : List (List Int)) : Prop := ∃ ks : List (Addr × List Int), ks.map (·.2) = Ls ∧ H F = some (.lst (ks.map fun q => V.ref q.1)) ∧ ∀ q ∈ ks, SqT K H q.1 (q.2.map V.int)
theorem sqT_over {K : PySem.W.Frag} {H : Hp} {D : Addr} {vs : List V} {o' : HO} (e : H D = some (.lst vs)) {a : Addr} {xs : List V} (h : SqT K H a xs) : SqT K (upd H D o') a xs := by
  rcases h with (h | ⟨o, h⟩) | h
  · exact .inl (.inl (by rw [upd_ne (fun z => by rw [z, e] at h; cases h)]; exact h))
  · exact .inl (.inr ⟨o, by rw [upd_ne (fun z => by rw [z, e] at h; cases h)]; exact h⟩)
  · exact .inr h
theorem TLp.same {K : PySem.W.Frag} {H H' : Hp} {F : Addr} {Ls : List (List Int)} (h : TLp K H F Ls) (s : Same H H') : TLp K H' F Ls := by
  obtain ⟨ks, h1, h2, h3⟩ := h
  exact ⟨ks, h1, s _ _ h2, fun q hq => sqT_same s (h3 q hq)⟩
theorem TLp.nil {K : PySem.W.Frag} {H : Hp} {F : Addr} (h : H F = some (.lst [])) : TLp K H F [] := ⟨[], rfl, h, fun _ z => nomatch z⟩
theorem TLp.put {K : PySem.W.Frag} {H : Hp} {F t : Addr} {ks : List (Addr × List Int)} {w : List Int} (h2 : H F = some (.lst (ks.map fun q => V.ref q.1))) (h3 : ∀ q ∈ ks, SqT K H q.1 (q.2.map V.int)) (ht : SqT K H t (w.map V.int)) :
    TLp K (upd H F (.lst ((ks.map fun q => V.ref q.1) ++ [.ref t]))) F (ks.map (·.2) ++ [w]) := by
  refine ⟨ks ++ [(t, w)], by rw [List.map_append]; rfl, by rw [upd_same, List.map_append]; rfl, fun q hq => sqT_over h2 ?_⟩
  rcases List.mem_append.mp hq with z | z
  · exact h3 q z
  · rcases List.mem_singleton.mp z with rfl
    exact ht
theorem TLp.over {K : PySem.W.Frag} {H : Hp} {F D : Addr} {vs : List V} {o' : HO} {Ls : List (List Int)} (h : TLp K H F Ls) (e : H D = some (.lst vs)) (ne : F ≠ D) : TLp K (upd H D o') F Ls := by
  obtain ⟨ks, h1, h2, h3⟩ := h
  exact ⟨ks, h1, by rw [upd_ne ne]; exact h2, fun q hq => sqT_over e (h3 q hq)⟩
theorem TLp.len {K : PySem.W.Frag} {H : Hp} {F : Addr} {Ls : List (List Int)} (h : TLp K H F Ls) : ∃ xs : List V, H F = some (.lst xs) ∧ xs.length = Ls.length := by
  obtain ⟨ks, h1, h2, h3⟩ := h
  exact ⟨_, h2, by rw [← h1, List.length_map, List.length_map]⟩
theorem TLp.tups {K : PySem.W.Frag} {H : Hp} {F b : Addr} {Ls : List (List Int)} (h : TLp K H F Ls) (n : H b = none) : ∃ xs : List V, H F = some (.lst xs) ∧ Tups K (upd H b (.tup xs)) b Ls := by
  obtain ⟨ks, h1, h2, h3⟩ := h
  exact ⟨_, h2, ks, h1, tupNew upd_same, fun q hq => sqT_same (same_upd n) (h3 q hq)⟩
theorem dpAll_refs {K : PySem.W.Frag} {H : Hp} : ∀ ks : List (Addr × List Int), (∀ q ∈ ks, SqT K H q.1 (q.2.map V.int)) → DpAll K H (ks.map fun q => V.ref q.1) ((ks.map (·.2)).map dI)
  | [], _ => .nil
  | q :: r, h => .cons (dpT (h q (List.mem_cons_self ..))) (dpAll_refs r fun z hz => h z (List.mem_cons_of_mem _ hz))
theorem TLp.dp {K : PySem.W.Frag} {H : Hp} {F : Addr} {Ls : List (List Int)} (h : TLp K H F Ls) : Dp K H (.ref F) (.list (Ls.map dI)) := by
  obtain ⟨ks, h1, h2, h3⟩ := h
  subst h1
  exact .lst (lstNew h2) (dpAll_refs ks h3)
/-- [x for t in l for x in t] -/
theorem lc_flat {K : PySem.W.Frag} {σ : L2.St} {H1 : Hp} {a D : Addr} {vc vm : Nat} {ps : List (List Int)} {Qd : Hp → Prop} (hT : TLp K H1 a ps) (hl : ps.length ≤ 1000) (hp : ∀ p ∈ ps, p.length ≤ 100) (nD : H1 D = none) (lc : vc < σ.length) (lm : vm < σ.length) (ne : vc ≠ vm)
    (hd : ∀ H', Same H1 H' → H' D = some (.lst (ps.flatten.map V.int)) → Qd H') :
    ∃ W : Nat → Nat → Hp → Prop, (∃ m, W 0 m (upd H1 D (.lst []))) ∧ ∀ i m H, W i m H →
      ((Itl K a).stop i H ∧ Qd H) ∨ ((Itl K a).go i H ∧ ∃ Nx : Hp → Prop, (∀ H', Nx H' → ∃ m', m' < m ∧ W (i + 1) m' H') ∧ ∀ x H', (Itl K a).yld i H x H' → gName vc x (wipe σ [vc, vm]) H' fun σ2 H2 => wipe σ2 [vc, vm] = wipe σ [vc, vm] ∧ tYes σ2 H2 fun b H3 =>
        if b = true then iTup K (tVar vc) σ2 H3 fun J1 H4 => ∃ W1 : Nat → Nat → Hp → Prop, (∃ m, W1 0 m H4) ∧ ∀ j k H, W1 j k H →
          (J1.stop j H ∧ Nx H) ∨ (J1.go j H ∧ ∃ Nx1 : Hp → Prop, (∀ H', Nx1 H' → ∃ k', k' < k ∧ W1 (j + 1) k' H') ∧ ∀ x H', J1.yld j H x H' → gName vm x (wipe σ2 [vm]) H' fun σ3 H5 => wipe σ3 [vm] = wipe σ2 [vm] ∧ tYes σ3 H5 fun b H6 =>
            if b = true then tVar vm σ3 H6 fun y H7 => ∃ acc, H7 D = some (.lst acc) ∧ acc.length < sizeLine ∧ Nx1 (upd H7 D (.lst (acc ++ [y]))) else Nx1 H6)
        else Nx H3) := by
  obtain ⟨ks, rfl, h2, h3⟩ := hT
  rw [List.length_map] at hl
  have short : ∀ l : List (Addr × List Int), (∀ q ∈ l, q.2.length ≤ 100) → ((l.map (·.2)).flatten).length ≤ l.length * 100 := by
    intro l
    induction l with
    | nil => intro _; simp
    | cons q r ih =>
      intro h
      have h1 := h q (List.mem_cons_self ..)
      have h2 := ih fun z hz => h z (List.mem_cons_of_mem _ hz)
      simp only [List.map_cons, List.flatten_cons, List.length_append, List.length_cons]
      omega
  have hq : ∀ q ∈ ks, q.2.length ≤ 100 := fun q z => hp q.2 (List.mem_map.mpr ⟨q, z, rfl⟩)
  have hL : ∀ H', Same H1 H' → SqL K H' a (ks.map fun q => V.ref q.1) := fun H' s => lstNew (s _ _ h2)
  refine ⟨fun i m H => m = ks.length - i ∧ i ≤ ks.length ∧ Same H1 H ∧ H D = some (.lst ((((ks.take i).map (·.2)).flatten).map V.int)), ⟨ks.length, by simp, Nat.zero_le _, same_upd nD, upd_same⟩, ?_⟩
  rintro i m H ⟨rfl, hi, s1, e1⟩
  by_cases hlt : i < ks.length
  · have eg : ks[i]? = some ks[i] := List.getElem?_eq_getElem hlt
    refine .inr ⟨⟨_, V.ref ks[i].1, hL H s1, by rw [List.getElem?_map, eg]; rfl⟩, fun H' => Same H1 H' ∧ H' D = some (.lst ((((ks.take (i + 1)).map (·.2)).flatten).map V.int)), fun H' p => ⟨ks.length - (i + 1), by omega, rfl, hlt, p.1, p.2⟩, fun x H' y => ?_⟩
    obtain ⟨rfl, y⟩ := y
    have ex := y _ (hL _ s1)
    rw [List.getElem?_map, eg] at ex
    cases ex
    refine nx_step ?_
    have hT1 : SqT K H' ks[i].1 (ks[i].2.map V.int) := sqT_same s1 (h3 _ (List.getElem_mem hlt))
    refine ⟨?_, tt_yes ⟨.ref ks[i].1, ?_, ks[i].1, rfl, ⟨_, hT1⟩, ?_⟩⟩
    · simp [wipe, List.set_set, List.set_comm, ne]
    · simp [wipe, lc, lm, ne, ne.symm]
    have e2 : (((ks.take (i + 1)).map (·.2)).flatten) = ((ks.take i).map (·.2)).flatten ++ ks[i].2 := by
      rw [List.take_add_one, eg, List.map_append, List.flatten_append]
      simp
    have hlen : (((ks.take i).map (·.2)).flatten).length ≤ 100000 := by
      have := short (ks.take i) fun q z => hq q (List.mem_of_mem_take z)
      have h4 : (ks.take i).length ≤ 1000 := by rw [List.length_take]; omega
      omega
    have hlen2 := hq _ (List.getElem_mem hlt)
    refine ⟨fun j k H2 => k = ks[i].2.length - j ∧ j ≤ ks[i].2.length ∧ Same H1 H2 ∧ H2 D = some (.lst ((((ks.take i).map (·.2)).flatten ++ ks[i].2.take j).map V.int)), ⟨_, rfl, Nat.zero_le _, s1, by rw [List.take_zero, List.append_nil]; exact e1⟩, ?_⟩
    rintro j k H2 ⟨rfl, hj, s2, f1⟩
    have hT2 : SqT K H2 ks[i].1 (ks[i].2.map V.int) := sqT_same s2 (h3 _ (List.getElem_mem hlt))
    by_cases hjt : j < ks[i].2.length
    · have ej : ks[i].2[j]? = some ks[i].2[j] := List.getElem?_eq_getElem hjt
      refine .inr ⟨⟨_, V.int ks[i].2[j], hT2, by rw [List.getElem?_map, ej]; rfl⟩, fun H' => Same H1 H' ∧ H' D = some (.lst ((((ks.take i).map (·.2)).flatten ++ ks[i].2.take (j + 1)).map V.int)), fun H' p => ⟨_, by omega, rfl, hjt, p.1, p.2⟩, fun x H3 y => ?_⟩
      obtain ⟨rfl, y⟩ := y
      have ex := y _ hT2
      rw [List.getElem?_map, ej] at ex
      cases ex
      refine nx_step ?_
      refine ⟨by simp [wipe, List.set_set], tt_yes ⟨.int ks[i].2[j], ?_, _, f1, ?_, fun b o z => ?_, ?_⟩⟩
      · simp [wipe, lc, lm, ne, ne.symm]
      · rw [List.length_map, List.length_append, List.length_take, sizeLine_eq]; omega
      · rw [upd_ne (ne_of_none z nD)]; exact s2 b o z
      · rw [upd_same, List.take_add_one, ej, ← List.append_assoc, List.map_append (l₁ := _ ++ _)]; rfl
    · have e3 : ks[i].2.take j = ks[i].2 := List.take_of_length_le (Nat.le_of_not_lt hjt)
      refine .inl ⟨⟨_, hT2, by rw [List.length_map]; exact Nat.le_of_not_lt hjt⟩, s2, ?_⟩
      rw [e2, f1, e3]
  · have e : i = ks.length := by omega
    subst e
    refine .inl ⟨⟨_, hL H s1, by rw [List.length_map]; exact Nat.le_refl _⟩, hd H s1 ?_⟩
    rw [e1, List.take_of_length_le (Nat.le_refl _)]
/-! ### tuples of two, compared -/
theorem le_pair {u v x y : Int} (h : HT.lexLt [u, v] [x, y] = true) : Ob.lexAt (fun j => decide ([x, y].getD j 0 = [u, v].getD j 0)) (fun j => decide ([x, y].getD j 0 ≤ [u, v].getD j 0)) (decide ([x, y].length ≤ [u, v].length)) 0 (min [x, y].length [u, v].length) = false := by
  have h1 : (if u = x then (if v = y then false else decide (v < y)) else decide (u < x)) = true := h
  show (if decide (x = u) = true then (if decide (y = v) = true then _ else decide (y ≤ v)) else decide (x ≤ u)) = false
  by_cases e : u = x
  · subst e
    rw [if_pos rfl] at h1
    by_cases e2 : v = y
    · rw [if_pos e2] at h1; cases h1
    · rw [if_neg e2] at h1
      have h2 := of_decide_eq_true h1
      rw [if_pos (by simp), if_neg (by simp; omega)]
      simp; omega
  · rw [if_neg e] at h1
    have h2 := of_decide_eq_true h1
    rw [if_neg (by simp; omega)]
    simp; omega
end RV
set_option maxHeartbeats 4000000
namespace K43
open PySem PySem.Spec PyProof.Rows L2 RV
/-- TooMany, a RingError -/
structure Err (K : PySem.W.Frag) (mg : Str → Option Value) (CT CR : Addr) : Prop where
  g : mg "TooMany" = some (.ref CT)
  x : PySem.W.excIn K CT [.type "ValueError", .type "Exception", .type "BaseException", .type "object"] "ValueError.__new__" = true
  k : PySem.W.keepIn K (.ref CT) = true
  b : PySem.W.subIn K (.ref CT) (.type "BaseException") = some true
  t : PySem.W.typeIn K (.ref CT) = some (.type "type")
  e : ExcC K CT
  gR : mg "RingError" = some (.ref CR)
  mR : PySem.W.exmOne K (.ref CT) (.ref CR) = some true
  iT : PySem.W.kitOne K (.ref CT) (.ref CT) = some true
/-- the other refusals that the law names -/
structure Oth (K : PySem.W.Frag) (mg : Str → Option Value) (CT CN CF : Addr) : Prop where
  gN : mg "NoRule" = some (.ref CN)
  iN : PySem.W.kitOne K (.ref CT) (.ref CN) = some false
  gF : mg "TooFar" = some (.ref CF)
  iF : PySem.W.kitOne K (.ref CT) (.ref CF) = some false
theorem flds_no (a b t : Addr) {m : Str} (h1 : ¬ m = "mirrors") (h2 : ¬ m = "steps") (h3 : ¬ m = "followers") : (flds a b t).lookup m = none := by
  unfold flds
  rw [lookup_putF, if_neg h3, lookup_putF, if_neg h2, lookup_putF, if_neg h1]
  all_goals rfl
theorem lots_add {H : Hp} {D U : Addr} {ls : List (List Int)} {is : List (Addr × List Int)} {p : List Int} (i1 : is.map (·.2) = ls) (i2 : H D = some (.lst (is.map fun q => V.ref q.1))) (i3 : ∀ q ∈ is, H q.1 = some (.tup (q.2.map V.int))) (nU : H U = none) :
    LotsH (upd (upd H U (.tup (p.map V.int))) D (.lst ((is.map fun q => V.ref q.1) ++ [.ref U]))) D (ls ++ [p]) := by
  refine ⟨is ++ [(U, p)], by rw [List.map_append, i1]; rfl, by rw [upd_same, List.map_append]; rfl, fun q hq => ?_⟩
  have sU := same_upd (o := .tup (p.map V.int)) nU
  rcases List.mem_append.mp hq with z | z
  · rw [upd_ne (ne_of (i3 q z) i2 (by intro z; cases z))]; exact sU _ _ (i3 q z)
  · rw [List.mem_singleton.mp z, upd_ne (ne_of_none i2 nU).symm]; exact upd_same
theorem LotsH.len {H : Hp} {D : Addr} {ls : List (List Int)} (h : LotsH H D ls) : ∃ is : List (Addr × List Int), is.map (·.2) = ls ∧ H D = some (.lst (is.map fun q => V.ref q.1)) ∧ (∀ q ∈ is, H q.1 = some (.tup (q.2.map V.int))) ∧ is.length = ls.length := by
  obtain ⟨is, h1, h2, h3⟩ := h
  exact ⟨is, h1, h2, h3, by rw [← h1, List.length_map]⟩
section
variable {P : Program} {w : World} {K : PySem.W.Frag} {mg : Str → Option Value} {base : Heap}
/-! ### check_marks -/
theorem scChk : FnScope ["many"] ["many"] (defScope sCheckM) := ⟨rfl, rfl, rfl, by decide +kernel, rfl, by decide +kernel, by decide +kernel⟩
def spChk (CT : Addr) : Sp := fun vs H Q E => ∃ m : Int, vs = [.int m] ∧ (m ≤ 8 → Q .non H) ∧ (8 < m → E (.ref CT) none H)
theorem ok_chk {f CT CR : Addr} {fd : FuncData} {t : Tok} (F : Fun K "check_marks" "check_marks" sCheckM f fd) (mM : mg "MOST_MARKS" = some (.int 8 t)) (X : Err K mg CT CR) : FnOk P w K mg base (L2.CX P w) 1 f fd ["many"] (spChk CT) := by
  refine F.okX scChk (fun vs H Q E h => ?_) (fun cdv A outer s H vs Q E hr h => ?_)
  · obtain ⟨m, rfl, _⟩ := h
    rfl
  · obtain ⟨m, rfl, q, e⟩ := h
    refine ⟨_, pss_one (ps_if (pt_cmpR op_gt (pv 0) (pe_glob (v := .int 8) rfl mM ⟨_, rfl⟩) (nomark _)) (pss_one (ps_raise rfl (takes_of rfl rfl rfl rfl) (pmk_own PySem.F.excBase_ValueError X.x X.g X.k (raises_own X.b X.t) (by rfl)))) pss_nil), ?_⟩
    refine ⟨.int m, rfl, _, _, rfl, rfl, _, rfl, ite2 (fun z => ?_) (fun z => ?_)⟩
    · have z := of_decide_eq_true z
      exact e (by omega)
    · rw [decide_eq_true_iff] at z
      exact q (by omega)
/-! ### either -/
abbrev nEi : List Str := ["one", "other", "many", "mirror", "mirrors", "a", "b"]
theorem scEi : FnScope nEi ["one", "other"] (defScope sEither) := ⟨rfl, rfl, rfl, by decide +kernel, rfl, by decide +kernel, by decide +kernel⟩
/-- either, both: the rule (n, s) if it has at most eight marks -/
def spTwo (K : PySem.W.Frag) (C CT : Addr) (fn : List Int → List Int → List Int) (fs : List Int → List Int → List (List Int) → List (List Int) → List (List Int)) : Sp := fun vs H Q E => ∃ (r r' : Addr) (ns ns' : List Int) (ps ps' : List (List Int)), vs = [.ref r, .ref r'] ∧ RuleAt K C H r ns ps ∧ RuleAt K C H r' ns' ps' ∧ Mir ns ∧ Stp ns ps ∧ Mir ns' ∧ Stp ns' ps' ∧
  ((fn ns ns').length ≤ 8 → ∀ (H' : Hp) (x : Addr), Same H H' → RuleAt K C H' x (fn ns ns') (fs ns ns' ps ps') → Q (.ref x) H') ∧ (8 < (fn ns ns').length → ∀ H', Same H H' → E (.ref CT) none H')
def eiF (ns _ns' : List Int) (ps ps' : List (List Int)) : List (List Int) := eiS ns.length ps ps'
def boF (ns ns' : List Int) (ps ps' : List (List Int)) : List (List Int) := boS ns.length ns'.length ps ps'
theorem ok_ei {f C fI fM fK CT CR : Addr} {fd dI_ dM dK : FuncData} (F : Fun K "either" "either" sEither f fd) (T : Txt K mg C) (B : Bare mg) (Mm : Mk K C fI) (bI : Binds K dI_ ["self", "mirrors", "steps"] []) (GI : FnOk P w K mg base CX0 6 fI dI_ ["self", "mirrors", "steps"] (spInit K C))
    (FM : Fun K "marks" "Rule.marks" sMarksM fM dM) (bM : Binds K dM ["self"] []) (mM : Meth K C "marks" fM) (DK : DefAt K mg "check_marks" sCheckM ["many"] fK dK) (GK : FnOk P w K mg base (L2.CX P w) 1 fK dK ["many"] (spChk CT)) : FnOk P w K mg base (L2.CX P w) 8 f fd ["one", "other"] (spTwo K C CT eiN eiF) := by
  have GM : FnOk P w K mg base CX0 1 fM dM ["self"] (spMarksM K C) := ok_marksM FM T B
  refine F.okX scEi (fun vs H Q E h => ?_) (fun cdv A outer s H vs Q E hr h => ?_)
  · obtain ⟨r, r', ns, ns', ps, ps', rfl, _⟩ := h
    rfl
  · obtain ⟨r, r', ns, ns', ps, ps', rfl, R, R', M, S, M', S', q, e⟩ := h
    rw [eiN_len] at q e
    have r1 := hr.mono (show 1 ≤ 7 by decide)
    refine ⟨_, pss_cons (ps_set (i := 2) scEi.nd rfl (Or.inr rfl) (pe_meth0 (pv 0) T.cl mM GM r1 bM .nil pass0))
      (pss_cons (ps_expr (pe_call GK r1 (by rfl) DK.mg DK.fn.kp DK.bi .nil (passes_call (takes_of rfl rfl rfl rfl) fun _ _ _ _ h => h) (pa_cons (pe_op op_add (pv 2) (pe_meth0 (pv 1) T.cl mM GM r1 bM .nil pass0)) pa_nil)))
      (pss_cons (ps_set (i := 4) scEi.nd rfl (Or.inl rfl) (pe_op op_catW (pe_fld (pv 0) rfl) (pe_tupleOf (by rfl) B.tuple
        (pe_lc (own := [("mirror", 3)]) (g := gName 3) (tt := tYes) rfl scEi.nd (pi_tup (pe_fld (pv 1) rfl)) (blkOk_by (N := nEi) (sc := defScope sEither) (by decide +kernel)) (fun _ _ _ _ _ => pg_name (i := 3) scEi.nd rfl (Or.inl rfl)) (fun _ _ _ _ _ => pts_nil) (fun _ _ _ _ _ => pe_op op_add (pv 2) (pv 3))))))
      (pss_one (ps_ret (pe_make Mm GI hr (by rfl) T.mgC bI .nil pass0 (pa_cons (pv 4) (pa_cons (pe_op op_catW (pe_fld (pv 0) rfl) (pe_tupleOf (by rfl) B.tuple
        (pe_lc (own := [("a", 5), ("b", 6)]) (g := gTup K 2 (gCons (gName 5) (gCons (gName 6) gNil))) (tt := tYes) rfl scEi.nd (pi_tup (pe_fld (pv 1) rfl)) (blkOk_by (N := nEi) (sc := defScope sEither) (by decide +kernel))
          (fun _ _ _ _ _ => pg_tupK rfl rfl (pgs_cons (pg_name (i := 5) scEi.nd rfl (Or.inl rfl)) (pgs_cons (pg_name (i := 6) scEi.nd rfl (Or.inl rfl)) pgs_nil))) (fun _ _ _ _ _ => pts_nil) (fun _ _ _ _ _ => pe_tup (pa_cons (pe_op op_add (pv 2) (pv 5)) (pa_cons (pe_op op_add (pv 2) (pv 6)) pa_nil)))))) pa_nil))))))), ?_⟩
    obtain ⟨dx, a0, b0, t0, g1, g2, g3, g4⟩ := R.ex
    obtain ⟨dx', a1, b1, t1, h1, h2, h3, h4⟩ := R'.ex
    have two : (2 : Nat) ≤ sizeLine := by decide
    have fno := flds_no a0 b0 t0 (m := "marks") (by decide +kernel) (by decide +kernel) (by decide +kernel)
    have fno' := flds_no a1 b1 t1 (m := "marks") (by decide +kernel) (by decide +kernel) (by decide +kernel)
    have p0 := M.pos
    have p1 := M'.pos
    have few0 := M.few
    have few1' := M'.few
    refine ⟨.ref r, rfl, r, dx, _, rfl, g1, fno, r, ns, ps, rfl, R, ?_⟩
    refine ⟨.int (ns.length : Int), rfl, .ref r', rfl, r', dx', _, rfl, h1, fno', r', ns', ps', rfl, R', _, _, rfl, rfl, _, rfl, fun l8 => ?_, fun l8 => e (by omega) H (Same.refl _)⟩
    have l8 : ns.length + ns'.length ≤ 8 := by omega
    refine ⟨.ref r, rfl, r, C, dx, _, _, rfl, g1, T.cl, T.nM, flds_m _ _ _, .ref r', rfl, r', C, dx', _, _, rfl, h1, T.cl, T.nM, flds_m _ _ _, a1, rfl, ⟨_, h2⟩, fun D nD => ?_⟩
    refine lc_tup (K := K) (a := a1) (xs := ns'.map V.int) (fun i H' => Same H H' ∧ H' D = some (.lst (((ns'.take i).map fun m => (ns.length : Int) + m).map V.int))) ⟨same_upd nD, by rw [upd_same]; rfl⟩ (fun i H' _ h => sqT_same h.1 h2) (fun i v H' hv h => ?_) fun H1 h => ?_
    · obtain ⟨m, gm, rfl⟩ := map_at hv
      have hi : i < ns'.length := (List.getElem?_eq_some_iff.mp gm).1
      obtain ⟨s1, eD⟩ := h
      refine ⟨by simp [wipe, List.set_set], tt_yes ⟨.int (ns.length : Int), rfl, .int m, rfl, _, _, rfl, rfl, _, eD, ?_, ?_, ?_⟩⟩
      · rw [List.length_map, List.length_map, List.length_take]; exact few1 (by omega)
      · exact fun b o z => by rw [upd_ne (ne_of_none z nD)]; exact s1 b o z
      · rw [upd_same, List.take_add_one, gm]
        simp
    · rw [List.length_map, List.take_length] at h
      obtain ⟨s1, eD⟩ := h
      refine .inl ⟨D, _, rfl, lstNew eD, fun m1 nm1 => ?_⟩
      have sm1 := same_upd (o := .tup ((ns'.map fun m => (ns.length : Int) + m).map V.int)) nm1
      refine ⟨a0, m1, _, _, rfl, rfl, sqT_same (s1.trans sm1) g2, tupNew upd_same, ?_, fun m2 H2 s12 em2 => ?_⟩
      · rw [List.length_map, List.length_map, List.length_map]; exact Nat.le_of_lt (few1 (by omega))
      have e2 : ns.map V.int ++ (ns'.map fun m => (ns.length : Int) + m).map V.int = (eiN ns ns').map V.int := by unfold eiN; rw [List.map_append]
      rw [e2] at em2
      have s2 := s1.trans (sm1.trans s12)
      obtain ⟨js, ej, hb1, hjs⟩ := h3
      obtain ⟨ks, ek, hb0, hks⟩ := g3
      have lj : js.length = ps'.length := by rw [← ej, List.length_map]
      have lk : ks.length = ps.length := by rw [← ek, List.length_map]
      have f1 := S.few
      have f2 := S'.few
      refine ⟨.ref m2, rfl, .ref r, rfl, r, C, dx, _, _, rfl, s2 _ _ g1, T.cl, T.nS, flds_s _ _ _, .ref r', rfl, r', C, dx', _, _, rfl, s2 _ _ h1, T.cl, T.nS, flds_s _ _ _, b1, rfl, ⟨_, sqT_same s2 hb1⟩, fun D2 nD2 => ?_⟩
      refine lc_tup (K := K) (a := b1) (xs := js.map fun p => V.ref p.1) (fun i H' => Same H2 H' ∧ LotsH H' D2 ((ps'.take i).map (upQ ns.length))) ⟨same_upd nD2, [], rfl, upd_same, fun _ z => by cases z⟩ (fun i H' _ h => sqT_same (s2.trans h.1) hb1) (fun i v H3 hv h => ?_) fun H3 h => ?_
      · obtain ⟨s3, hD⟩ := h
        obtain ⟨k, gk, rfl⟩ := map_at hv
        have gf : ps'[i]? = some k.2 := by rw [← ej, List.getElem?_map, gk]; rfl
        obtain ⟨a, b, e, _⟩ := S'.pair k.2 (List.mem_of_getElem? gf)
        have ekt := sqT_same (s2.trans s3) (hjs k (List.mem_of_getElem? gk))
        rw [e] at ekt gf
        refine ⟨k.1, _, rfl, ekt, rfl, _, _, rfl, _, _, rfl, rfl, by simp [wipe, List.set_set, List.set_comm], tt_yes ⟨.int (ns.length : Int), rfl, .int a, rfl, _, _, rfl, rfl, .int (ns.length : Int), rfl, .int b, rfl, _, _, rfl, rfl, two, fun U nU => ?_⟩⟩
        obtain ⟨is, i1, i2, i3, i4⟩ := hD.len
        have hi : i < ps'.length := (List.getElem?_eq_some_iff.mp gf).1
        rw [List.length_map, List.length_take] at i4
        have sU := same_upd (o := .tup [.int ((ns.length : Int) + a), .int ((ns.length : Int) + b)]) nU
        refine ⟨_, sU _ _ i2, by rw [List.length_map]; exact few1 (by omega), fun b o z => by rw [upd_ne (ne_of_none z nD2)]; exact sU _ _ (s3 b o z), ?_⟩
        rw [List.take_add_one, gf]
        show LotsH _ D2 (List.map (upQ ns.length) (ps'.take i ++ [[a, b]]))
        rw [List.map_append]
        exact lots_add (p := [(ns.length : Int) + a, (ns.length : Int) + b]) i1 i2 i3 nU
      · obtain ⟨s3, is, i1, i2, i3⟩ := h
        rw [List.length_map, lj, List.take_length] at i1
        have li : is.length = ps'.length := by rw [← List.length_map (f := fun p : Addr × List Int => p.2), i1, List.length_map]
        refine .inl ⟨D2, _, rfl, lstNew i2, fun c1 nc1 => ?_⟩
        have sc1 := same_upd (o := .tup (is.map fun p => V.ref p.1)) nc1
        refine ⟨b0, c1, _, _, rfl, rfl, sqT_same (s2.trans (s3.trans sc1)) hb0, tupNew upd_same, ?_, fun c2 H4 s34 ec2 => ?_⟩
        · rw [List.length_map, List.length_map]; exact Nat.le_of_lt (few1 (by omega))
        have s4 := s3.trans (sc1.trans s34)
        have hB : Tups K H4 c2 (eiS ns.length ps ps') := by
          refine ⟨ks ++ is, by rw [List.map_append, ek, i1]; rfl, by rw [List.map_append]; exact ec2, fun k hk => ?_⟩
          rcases List.mem_append.mp hk with z | z
          · exact sqT_same (s2.trans s4) (hks k z)
          · exact tupNew ((sc1.trans s34) _ _ (i3 k z))
        have em := sqT_same s4 em2
        have s5 := s2.trans s4
        exact fun x dx nx nd ne => make_rule em hB (ei_mir M M' l8) (ei_stp M S M' S' l8) nx nd ne fun H5 s6 R5 => q l8 H5 x (s5.trans s6) R5
/-! ### both -/
abbrev nBo : List Str := ["one", "other", "many", "a", "b", "mirrors", "c", "d", "steps"]
theorem scBo : FnScope nBo ["one", "other"] (defScope sBoth) := ⟨rfl, rfl, rfl, by decide +kernel, rfl, by decide +kernel, by decide +kernel⟩
theorem ok_bo {f C fI fM fK CT CR : Addr} {fd dI_ dM dK : FuncData} (F : Fun K "both" "both" sBoth f fd) (T : Txt K mg C) (B : Bare mg) (Mm : Mk K C fI) (bI : Binds K dI_ ["self", "mirrors", "steps"] []) (GI : FnOk P w K mg base CX0 6 fI dI_ ["self", "mirrors", "steps"] (spInit K C))
    (FM : Fun K "marks" "Rule.marks" sMarksM fM dM) (bM : Binds K dM ["self"] []) (mM : Meth K C "marks" fM) (DK : DefAt K mg "check_marks" sCheckM ["many"] fK dK) (GK : FnOk P w K mg base (L2.CX P w) 1 fK dK ["many"] (spChk CT)) : FnOk P w K mg base (L2.CX P w) 8 f fd ["one", "other"] (spTwo K C CT boN boF) := by
  have GM : FnOk P w K mg base CX0 1 fM dM ["self"] (spMarksM K C) := ok_marksM FM T B
  refine F.okX scBo (fun vs H Q E h => ?_) (fun cdv A outer s H vs Q E hr h => ?_)
  · obtain ⟨r, r', ns, ns', ps, ps', rfl, _⟩ := h
    rfl
  · obtain ⟨r, r', ns, ns', ps, ps', rfl, R, R', M, S, M', S', q, e⟩ := h
    rw [boN_len] at q e
    have r1 := hr.mono (show 1 ≤ 7 by decide)
    refine ⟨_, pss_cons (ps_set (i := 2) scBo.nd rfl (Or.inr rfl) (pe_meth0 (pv 1) T.cl mM GM r1 bM .nil pass0))
      (pss_cons (ps_expr (pe_call GK r1 (by rfl) DK.mg DK.fn.kp DK.bi .nil (passes_call (takes_of rfl rfl rfl rfl) fun _ _ _ _ h => h) (pa_cons (pe_op op_mul (pe_meth0 (pv 0) T.cl mM GM r1 bM .nil pass0) (pv 2)) pa_nil)))
      (pss_cons (ps_setLc2 (i := 5) (own := [("a", 3), ("b", 4)]) (vs1 := [4]) (g := gName 3) (g1 := gName 4) (tt := tYes) (tt1 := tYes) rfl scBo.nd rfl rfl (by rfl) (pi_tup (pe_fld (pv 0) rfl)) (blkOk_by (N := nBo) (sc := defScope sBoth) (by decide +kernel)) (by decide)
          (fun _ _ _ _ _ => pg_name (i := 3) scBo.nd rfl (Or.inl rfl)) (fun _ _ _ _ _ => pts_nil) (fun _ _ _ _ _ => pi_tupK (K := K) rfl (pe_fldG (K := K) rfl (pv 1) rfl)) (fun _ _ _ _ _ => pg_name (i := 4) scBo.nd rfl (Or.inl rfl)) (fun _ _ _ _ _ => pts_nil)
          (fun _ _ _ _ _ => pe_op op_add (pe_op op_mul (pv 3) (pv 2)) (pv 4)))
      (pss_cons (ps_setLc2 (i := 8) (own := [("a", 3), ("c", 6), ("b", 4), ("d", 7)]) (vs1 := [4, 7]) (g := gTup K 2 (gCons (gName 3) (gCons (gName 6) gNil))) (g1 := gTup K 2 (gCons (gName 4) (gCons (gName 7) gNil))) (tt := tYes) (tt1 := tYes) rfl scBo.nd rfl rfl (by rfl) (pi_tup (pe_fld (pv 0) rfl)) (blkOk_by (N := nBo) (sc := defScope sBoth) (by decide +kernel)) (by decide)
          (fun _ _ _ _ _ => pg_tupK rfl rfl (pgs_cons (pg_name (i := 3) scBo.nd rfl (Or.inl rfl)) (pgs_cons (pg_name (i := 6) scBo.nd rfl (Or.inl rfl)) pgs_nil))) (fun _ _ _ _ _ => pts_nil) (fun _ _ _ _ _ => pi_tupK (K := K) rfl (pe_fldG (K := K) rfl (pv 1) rfl))
          (fun _ _ _ _ _ => pg_tupK rfl rfl (pgs_cons (pg_name (i := 4) scBo.nd rfl (Or.inl rfl)) (pgs_cons (pg_name (i := 7) scBo.nd rfl (Or.inl rfl)) pgs_nil))) (fun _ _ _ _ _ => pts_nil)
          (fun _ _ _ _ _ => pe_tup (pa_cons (pe_op op_add (pe_op op_mul (pv 3) (pv 2)) (pv 4)) (pa_cons (pe_op op_add (pe_op op_mul (pv 6) (pv 2)) (pv 7)) pa_nil))))
      (pss_one (ps_ret (pe_make Mm GI hr (by rfl) T.mgC bI .nil pass0 (pa_cons (pe_tupleOf (by rfl) B.tuple (pv 5)) (pa_cons (pe_tupleOf (by rfl) B.tuple (pe_callB cr_sortedX (by rfl) B.sorted (by decide +kernel) (pa_cons (pv 8) pa_nil))) pa_nil)))))))), ?_⟩
    obtain ⟨dx, a0, b0, t0, g1, g2, g3, g4⟩ := R.ex
    obtain ⟨dx', a1, b1, t1, h1, h2, h3, h4⟩ := R'.ex
    have two : (2 : Nat) ≤ sizeLine := by decide
    have fno := flds_no a0 b0 t0 (m := "marks") (by decide +kernel) (by decide +kernel) (by decide +kernel)
    have fno' := flds_no a1 b1 t1 (m := "marks") (by decide +kernel) (by decide +kernel) (by decide +kernel)
    have few0 := M.few
    have few1' := M'.few
    have cst : ((ns.length * ns'.length : Nat) : Int) = (ns.length : Int) * (ns'.length : Int) := Int.natCast_mul _ _
    refine ⟨.ref r', rfl, r', dx', _, rfl, h1, fno', r', ns', ps', rfl, R', ?_⟩
    refine ⟨.ref r, rfl, r, dx, _, rfl, g1, fno, r, ns, ps, rfl, R, .int (ns'.length : Int), rfl, _, _, rfl, rfl, .inl ⟨by omega, by omega⟩, _, rfl, fun l8 => ?_, fun l8 => e (by omega) H (Same.refl _)⟩
    have l8 : ns.length * ns'.length ≤ 8 := by omega
    refine ⟨.ref r, rfl, r, C, dx, _, _, rfl, g1, T.cl, T.nM, flds_m _ _ _, a0, rfl, ⟨_, g2⟩, fun D nD => ?_⟩
    refine it_tup (xs := ns.map V.int) (fun i H' => Same H H' ∧ H' D = some (.lst (((boN ns ns').take (i * ns'.length)).map V.int))) ⟨same_upd nD, by rw [upd_same, Nat.zero_mul]; rfl⟩ (fun i H' _ h => sqT_same h.1 g2) (fun i v H1 hv h => ?_) fun H1 h => ?_
    · obtain ⟨a, ga, rfl⟩ := map_at hv
      have hi : i < ns.length := (List.getElem?_eq_some_iff.mp ga).1
      obtain ⟨s1, eD⟩ := h
      have ba := M.inn a (List.mem_of_getElem? ga)
      refine ⟨rfl, tt_yes ⟨.ref r', rfl, r', C, dx', _, _, rfl, s1 _ _ h1, T.cl, T.nM, flds_m _ _ _, a1, rfl, ⟨_, sqT_same s1 h2⟩, ?_⟩⟩
      refine it_tup (xs := ns'.map V.int) (fun j H' => Same H H' ∧ H' D = some (.lst (((boN ns ns').take (i * ns'.length + j)).map V.int))) ⟨s1, eD⟩ (fun i H' _ h => sqT_same h.1 h2) (fun j v H2 hv h => ?_) fun H2 h => ?_
      · obtain ⟨b, gb, rfl⟩ := map_at hv
        have hj : j < ns'.length := (List.getElem?_eq_some_iff.mp gb).1
        obtain ⟨s2, eD⟩ := h
        obtain ⟨d1, d2⟩ := dvm_nat (a := i) hj
        have hk : i * ns'.length + j < ns.length * ns'.length := by
          have z : (i + 1) * ns'.length ≤ ns.length * ns'.length := Nat.mul_le_mul_right _ hi
          rw [Nat.add_mul, Nat.one_mul] at z
          omega
        have g := boN_get hk (by rw [d1]; exact ga) (by rw [d2]; exact gb)
        refine ⟨rfl, tt_yes ⟨.int a, rfl, .int (ns'.length : Int), rfl, _, _, rfl, rfl, .inl ⟨by omega, by omega⟩, .int b, rfl, _, _, rfl, rfl, ?_⟩⟩
        refine ⟨_, eD, by rw [List.length_map, List.length_take]; exact few1 (by omega), fun c o z => by rw [upd_ne (ne_of_none z nD)]; exact s2 c o z, ?_⟩
        rw [upd_same, ← Nat.add_assoc, List.take_add_one, g, List.map_append]; rfl
      · obtain ⟨s2, eD⟩ := h
        rw [List.length_map] at eD
        exact ⟨s2, by rw [Nat.add_mul, Nat.one_mul]; exact eD⟩
    obtain ⟨s1, eD⟩ := h
    rw [List.length_map, List.take_of_length_le (by rw [boN_len]; exact Nat.le_refl _)] at eD
    refine nx_step ?_
    dsimp only
    obtain ⟨js, ej, hb1, hjs⟩ := h3
    obtain ⟨ks, ek, hb0, hks⟩ := g3
    have lj : js.length = ps'.length := by rw [← ej, List.length_map]
    have lk : ks.length = ps.length := by rw [← ek, List.length_map]
    have f1 := S.few
    have f2 := S'.few
    refine ⟨.ref r, rfl, r, C, dx, _, _, rfl, s1 _ _ g1, T.cl, T.nS, flds_s _ _ _, b0, rfl, ⟨_, sqT_same s1 hb0⟩, fun D2 nD2 => ?_⟩
    refine it_tup (xs := ks.map fun p => V.ref p.1) (fun i H' => Same H1 H' ∧ LotsH H' D2 ((boT ns'.length ps ps').take (i * ps'.length))) ⟨same_upd nD2, by rw [Nat.zero_mul]; exact ⟨[], rfl, upd_same, fun _ z => by cases z⟩⟩ (fun i H' _ h => sqT_same (s1.trans h.1) hb0) (fun i v H2 hv h => ?_) fun H2 h => ?_
    · obtain ⟨s2, hD⟩ := h
      obtain ⟨k, gk, rfl⟩ := map_at hv
      have gf : ps[i]? = some k.2 := by rw [← ek, List.getElem?_map, gk]; rfl
      have hi : i < ps.length := (List.getElem?_eq_some_iff.mp gf).1
      obtain ⟨a, c, e1, ba, bc⟩ := S.pair k.2 (List.mem_of_getElem? gf)
      have ekt := sqT_same (s1.trans s2) (hks k (List.mem_of_getElem? gk))
      rw [e1] at ekt gf
      refine ⟨k.1, _, rfl, ekt, rfl, _, _, rfl, _, _, rfl, rfl, by simp [wipe, List.set_set, List.set_comm], tt_yes ⟨.ref r', rfl, r', C, dx', _, _, rfl, (s1.trans s2) _ _ h1, T.cl, T.nS, flds_s _ _ _, b1, rfl, ⟨_, sqT_same (s1.trans s2) hb1⟩, ?_⟩⟩
      refine it_tup (xs := js.map fun p => V.ref p.1) (fun j H' => Same H1 H' ∧ LotsH H' D2 ((boT ns'.length ps ps').take (i * ps'.length + j))) ⟨s2, hD⟩ (fun i H' _ h => sqT_same (s1.trans h.1) hb1) (fun j v H3 hv h => ?_) fun H3 h => ?_
      · obtain ⟨s3, hD⟩ := h
        obtain ⟨k', gk', rfl⟩ := map_at hv
        have gf' : ps'[j]? = some k'.2 := by rw [← ej, List.getElem?_map, gk']; rfl
        have hj : j < ps'.length := (List.getElem?_eq_some_iff.mp gf').1
        obtain ⟨b, d, e2, bb, bd⟩ := S'.pair k'.2 (List.mem_of_getElem? gf')
        have ekt' := sqT_same (s1.trans s3) (hjs k' (List.mem_of_getElem? gk'))
        rw [e2] at ekt' gf'
        obtain ⟨d1, d2⟩ := dvm_nat (a := i) hj
        have hk : i * ps'.length + j < ps.length * ps'.length := by
          have z : (i + 1) * ps'.length ≤ ps.length * ps'.length := Nat.mul_le_mul_right _ hi
          rw [Nat.add_mul, Nat.one_mul] at z
          omega
        have g := boT_get (m := ns'.length) hk (by rw [d1]; exact gf) (by rw [d2]; exact gf')
        obtain ⟨is, i1, i2, i3, i4⟩ := hD.len
        rw [List.length_take, boT_len] at i4
        have i5 : ps.length * ps'.length ≤ 64 * 64 := Nat.mul_le_mul f1 f2
        refine ⟨k'.1, _, rfl, ekt', rfl, _, _, rfl, _, _, rfl, rfl, by simp [wipe, List.set_set, List.set_comm], tt_yes ⟨.int a, rfl, .int (ns'.length : Int), rfl, _, _, rfl, rfl, .inl ⟨by omega, by omega⟩, .int b, rfl, _, _, rfl, rfl, .int c, rfl, .int (ns'.length : Int), rfl, _, _, rfl, rfl, .inl ⟨by omega, by omega⟩, .int d, rfl, _, _, rfl, rfl, two, fun U nU => ?_⟩⟩
        have sU := same_upd (o := .tup [.int (a * (ns'.length : Int) + b), .int (c * (ns'.length : Int) + d)]) nU
        refine ⟨_, sU _ _ i2, by rw [List.length_map, sizeLine_eq]; omega, fun b o z => by rw [upd_ne (ne_of_none z nD2)]; exact sU _ _ (s3 b o z), ?_⟩
        rw [← Nat.add_assoc, List.take_add_one, g]
        exact lots_add (p := [a * (ns'.length : Int) + b, c * (ns'.length : Int) + d]) i1 i2 i3 nU
      · obtain ⟨s3, hD⟩ := h
        rw [List.length_map, lj] at hD
        exact ⟨s3, by rw [Nat.add_mul, Nat.one_mul]; exact hD⟩
    obtain ⟨s2, hD⟩ := h
    rw [List.length_map, lk, List.take_of_length_le (by rw [boT_len]; exact Nat.le_refl _)] at hD
    refine nx_step ?_
    dsimp only
    have eD2 := s2 _ _ eD
    have s02 := s1.trans s2
    obtain ⟨is, i1, i2, i3, i4⟩ := hD.len
    rw [boT_len] at i4
    have i5 : ps.length * ps'.length ≤ 64 * 64 := Nat.mul_le_mul f1 f2
    refine ⟨.ref D, rfl, .inl ⟨D, _, rfl, lstNew eD2, fun m nm => ?_⟩⟩
    have sm := same_upd (o := .tup ((boN ns ns').map V.int)) nm
    have em : (upd H2 m (.tup ((boN ns ns').map V.int))) m = some (.tup ((boN ns ns').map V.int)) := upd_same
    have s03 := s02.trans sm
    have i2' := sm _ _ i2
    have i3' : ∀ q ∈ is, (upd H2 m (.tup ((boN ns ns').map V.int))) q.1 = some (.tup (q.2.map V.int)) := fun q hq => sm _ _ (i3 q hq)
    generalize upd H2 m (.tup ((boN ns ns').map V.int)) = H3 at em s03 i2' i3' ⊢
    refine ⟨.ref D2, rfl, D2, is, rfl, lstNew i2', fun p hp => tupNew (i3' p hp), fun p hp => ?_, by rw [sizeLine_eq]; omega, fun L z pm pw nz => ?_⟩
    · intro z
      have hp2 : p.2 ∈ boT ns'.length ps ps' := by rw [← i1]; exact List.mem_map_of_mem hp
      have hp3 := bo_pr _ ((bo_mem S S' _).mp hp2)
      obtain ⟨x, y, e, _⟩ := hp3
      rw [e] at z; cases z
    have eL : L.map (·.2) = boS ns.length ns'.length ps ps' := sorted_cd (by rw [← i1]; exact pm.map _) (bo_nd S S') pw (fun p hp => (bo_pr p ((bo_mem S S' p).mp hp)).mono (by omega)) (bo_rise (by omega)) (bo_mem S S')
    have sz := same_upd (o := .lst (L.map fun q => V.ref q.1)) nz
    refine .inl ⟨z, _, rfl, lstNew upd_same, fun u nu => ?_⟩
    have su := same_upd (o := .tup (L.map fun q => V.ref q.1)) nu
    have s35 := sz.trans su
    have hB : Tups K (upd (upd H3 z (.lst (L.map fun q => V.ref q.1))) u (.tup (L.map fun q => V.ref q.1))) u (boS ns.length ns'.length ps ps') := ⟨L, eL, tupNew upd_same, fun k hk => tupNew (s35 _ _ (i3' k (pm.mem_iff.mp hk)))⟩
    exact fun x dx nx nd ne => make_rule (tupNew (s35 _ _ em)) hB (bo_mir M M' l8) (bo_stp M S M' S' l8) nx nd ne fun H5 s6 R5 => q l8 H5 x ((s03.trans s35).trans s6) R5
end
end K43
set_option maxHeartbeats 4000000
namespace K43
open PySem PySem.Spec PyProof.Rows L2 RV
/-- mirrors and steps as one pair, whatever they are -/
def RawH (K : PySem.W.Frag) (H : Hp) (R : Addr) (ns : List Int) (ps : List (List Int)) : Prop := ∃ u c : Addr, H R = some (.tup [.ref u, .ref c]) ∧ SqT K H u (ns.map V.int) ∧ Tups K H c ps
theorem RawH.same {K : PySem.W.Frag} {H H' : Hp} {R : Addr} {ns : List Int} {ps : List (List Int)} (h : RawH K H R ns ps) (s : Same H H') : RawH K H' R ns ps := let ⟨u, c, h1, h2, h3⟩ := h; ⟨u, c, s _ _ h1, sqT_same s h2, h3.same s⟩
theorem OwnH.raw {K : PySem.W.Frag} {H : Hp} {R : Addr} {ns : List Int} {ps : List (List Int)} (h : OwnH K H R ns ps) : RawH K H R ns ps := let ⟨u, c, h1, h2, h3, _⟩ := h; ⟨u, c, h1, h2, h3.tups⟩
theorem OwnH.same {K : PySem.W.Frag} {H H' : Hp} {R : Addr} {ns : List Int} {ps : List (List Int)} (h : OwnH K H R ns ps) (s : Same H H') : OwnH K H' R ns ps := let ⟨u, c, h1, h2, h3, h4⟩ := h; ⟨u, c, s _ _ h1, sqT_same s h2, h3.same s, h4⟩
section
variable {P : Program} {w : World} {K : PySem.W.Frag} {mg : Str → Option Value} {base : Heap}
def spLTwo (K : PySem.W.Frag) (fn : List Int → List Int → List Int) (fs : List Int → List Int → List (List Int) → List (List Int) → List (List Int)) : Sp := fun vs H Q _ => ∃ (o o' : Addr) (ns ns' : List Int) (ps ps' : List (List Int)), vs = [.ref o, .ref o'] ∧ OwnH K H o ns ps ∧ OwnH K H o' ns' ps' ∧ ns.length ≤ 5 ∧ ns'.length ≤ 5 ∧
  ∀ (H' : Hp) (R : Addr), Same H H' → RawH K H' R (fn ns ns') (fs ns ns' ps ps') → Q (.ref R) H'
/-! ### _law_either -/
abbrev nLe : List Str := ["_law_one_r", "_law_other_r", "_law_many", "_law_mark", "_law_mirrors_here", "_law_a", "_law_b"]
theorem scLe : FnScope nLe ["_law_one_r", "_law_other_r"] (defScope sLEither) := ⟨rfl, rfl, rfl, by decide +kernel, rfl, by decide +kernel, by decide +kernel⟩
theorem ok_le {f : Addr} {fd : FuncData} (F : Fun K "_law_either" "_law_either" sLEither f fd) (B : Bare mg) : FnOk P w K mg base CX0 1 f fd ["_law_one_r", "_law_other_r"] (spLTwo K eiN eiF) := by
  refine F.ok scLe (fun vs H Q E h => ?_) (fun cdv A outer s H vs Q E hr h => ?_)
  · obtain ⟨o, o', ns, ns', ps, ps', rfl, _⟩ := h
    rfl
  · obtain ⟨o, o', ns, ns', ps, ps', rfl, ⟨u, c, o1, o2, o3, M, S⟩, ⟨u', c', p1, p2, p3, M', S'⟩, l5, l5', q⟩ := h
    have two : (2 : Nat) ≤ sizeLine := by decide
    refine ⟨_, pss_cons (ps_set (i := 2) scLe.nd rfl (Or.inr rfl) (pe_callB call_len_seq (by rfl) B.len PySem.boot_len (pa_cons (pe_ix ix_tup (pv 0) pe_int (fun _ _ => rfl)) pa_nil)))
      (pss_cons (ps_set (i := 4) scLe.nd rfl (Or.inl rfl) (pe_op op_cat (pe_callTy call_list_of (by rfl) B.list (by decide +kernel) (pa_cons (pe_ix ix_tup (pv 0) pe_int (fun _ _ => rfl)) pa_nil))
        (pe_lc (own := [("_law_mark", 3)]) (g := gName 3) (tt := tYes) rfl scLe.nd (pi_tup (pe_ix ix_tup (pv 1) pe_int (fun _ _ => rfl))) (blkOk_by (N := nLe) (sc := defScope sLEither) (by decide +kernel)) (fun _ _ _ _ _ => pg_name (i := 3) scLe.nd rfl (Or.inl rfl)) (fun _ _ _ _ _ => pts_nil) (fun _ _ _ _ _ => pe_op op_add (pv 3) (pv 2)))))
      (pss_one (ps_ret (pe_tup (pa_cons (pe_tupleOf (by rfl) B.tuple (pv 4)) (pa_cons (pe_tupleOf (by rfl) B.tuple (pe_callB cr_sortedX (by rfl) B.sorted (by decide +kernel) (pa_cons
        (pe_op op_cat (pe_callTy call_list_of (by rfl) B.list (by decide +kernel) (pa_cons (pe_ix ix_tup (pv 0) pe_int (fun _ _ => rfl)) pa_nil))
          (pe_lc (own := [("_law_a", 5), ("_law_b", 6)]) (g := gTup K 2 (gCons (gName 5) (gCons (gName 6) gNil))) (tt := tYes) rfl scLe.nd (pi_tup (pe_ix ix_tup (pv 1) pe_int (fun _ _ => rfl))) (blkOk_by (N := nLe) (sc := defScope sLEither) (by decide +kernel))
            (fun _ _ _ _ _ => pg_tupK rfl rfl (pgs_cons (pg_name (i := 5) scLe.nd rfl (Or.inl rfl)) (pgs_cons (pg_name (i := 6) scLe.nd rfl (Or.inl rfl)) pgs_nil))) (fun _ _ _ _ _ => pts_nil) (fun _ _ _ _ _ => pe_tup (pa_cons (pe_op op_add (pv 5) (pv 2)) (pa_cons (pe_op op_add (pv 6) (pv 2)) pa_nil))))) pa_nil))) pa_nil)))))), ?_⟩
    obtain ⟨ks, ek, hb0, hks⟩ := o3
    obtain ⟨js, ej, hb1, hjs⟩ := p3
    have lj : js.length = ps'.length := by rw [← ej, List.length_map]
    have lk : ks.length = ps.length := by rw [← ek, List.length_map]
    have f1 := S.few
    have f2 := S'.few
    refine ⟨.ref o, rfl, o, _, 0, .ref u, rfl, rfl, tupNew o1, rfl, u, _, rfl, .inr o2, ?_⟩
    rw [List.length_map]
    refine ⟨.ref o, rfl, o, _, 0, .ref u, rfl, rfl, tupNew o1, rfl, u, _, rfl, .inr o2, fun l nl => ?_⟩
    have sl := same_upd (o := .lst (ns.map V.int)) nl
    have el : (upd H l (.lst (ns.map V.int))) l = some (.lst (ns.map V.int)) := upd_same
    generalize upd H l (.lst (ns.map V.int)) = H0 at sl el ⊢
    refine ⟨.ref o', rfl, o', _, 0, .ref u', rfl, rfl, tupNew (sl _ _ p1), rfl, u', rfl, ⟨_, sqT_same sl p2⟩, fun D nD => ?_⟩
    refine lc_tup (K := K) (a := u') (xs := ns'.map V.int) (fun i H' => Same H0 H' ∧ H' D = some (.lst (((ns'.take i).map fun m => (ns.length : Int) + m).map V.int))) ⟨same_upd nD, by rw [upd_same]; rfl⟩ (fun i H' _ h => sqT_same (sl.trans h.1) p2) (fun i v H' hv h => ?_) fun H1 h => ?_
    · obtain ⟨m, gm, rfl⟩ := map_at hv
      have hi : i < ns'.length := (List.getElem?_eq_some_iff.mp gm).1
      obtain ⟨s1, eD⟩ := h
      refine ⟨by simp [wipe, List.set_set], tt_yes ⟨.int m, rfl, .int (ns.length : Int), rfl, _, _, rfl, rfl, _, eD, ?_, ?_, ?_⟩⟩
      · rw [List.length_map, List.length_map, List.length_take]; exact few1 (by omega)
      · exact fun b o z => by rw [upd_ne (ne_of_none z nD)]; exact s1 b o z
      · rw [upd_same, List.take_add_one, gm]
        simp [Int.add_comm]
    rw [List.length_map, List.take_length] at h
    obtain ⟨s1, eD⟩ := h
    refine ⟨l, D, _, _, rfl, rfl, s1 _ _ el, eD, by rw [List.length_map, List.length_map, List.length_map]; exact Nat.le_of_lt (few1 (by omega)), fun t nt => ?_⟩
    have e2 : ns.map V.int ++ (ns'.map fun m => (ns.length : Int) + m).map V.int = (eiN ns ns').map V.int := by unfold eiN; rw [List.map_append]
    rw [e2]
    have st := same_upd (o := .lst ((eiN ns ns').map V.int)) nt
    have et : (upd H1 t (.lst ((eiN ns ns').map V.int))) t = some (.lst ((eiN ns ns').map V.int)) := upd_same
    have s02 := sl.trans (s1.trans st)
    generalize upd H1 t (.lst ((eiN ns ns').map V.int)) = H2 at et s02 ⊢
    refine ⟨.ref t, rfl, .inl ⟨t, _, rfl, lstNew et, fun v nv => ?_⟩⟩
    have sv := same_upd (o := .tup ((eiN ns ns').map V.int)) nv
    have ev : (upd H2 v (.tup ((eiN ns ns').map V.int))) v = some (.tup ((eiN ns ns').map V.int)) := upd_same
    have s03 := s02.trans sv
    generalize upd H2 v (.tup ((eiN ns ns').map V.int)) = H3 at ev s03 ⊢
    refine ⟨.ref o, rfl, o, _, 1, .ref c, rfl, rfl, tupNew (s03 _ _ o1), rfl, c, _, rfl, .inr (tupNew (s03 _ _ hb0)), fun l2 nl2 => ?_⟩
    have sl2 := same_upd (o := .lst (ks.map fun p => V.ref p.1)) nl2
    have el2 : (upd H3 l2 (.lst (ks.map fun p => V.ref p.1))) l2 = some (.lst (ks.map fun p => V.ref p.1)) := upd_same
    have s04 := s03.trans sl2
    have ev4 := sl2 _ _ ev
    generalize upd H3 l2 (.lst (ks.map fun p => V.ref p.1)) = H4 at el2 s04 ev4 ⊢
    refine ⟨.ref o', rfl, o', _, 1, .ref c', rfl, rfl, tupNew (s04 _ _ p1), rfl, c', rfl, ⟨_, tupNew (s04 _ _ hb1)⟩, fun D2 nD2 => ?_⟩
    refine lc_tup (K := K) (a := c') (xs := js.map fun p => V.ref p.1) (fun i H' => Same H4 H' ∧ LotsH H' D2 ((ps'.take i).map (upQ ns.length))) ⟨same_upd nD2, [], rfl, upd_same, fun _ z => by cases z⟩ (fun i H' _ h => tupNew ((s04.trans h.1) _ _ hb1)) (fun i v H5 hv h => ?_) fun H5 h => ?_
    · obtain ⟨s5, hD⟩ := h
      obtain ⟨k, gk, rfl⟩ := map_at hv
      have gf : ps'[i]? = some k.2 := by rw [← ej, List.getElem?_map, gk]; rfl
      obtain ⟨a, b, e, _⟩ := S'.pair k.2 (List.mem_of_getElem? gf)
      have ekt : SqT K H5 k.1 (k.2.map V.int) := tupNew ((s04.trans s5) _ _ (hjs k (List.mem_of_getElem? gk)))
      rw [e] at ekt gf
      refine ⟨k.1, _, rfl, ekt, rfl, _, _, rfl, _, _, rfl, rfl, by simp [wipe, List.set_set, List.set_comm], tt_yes ⟨.int a, rfl, .int (ns.length : Int), rfl, _, _, rfl, rfl, .int b, rfl, .int (ns.length : Int), rfl, _, _, rfl, rfl, two, fun U nU => ?_⟩⟩
      obtain ⟨is, i1, i2, i3, i4⟩ := hD.len
      have hi : i < ps'.length := (List.getElem?_eq_some_iff.mp gf).1
      rw [List.length_map, List.length_take] at i4
      have sU := same_upd (o := .tup [.int (a + (ns.length : Int)), .int (b + (ns.length : Int))]) nU
      refine ⟨_, sU _ _ i2, by rw [List.length_map]; exact few1 (by omega), fun b o z => by rw [upd_ne (ne_of_none z nD2)]; exact sU _ _ (s5 b o z), ?_⟩
      show LotsH (upd (upd H5 U (.tup [.int (a + (ns.length : Int)), .int (b + (ns.length : Int))])) D2 _) D2 _
      rw [List.take_add_one, gf, Int.add_comm a, Int.add_comm b]
      show LotsH _ D2 (List.map (upQ ns.length) (ps'.take i ++ [[a, b]]))
      rw [List.map_append]
      exact lots_add (p := [(ns.length : Int) + a, (ns.length : Int) + b]) i1 i2 i3 nU
    obtain ⟨s5, is, i1, i2, i3⟩ := h
    rw [List.length_map, lj, List.take_length] at i1
    have li : is.length = ps'.length := by rw [← List.length_map (f := fun p : Addr × List Int => p.2), i1, List.length_map]
    refine ⟨l2, D2, _, _, rfl, rfl, s5 _ _ el2, i2, by rw [List.length_map, List.length_map]; exact Nat.le_of_lt (few1 (by omega)), fun t2 nt2 => ?_⟩
    have st2 := same_upd (o := .lst ((ks.map fun p => V.ref p.1) ++ is.map fun p => V.ref p.1)) nt2
    have et2 : (upd H5 t2 (.lst ((ks.map fun p => V.ref p.1) ++ is.map fun p => V.ref p.1))) t2 = some (.lst ((ks ++ is).map fun p => V.ref p.1)) := by rw [upd_same, List.map_append]
    have s46 := s5.trans st2
    have tk : ∀ p ∈ ks ++ is, (upd H5 t2 (.lst ((ks.map fun p => V.ref p.1) ++ is.map fun p => V.ref p.1))) p.1 = some (.tup (p.2.map V.int)) := fun p hp => by
      rcases List.mem_append.mp hp with z | z
      · exact (s04.trans s46) _ _ (hks p z)
      · exact st2 _ _ (i3 p z)
    have s06 := s04.trans s46
    have ev6 := s46 _ _ ev4
    generalize upd H5 t2 (.lst ((ks.map fun p => V.ref p.1) ++ is.map fun p => V.ref p.1)) = H6 at et2 tk s06 ev6 ⊢
    have kk : (ks ++ is).map (·.2) = eiS ns.length ps ps' := by rw [List.map_append, ek, i1]; rfl
    have prs := ei_pr S S'
    refine ⟨t2, ks ++ is, rfl, lstNew et2, fun p hp => tupNew (tk p hp), fun p hp z => ?_, by rw [List.length_append, sizeLine_eq]; omega, fun L z pm pw nz => ?_⟩
    · have hp2 : p.2 ∈ eiS ns.length ps ps' := by rw [← kk]; exact List.mem_map_of_mem hp
      obtain ⟨x, y, e, _⟩ := prs _ hp2
      rw [e] at z; cases z
    have rs := ei_rise M S M' S'
    have eL : L.map (·.2) = eiS ns.length ps ps' := sorted_cd (by rw [← kk]; exact pm.map _) (rise_nd rs) pw (fun p hp => (prs p hp).mono (by omega)) rs fun _ => Iff.rfl
    have sz := same_upd (o := .lst (L.map fun q => V.ref q.1)) nz
    refine .inl ⟨z, _, rfl, lstNew upd_same, fun x nx => ?_⟩
    have sx := same_upd (o := .tup (L.map fun q => V.ref q.1)) nx
    have s68 := sz.trans sx
    have hB : Tups K (upd (upd H6 z (.lst (L.map fun q => V.ref q.1))) x (.tup (L.map fun q => V.ref q.1))) x (eiS ns.length ps ps') := ⟨L, eL, tupNew upd_same, fun k hk => tupNew (s68 _ _ (tk k (pm.mem_iff.mp hk)))⟩
    have ev8 := s68 _ _ ev6
    have s08 := s06.trans s68
    generalize upd (upd H6 z (.lst (L.map fun q => V.ref q.1))) x (.tup (L.map fun q => V.ref q.1)) = H8 at hB ev8 s08 ⊢
    refine ⟨two, fun R nR => ?_⟩
    have sR := same_upd (o := .tup [.ref v, .ref x]) nR
    exact q _ R (s08.trans sR) ⟨v, x, upd_same, tupNew (sR _ _ ev8), hB.same sR⟩
/-! ### _law_both -/
abbrev nLb : List Str := ["_law_one_r", "_law_other_r", "_law_many", "_law_mirrors_here", "_law_steps", "_law_mark", "_law_mine", "_law_its", "_law_behind", "_law_first", "_law_second"]
theorem scLb : FnScope nLb ["_law_one_r", "_law_other_r"] (defScope sLBoth) := ⟨rfl, rfl, rfl, by decide +kernel, rfl, by decide +kernel, by decide +kernel⟩
theorem ok_lb {f : Addr} {fd : FuncData} (F : Fun K "_law_both" "_law_both" sLBoth f fd) (B : Bare mg) : FnOk P w K mg base CX0 1 f fd ["_law_one_r", "_law_other_r"] (spLTwo K boN boF) := by
  refine F.ok scLb (fun vs H Q E h => ?_) (fun cdv A outer s H vs Q E hr h => ?_)
  · obtain ⟨o, o', ns, ns', ps, ps', rfl, _⟩ := h
    rfl
  · obtain ⟨o, o', ns, ns', ps, ps', rfl, ⟨u, c, o1, o2, o3, M, S⟩, ⟨u', c', p1, p2, p3, M', S'⟩, l5, l5', q⟩ := h
    have two : (2 : Nat) ≤ sizeLine := by decide
    have hu := un65 hr
    refine ⟨_, pss_cons (ps_par3 (i := 2) (j := 3) (l := 4) (by rfl) scLb.nd rfl rfl rfl (by decide) (by decide) (by decide) rfl rfl rfl (pa_cons (pe_callB call_len_seq (by rfl) B.len PySem.boot_len (pa_cons (pe_ix ix_tup (pv 1) pe_int (fun _ _ => rfl)) pa_nil)) (pa_cons (pe_lst pa_nil) (pa_cons (pe_lst pa_nil) pa_nil))) (by rfl))
      (pss_cons (ps_for PassesOwn.never rfl (pi_range1 (by rfl) B.range (pa_cons (pe_op op_mul (pe_callB call_len_seq (by rfl) B.len PySem.boot_len (pa_cons (pe_ix ix_tup (pv 0) pe_int (fun _ _ => rfl)) pa_nil)) (pv 2)) pa_nil)) (pg_name (i := 5) scLb.nd rfl (Or.inl rfl))
        (pss_cons (ps_par (i := 6) (j := 7) (by rfl) scLb.nd rfl rfl (by decide) rfl rfl (pa_cons (pe_ix ix_tup (pe_ix ix_tup (pv 0) pe_int (fun _ _ => rfl)) (pe_op op_fdiv (pv 5) (pv 2)) (fun _ _ => rfl)) (pa_cons (pe_ix ix_tup (pe_ix ix_tup (pv 1) pe_int (fun _ _ => rfl)) (pe_op op_mod (pv 5) (pv 2)) (fun _ _ => rfl)) pa_nil)) (by rfl))
        (pss_cons (ps_expr (pe_bm PySem.F.plainAttrs_list PySem.F.slot_list_append PySem.F.type_list_append mt_append (pv 3) (pa_cons (pe_op op_add (pe_op op_mul (pv 6) (pv 2)) (pv 7)) pa_nil)))
        (pss_one (ps_for PassesOwn.never rfl (pi_range1 (by rfl) B.range (pa_cons (pe_op op_mul (pe_callB call_len_seq (by rfl) B.len PySem.boot_len (pa_cons (pe_ix ix_tup (pv 0) pe_int (fun _ _ => rfl)) pa_nil)) (pv 2)) pa_nil)) (pg_name (i := 8) scLb.nd rfl (Or.inl rfl))
          (pss_cons (ps_set (i := 9) scLb.nd rfl (Or.inl rfl) (pe_tup (pa_cons (pe_op op_fdiv (pv 5) (pv 2)) (pa_cons (pe_op op_fdiv (pv 8) (pv 2)) pa_nil))))
          (pss_cons (ps_set (i := 10) scLb.nd rfl (Or.inl rfl) (pe_tup (pa_cons (pe_op op_mod (pv 5) (pv 2)) (pa_cons (pe_op op_mod (pv 8) (pv 2)) pa_nil))))
          (pss_one (ps_if (PW.pt (pw_and (pt_cmpR (op_inTs hu) (pv 9) (pe_ix ix_tup (pv 0) pe_int (fun _ _ => rfl)) (by rfl)) (pw_and1 (pt_cmpR (op_inTs hu) (pv 10) (pe_ix ix_tup (pv 1) pe_int (fun _ _ => rfl)) (by rfl)))))
            (pss_one (ps_expr (pe_bm PySem.F.plainAttrs_list PySem.F.slot_list_append PySem.F.type_list_append mt_append (pv 4) (pa_cons (pe_tup (pa_cons (pv 5) (pa_cons (pv 8) pa_nil))) pa_nil)))) pss_nil)))))))))
      (pss_one (ps_ret (pe_tup (pa_cons (pe_tupleOf (by rfl) B.tuple (pv 3)) (pa_cons (pe_tupleOf (by rfl) B.tuple (pv 4)) pa_nil)))))), ?_⟩
    have f1 := S.few
    have f2 := S'.few
    have p0' := M'.pos
    have nT := o3.tups (K := K)
    have nT' := p3.tups (K := K)
    have eN : V.int (((ns.map V.int).length : Int) * (ns'.length : Int)) = V.int ((ns.length * ns'.length : Nat) : Int) := congrArg V.int (by rw [List.length_map, Int.natCast_mul])
    have hN : ns.length * ns'.length ≤ 5 * 5 := Nat.mul_le_mul l5 l5'
    have cl : ((ns.map V.int).length : Int) ≤ 5 := by rw [List.length_map]; omega
    refine ⟨.ref o', rfl, o', _, 0, .ref u', rfl, rfl, tupNew p1, rfl, u', _, rfl, .inr p2, Nat.zero_le _, fun L1 n1 => ⟨Nat.zero_le _, fun L2 n2 => ⟨_, _, _, rfl, ?_⟩⟩⟩
    dsimp only
    rw [List.length_map]
    have sa := same_upd (o := .lst []) n1
    have sb := same_upd (o := .lst []) n2
    have s0 := sa.trans sb
    have d12 : L1 ≠ L2 := ne_of_none upd_same n2
    have e1 : (upd (upd H L1 (.lst [])) L2 (.lst [])) L1 = some (.lst []) := sb _ _ upd_same
    have e2 : (upd (upd H L1 (.lst [])) L2 (.lst [])) L2 = some (.lst []) := upd_same
    have n2H : H L2 = none := sa.free n2
    generalize upd (upd H L1 (.lst [])) L2 (.lst []) = H0 at s0 e1 e2 ⊢
    refine ⟨.ref o, rfl, o, _, 0, .ref u, rfl, rfl, tupNew (s0 _ _ o1), rfl, u, _, rfl, .inr (sqT_same s0 o2), .int (ns'.length : Int), rfl, _, _, rfl, rfl, .inl ⟨by omega, by omega⟩, ((ns.length * ns'.length : Nat) : Int), congrArg (fun z => [z]) eN, by omega, by omega, ?_⟩
    rw [Int.toNat_natCast]
    refine for_range (lo := 0) (n := ns.length * ns'.length) (fun i σ H' => ∃ (y5 y6 y7 y8 y9 y10 : Option V), σ = [some (.ref o), some (.ref o'), some (.int (ns'.length : Int)), some (.ref L1), some (.ref L2), y5, y6, y7, y8, y9, y10] ∧ Same H H' ∧ H' L1 = some (.lst (((boN ns ns').take i).map V.int)) ∧ LotsH H' L2 (gridOf 0 (boP ns'.length ps ps') (ns.length * ns'.length) i))
      ⟨_, _, _, _, _, _, rfl, s0, e1, [], rfl, e2, fun _ z => by cases z⟩ (fun i σ H1 hi h => ?_) (fun σ H1 h => ?_)
    · obtain ⟨y5, y6, y7, y8, y9, y10, rfl, s1, e1, hL⟩ := h
      rw [show (0 : Int) + (i : Int) = (i : Int) by omega]
      obtain ⟨l1, l2⟩ := dv_lt hi
      have ga : ns[i / ns'.length]? = some ns[i / ns'.length] := List.getElem?_eq_getElem l1
      have gb : ns'[i % ns'.length]? = some ns'[i % ns'.length] := List.getElem?_eq_getElem l2
      generalize ns[i / ns'.length] = a at ga
      generalize ns'[i % ns'.length] = b at gb
      have ba := M.inn a (List.mem_of_getElem? ga)
      have gk := boN_get hi ga gb
      have ia : atI (ns.map V.int) ((i : Int) / (ns'.length : Int)) = some (.int a) := by rw [← Int.natCast_ediv]; exact atI_nat (by rw [List.getElem?_map, ga]; rfl)
      have ib : atI (ns'.map V.int) ((i : Int) % (ns'.length : Int)) = some (.int b) := by rw [← Int.natCast_emod]; exact atI_nat (by rw [List.getElem?_map, gb]; rfl)
      refine ⟨.ref o, rfl, o, _, 0, .ref u, rfl, rfl, tupNew (s1 _ _ o1), rfl, .int (i : Int), rfl, .int (ns'.length : Int), rfl, _, _, rfl, rfl, ⟨by omega, by omega⟩, u, _, _, .int a, rfl, rfl, sqT_same s1 o2, ia, ?_⟩
      refine ⟨.ref o', rfl, o', _, 0, .ref u', rfl, rfl, tupNew (s1 _ _ p1), rfl, .int (i : Int), rfl, .int (ns'.length : Int), rfl, _, _, rfl, rfl, (show (0 : Int) < (ns'.length : Int) by omega), u', _, _, .int b, rfl, rfl, sqT_same s1 p2, ib, _, _, rfl, ?_⟩
      dsimp only
      refine ⟨.ref L1, rfl, .inl ⟨rfl, _, lstNew e1⟩, .int a, rfl, .int (ns'.length : Int), rfl, _, _, rfl, rfl, .inl ⟨by omega, by omega⟩, .int b, rfl, _, _, rfl, rfl, L1, _, _, rfl, rfl, e1, by rw [List.length_map, List.length_take]; exact few1 (by omega), ?_⟩
      have n1H : H L1 = none := n1
      have s2 : Same H (upd H1 L1 (.lst (((boN ns ns').take i).map V.int ++ [.int (a * (ns'.length : Int) + b)]))) := fun k o e => by rw [upd_ne (ne_of_none e n1H)]; exact s1 k o e
      have e1' : (upd H1 L1 (.lst (((boN ns ns').take i).map V.int ++ [.int (a * (ns'.length : Int) + b)]))) L1 = some (.lst (((boN ns ns').take (i + 1)).map V.int)) := by
        rw [upd_same, List.take_add_one, gk, List.map_append]; rfl
      have hL' : LotsH (upd H1 L1 (.lst (((boN ns ns').take i).map V.int ++ [.int (a * (ns'.length : Int) + b)]))) L2 (gridOf 0 (boP ns'.length ps ps') (ns.length * ns'.length) i) := by
        obtain ⟨is, i1, i2, i3⟩ := hL
        exact ⟨is, i1, by rw [upd_ne d12.symm]; exact i2, fun q hq => by rw [upd_ne (ne_of (i3 q hq) e1 (by intro z; cases z))]; exact i3 q hq⟩
      generalize upd H1 L1 (.lst (((boN ns ns').take i).map V.int ++ [.int (a * (ns'.length : Int) + b)])) = H2 at s2 e1' hL' ⊢
      refine ⟨.ref o, rfl, o, _, 0, .ref u, rfl, rfl, tupNew (s2 _ _ o1), rfl, u, _, rfl, .inr (sqT_same s2 o2), .int (ns'.length : Int), rfl, _, _, rfl, rfl, .inl ⟨by omega, by omega⟩, ((ns.length * ns'.length : Nat) : Int), congrArg (fun z => [z]) eN, by omega, by omega, ?_⟩
      rw [Int.toNat_natCast]
      refine for_range (lo := 0) (n := ns.length * ns'.length) (fun j σ H' => ∃ (y8 y9 y10 : Option V), σ = [some (.ref o), some (.ref o'), some (.int (ns'.length : Int)), some (.ref L1), some (.ref L2), some (.int (i : Int)), some (.int a), some (.int b), y8, y9, y10] ∧ Same H H' ∧ H' L1 = some (.lst (((boN ns ns').take (i + 1)).map V.int)) ∧ LotsH H' L2 (gridOf 0 (boP ns'.length ps ps') (ns.length * ns'.length) i ++ rowOf 0 (boP ns'.length ps ps') i j))
        ⟨_, _, _, rfl, s2, e1', by rw [show rowOf 0 (boP ns'.length ps ps') i 0 = [] from rfl, List.append_nil]; exact hL'⟩ (fun j σ H3 hj h => ?_) (fun σ H3 h => ?_)
      · obtain ⟨y8, y9, y10, rfl, s3, e3, hL3⟩ := h
        rw [show (0 : Int) + (j : Int) = (j : Int) by omega]
        refine ⟨.int (i : Int), rfl, .int (ns'.length : Int), rfl, _, _, rfl, rfl, ⟨by omega, by omega⟩, .int (j : Int), rfl, .int (ns'.length : Int), rfl, _, _, rfl, rfl, ⟨by omega, by omega⟩, two, fun T1 nT1 => ?_⟩
        refine nx_step ?_
        dsimp only
        have st1 := same_upd (o := .tup [.int ((i : Int) / (ns'.length : Int)), .int ((j : Int) / (ns'.length : Int))]) nT1
        have et1 : (upd H3 T1 (.tup [.int ((i : Int) / (ns'.length : Int)), .int ((j : Int) / (ns'.length : Int))])) T1 = some (.tup ([(i : Int) / (ns'.length : Int), (j : Int) / (ns'.length : Int)].map V.int)) := upd_same
        have s4 := s3.trans st1
        have e4 := st1 _ _ e3
        have hL4 := hL3.same st1
        generalize upd H3 T1 (.tup [.int ((i : Int) / (ns'.length : Int)), .int ((j : Int) / (ns'.length : Int))]) = H4 at et1 s4 e4 hL4 ⊢
        refine ⟨.int (i : Int), rfl, .int (ns'.length : Int), rfl, _, _, rfl, rfl, (show (0 : Int) < (ns'.length : Int) by omega), .int (j : Int), rfl, .int (ns'.length : Int), rfl, _, _, rfl, rfl, (show (0 : Int) < (ns'.length : Int) by omega), two, fun T2 nT2 => ?_⟩
        refine nx_step ?_
        dsimp only
        have st2 := same_upd (o := .tup [.int ((i : Int) % (ns'.length : Int)), .int ((j : Int) % (ns'.length : Int))]) nT2
        have et2 : (upd H4 T2 (.tup [.int ((i : Int) % (ns'.length : Int)), .int ((j : Int) % (ns'.length : Int))])) T2 = some (.tup ([(i : Int) % (ns'.length : Int), (j : Int) % (ns'.length : Int)].map V.int)) := upd_same
        have s5 := s4.trans st2
        have e5 := st2 _ _ e4
        have hL5 := hL4.same st2
        have et1' := st2 _ _ et1
        generalize upd H4 T2 (.tup [.int ((i : Int) % (ns'.length : Int)), .int ((j : Int) % (ns'.length : Int))]) = H5 at et1' et2 s5 e5 hL5 ⊢
        have skip : boP ns'.length ps ps' (i : Int) (j : Int) = false → LotsH H5 L2 (gridOf 0 (boP ns'.length ps ps') (ns.length * ns'.length) i ++ rowOf 0 (boP ns'.length ps ps') i (j + 1)) := fun z => by
          rw [row_next, z, if_neg (by decide), List.append_nil]; exact hL5
        refine ⟨.ref T1, rfl, .ref o, rfl, o, _, 1, .ref c, rfl, rfl, tupNew (s5 _ _ o1), rfl, T1, c, _, ps, rfl, rfl, tupNew et1', nT.same s5, _, rfl, ite2 (fun z1 => ?_) (fun z1 => ?_)⟩
        · have z1' := of_decide_eq_true z1
          refine ⟨.ref T2, rfl, .ref o', rfl, o', _, 1, .ref c', rfl, rfl, tupNew (s5 _ _ p1), rfl, T2, c', _, ps', rfl, rfl, tupNew et2, nT'.same s5, _, rfl, ite2 (fun z2 => ?_) (fun z2 => ?_)⟩
          · have z2' := of_decide_eq_true z2
            obtain ⟨is, i1, i2, i3, i4⟩ := hL5.len
            have gl := grid_len 0 (boP ns'.length ps ps') (ns.length * ns'.length) i
            have rl := row_len 0 (boP ns'.length ps ps') i j
            have i5 : i * (ns.length * ns'.length) ≤ 25 * 25 := Nat.mul_le_mul (by omega) hN
            rw [List.length_append] at i4
            refine ⟨.ref L2, rfl, .inl ⟨rfl, _, lstNew i2⟩, .int (i : Int), rfl, .int (j : Int), rfl, two, fun U nU => ?_⟩
            have sU := same_upd (o := .tup [.int (i : Int), .int (j : Int)]) nU
            refine ⟨L2, _, _, rfl, rfl, sU _ _ i2, by rw [List.length_map, sizeLine_eq]; omega, _, _, _, rfl, fun k o e => by rw [upd_ne (ne_of_none e n2H)]; exact sU _ _ (s5 k o e), by rw [upd_ne d12]; exact sU _ _ e5, ?_⟩
            have pT : boP ns'.length ps ps' (i : Int) (j : Int) = true := by unfold boP; rw [decide_eq_true z1', decide_eq_true z2']; rfl
            rw [row_next, pT, if_pos rfl, ← List.append_assoc, Int.zero_add, Int.zero_add]
            exact lots_add (p := [(i : Int), (j : Int)]) i1 i2 i3 nU
          · refine ⟨_, _, _, rfl, s5, e5, skip ?_⟩
            rw [decide_eq_true_iff] at z2
            unfold boP
            rw [decide_eq_false z2, Bool.and_false]
        · refine iteF ⟨_, _, _, rfl, s5, e5, skip ?_⟩
          rw [decide_eq_true_iff] at z1
          unfold boP
          rw [decide_eq_false z1, Bool.false_and]
      · obtain ⟨y8, y9, y10, rfl, s3, e3, hL3⟩ := h
        exact ⟨_, _, _, _, _, _, rfl, s3, e3, by rw [grid_next]; exact hL3⟩
    · obtain ⟨y5, y6, y7, y8, y9, y10, rfl, s1, e1, hL⟩ := h
      rw [List.take_of_length_le (by rw [boN_len]; exact Nat.le_refl _)] at e1
      obtain ⟨is, i1, i2, i3⟩ := hL
      refine ⟨.ref L1, rfl, .inl ⟨L1, _, rfl, lstNew e1, fun v nv => ?_⟩⟩
      have sv := same_upd (o := .tup ((boN ns ns').map V.int)) nv
      refine ⟨.ref L2, rfl, .inl ⟨L2, _, rfl, lstNew (sv _ _ i2), fun x nx => ?_⟩⟩
      have sx := same_upd (o := .tup (is.map fun q => V.ref q.1)) nx
      refine ⟨two, fun R nR => ?_⟩
      have sR := same_upd (o := .tup [.ref v, .ref x]) nR
      exact q _ R (s1.trans (sv.trans (sx.trans sR))) ⟨v, x, upd_same, tupNew (sR _ _ (sx _ _ upd_same)), is, i1, tupNew (sR _ _ upd_same), fun k hk => tupNew ((sv.trans (sx.trans sR)) _ _ (i3 k hk))⟩
end
end K43
set_option maxHeartbeats 4000000
namespace K43
open PySem PySem.Spec PyProof.Rows L2 RV
theorem own_shows {ns : List Int} {ps : List (List Int)} (M : Mir ns) (S : Stp ns ps) : Shows (d1 ns ps) := by
  have m8 := M.few
  have f := S.few
  refine shows_d1 (b := 8) (by decide) (fun n hn => ?_) (by omega) (fun p hp => ?_) (by omega)
  · have := M.inn n hn; omega
  · exact (show Pr (ns.length : Int) p from S.pair p hp).mono (by omega)
abbrev nTo : List Str := ["_law_ask", "_law_caught", "_law_found", "e"]
theorem scTo : FnScope nTo ["_law_ask"] (defScope sLTold) := ⟨rfl, rfl, rfl, by decide +kernel, rfl, by decide +kernel, by decide +kernel⟩
/-- what the law makes of an asked rule: its text, or that there would be too many marks -/
def TTt (K : PySem.W.Frag) (C CT : Addr) : (XK → Hp → VK → Prop) → Hp → VK → Prop := fun tl H Q => ∀ (H1 : Hp) (E : XK) (Q' : VK), Same H H1 →
  (∀ H', (∀ H'', Same H' H'' → Q (.str "many") H'') → E (.ref CT) none H') →
  (∀ (r : Addr) (ns : List Int) (ps : List (List Int)) (H' : Hp), RuleAt K C H' r ns ps → Mir ns → Stp ns ps → (∀ H'', Same H' H'' → Q (.str (d1 ns ps).shown) H'') → Q' (.ref r) H') → tl E H1 Q'
section
variable {X : Cx}
abbrev toCx (X : Cx) (g : Addr) (cdg : Value) (s : Shared) (H : Hp) : Cx := (cxOf C8.CX0 X.prog X.w X.K X.mg X.base nTo "_law_told" (defScope sLTold) g cdg X.A X.stack s H C8.E0).nox
theorem gives_to {C CT CR CN CF g : Addr} {cdg : Value} {q : Str} (T : Txt X.K X.mg C) (B : Bare X.mg) (R : Err X.K X.mg CT CR) (O : Oth X.K X.mg CT CN CF) (gd : X.A.guards = some []) (hu : ∀ s : Shared, (X.A.deeper (envOfC "_law_told" (defScope sLTold) s.heap.objs.size g cdg)).units + 65 < cLine) :
    LamX.GivesTo X nTo "_law_told" (defScope sLTold) g cdg (defBody sLTold) "_law_ask" q (TTt X.K C CT) := by
  intro f c' s H Q tl act hc h
  have hus := hu s
  refine ⟨_, pss_cons (ps_asg (pe_tup (pa_cons pe_non (pa_cons pe_non pa_nil))) (pg_tup rfl (pgs_cons (pg_name (i := 1) scTo.nd rfl (Or.inl rfl)) (pgs_cons (pg_name (i := 2) scTo.nd rfl (Or.inl rfl)) pgs_nil))))
    (pss_try_rest (i := 3) (c := .ref CR) (tb := fun W D σ H => ∃ Ech : XK, (∀ cls d σ' H', Ech cls d H' → σ'.length = 4 → W cls d σ' H') ∧ σ[0]? = some (some (.ref f)) ∧ H c' = some (LamX.CodeO c' q) ∧ tl Ech H (fun v H' => D.nx (σ.set 2 (some v)) H'))
      rfl rfl scTo.nd rfl rfl ⟨rfl, by decide, .inl R.gR⟩ takes0 (fun W pn xe tk _ => ?_)
      (fun ea oe cls d pn hz hf => pss_one (ps_set (i := 1) scTo.nd rfl (Or.inl rfl) (pv 3)))
      (pss_cons (ps_if (pt_cmpR op_isN (pv 1) pe_non (nomark _)) (pss_one (ps_ret (pe_callB (call_reprD gd hus) (by rfl) B.repr (by decide +kernel) (pa_cons (pe_tup (pa_cons (pe_fld (pv 2) rfl) (pa_cons (pe_fld (pv 2) rfl) pa_nil))) pa_nil)))) pss_nil) (pss_one ps_never))
      (fun ea oe cls d pn hz hf => pss_cons (ps_if (pt_cmpR op_isN (pv 1) pe_non (nomark _)) (pss_one ps_never) pss_nil)
        (pss_one (ps_ret (pe_ifExp (PW.pt (pw_and (pt_val (pe_callB (call_isP2 (X := (toCx X g cdg s H).tr ((ea, oe) :: pn) (toCx X g cdg s H).xe) (K := X.K) rfl (List.mem_cons_self ..) R.e hz hf) (by rfl) B.isinstance (by decide +kernel) (pa_cons (pv 1) (pa_cons (pe_glob (v := .ref CT) (by rfl) (by exact R.g) rfl) pa_nil)))) (pw_and1 (pt_not (pt_val (pe_callB (call_isPT2 (X := (toCx X g cdg s H).tr ((ea, oe) :: pn) (toCx X g cdg s H).xe) (K := X.K) rfl (List.mem_cons_self ..) R.e hz hf) (by rfl) B.isinstance (by decide +kernel) (pa_cons (pv 1) (pa_cons (pe_tup (pa_cons (pe_glob (v := .ref CN) (by rfl) (by exact O.gN) rfl) (pa_cons (pe_glob (v := .ref CF) (by rfl) (by exact O.gF) rfl) pa_nil))) pa_nil)))))))) pe_str pe_str))))), ?_⟩
  · refine ⟨fun pins s' σ H' D I h' => ?_⟩
    obtain ⟨Ech, hW, h1, h2, h3⟩ := h'
    exact (pss_one (ps_set (i := 2) scTo.nd rfl (Or.inl rfl) (act _ pn xe Ech _ _ (takes_len tk) fun cls d σ' H' e l => hW cls d σ' H' e l))).run pins s' σ H' D I ⟨h1, h2, h3⟩
  · refine ⟨by decide, fun U nU => ?_⟩
    have sU := same_upd (o := .tup [.non, .non]) nU
    refine ⟨U, _, rfl, tupNew upd_same, rfl, _, _, rfl, _, _, rfl, rfl, ?_⟩
    refine ⟨fun cls d H' => cls = .ref CT ∧ d = none ∧ ∀ H'', Same H' H'' → Q (.str "many") H'', fun cls d σ' H' ⟨e1, e2, e3⟩ l => ?_, rfl, sU _ _ hc, ?_⟩
    · subst e1 e2
      match σ', l with
      | [x0, x1, x2, x3], _ =>
        refine ⟨true, R.mR, (fun z => by cases z), fun _ a na => ?_⟩
        refine ⟨.ref a, rfl, ?_⟩
        refine nx_step ?_
        dsimp only
        refine ⟨.ref a, rfl, rfl, false, congrArg V.bl (decide_eq_false (fun z => by cases z)), iteF ?_⟩
        refine ⟨.ref a, rfl, rfl, rfl, .ref CT, _, true, rfl, fun u hu => hu, R.iT, true, rfl, iteT ?_⟩
        refine ⟨.ref a, rfl, (by show 2 ≤ sizeLine; decide), fun V nV => ?_⟩
        refine ⟨rfl, rfl, V, [.ref CN, .ref CF], [.ref CN, .ref CF], false, rfl, upd_same, fun us hv => ?_, kitAny_cons O.iN (fun _ => kitAny_cons O.iF (fun _ => kitAny_nil) (fun z => by cases z)) (fun z => by cases z), false, rfl, iteT (e3 _ (same_upd nV))⟩
        cases hv with
        | cons r1 r2 =>
          cases r2 with
          | cons r2 r3 =>
            cases r3
            cases r1
            cases r2
            rfl
    · refine h _ _ _ sU (fun H' e => ⟨rfl, rfl, e⟩) fun r ns ps H' R' M S e => ?_
      refine nx_step ?_
      dsimp only
      refine ⟨.non, rfl, rfl, true, congrArg V.bl (decide_eq_true rfl), iteT ?_⟩
      obtain ⟨dx, a0, b0, t0, g1, g2, g3, g4⟩ := R'.ex
      have sh := own_shows M S
      refine ⟨.ref r, rfl, r, C, dx, _, _, rfl, g1, T.cl, T.nM, flds_m _ _ _, .ref r, rfl, r, C, dx, _, _, rfl, g1, T.cl, T.nS, flds_s _ _ _, (by show 2 ≤ sizeLine; decide), fun V nV => ?_⟩
      have sV := same_upd (o := .tup [.ref a0, .ref b0]) nV
      exact ⟨V, RV.d1 ns ps, rfl, d1_dp upd_same (sqT_same sV g2) (g3.same sV), sh.h1, sh.h2, sh.h3, sh.h4, e _ sV⟩
end
end K43
set_option maxHeartbeats 4000000
namespace K43
open PySem PySem.Spec PyProof.Rows L2 RV
theorem mir_up {m : Nat} (h1 : 1 ≤ m) (h2 : m ≤ 8) : Mir (rgI 0 (m : Int)) := by
  have l : (rgI 0 (m : Int)).length = m := by rw [rgI_len]; omega
  refine ⟨by omega, by omega, fun i hi => ?_, fun k x hk => ?_⟩
  · obtain ⟨k, hk, e⟩ := List.getElem_of_mem hi
    have := rgI_get.mp (List.getElem?_eq_some_iff.mpr ⟨hk, e⟩)
    rw [l]; omega
  · rw [rgI_get] at hk ⊢
    omega
/-- two neighbours exchanged -/
def xch (ns : List Int) (k : Nat) : List Int := (ns.set k ((k : Int) + 1)).set (k + 1) (k : Int)
theorem xch_len (ns : List Int) (k : Nat) : (xch ns k).length = ns.length := by unfold xch; rw [List.length_set, List.length_set]
theorem xch_get {ns : List Int} {k : Nat} (hk : k + 1 < ns.length) (j : Nat) : (xch ns k)[j]? = if j = k then some ((k : Int) + 1) else if j = k + 1 then some (k : Int) else ns[j]? := by
  unfold xch
  by_cases e : j = k + 1
  · subst e
    rw [List.getElem?_set_self (by rw [List.length_set]; exact hk), if_neg (by omega), if_pos rfl]
  · rw [List.getElem?_set_ne (fun z => e z.symm)]
    by_cases e2 : j = k
    · subst e2
      rw [List.getElem?_set_self (by omega), if_pos rfl]
    · rw [List.getElem?_set_ne (fun z => e2 z.symm), if_neg e2, if_neg e]
theorem xch_mir {ns : List Int} {k : Nat} (M : Mir ns) (hk : k + 1 < ns.length) (e1 : ns[k]? = some (k : Int)) (e2 : ns[k + 1]? = some ((k : Int) + 1)) : Mir (xch ns k) := by
  refine ⟨by rw [xch_len]; exact M.pos, by rw [xch_len]; exact M.few, fun i hi => ?_, fun j x hj => ?_⟩
  · rw [xch_len]
    obtain ⟨j, hj, e⟩ := List.getElem_of_mem hi
    have g := List.getElem?_eq_some_iff.mpr ⟨hj, e⟩
    rw [xch_get hk] at g
    split at g
    · cases g; omega
    · split at g
      · cases g; omega
      · exact M.inn i (List.mem_of_getElem? g)
  · rw [xch_get hk] at hj ⊢
    by_cases c1 : j = k
    · rw [if_pos c1] at hj
      cases hj
      rw [if_neg (by omega), if_pos (by omega), c1]
    · rw [if_neg c1] at hj
      by_cases c2 : j = k + 1
      · rw [if_pos c2] at hj
        cases hj
        rw [if_pos (by omega), c2]; rfl
      · rw [if_neg c2] at hj
        have b := M.inn x (List.mem_of_getElem? hj)
        have bk := M.back j x hj
        rw [if_neg (fun z => by rw [z, e1] at bk; have := Option.some.inj bk; omega), if_neg (fun z => by rw [z, e2] at bk; have := Option.some.inj bk; omega)]
        exact bk
theorem ixN_at {n j : Nat} (hj : j < n) : ixN n (j : Int) = some j := by
  unfold ixN
  rw [if_pos (by omega), if_pos (by omega), Int.toNat_natCast]
section
variable {P : Program} {w : World} {K : PySem.W.Frag} {mg : Str → Option Value} {base : Heap}
/-! ### _law_mirrors -/
abbrev nDM : List Str := ["_law_hand_here", "_law_many", "_law_found", "_law_way", "_law_k"]
theorem scDM : FnScope nDM ["_law_hand_here", "_law_many"] (defScope sDMirrors) := ⟨rfl, rfl, rfl, by decide +kernel, rfl, by decide +kernel, by decide +kernel⟩
def spDM (K : PySem.W.Frag) : Sp := fun vs H Q _ => ∃ (p : Addr) (t m : Nat), vs = [.ref p, .int (m : Int)] ∧ PailAt H p t ∧ t ≤ 3000 ∧ 1 ≤ m ∧ m ≤ 8 ∧
  ∀ (H' : Hp) (u : Addr) (t' : Nat) (ns : List Int), PailAt H' p t' → t' ≤ t + 5 → But p H H' → H' u = some (.lst (ns.map V.int)) → H u = none → Mir ns → ns.length = m → Q (.ref u) H'
theorem rg_two {m : Nat} (m1 : 1 ≤ m) (m8 : m ≤ 8) : RgC 0 ((m : Int) - 1) 2 (m / 2) := by
  have h : m = 1 ∨ m = 2 ∨ m = 3 ∨ m = 4 ∨ m = 5 ∨ m = 6 ∨ m = 7 ∨ m = 8 := by omega
  rcases h with rfl | rfl | rfl | rfl | rfl | rfl | rfl | rfl <;> exact ⟨by decide, by decide, by decide +kernel, by decide +kernel⟩
theorem ok_dm {f fD : Addr} {fd fdD : FuncData} (F : Fun K "_law_mirrors" "_law_mirrors" sDMirrors f fd) (DD : DefAt K mg "_law_take" sDraw ["_law_hand_here", "_law_many"] fD fdD) (B : Bare mg) : FnOk P w K mg base CX0 2 f fd ["_law_hand_here", "_law_many"] (spDM K) := by
  have GD : FnOk P w K mg base CX0 1 fD fdD ["_law_hand_here", "_law_many"] spDraw := ok_draw DD.fn
  refine F.ok scDM (fun vs H Q E h => ?_) (fun cdv A outer s H vs Q E hr h => ?_)
  · obtain ⟨p, t, m, rfl, _⟩ := h
    rfl
  · obtain ⟨p, t, m, rfl, hp, ht, m1, m8, q⟩ := h
    have two : (2 : Nat) ≤ sizeLine := by decide
    refine ⟨_, pss_cons (ps_par (i := 2) (j := 3) (by rfl) scDM.nd rfl rfl (by decide) rfl rfl (pa_cons (pe_listRg rfl (by rfl) B.list (prg_1 (by rfl) B.range (pv 1))) (pa_cons (pe_call GD hr (by rfl) DD.mg DD.fn.kp DD.bi .nil pass0 (pa_cons (pv 0) (pa_cons pe_int pa_nil))) pa_nil)) (by rfl))
      (pss_cons (ps_for PassesOwn.never rfl (pi_range3 (by rfl) B.range (pa_cons pe_int (pa_cons (pe_op op_sub (pv 1) pe_int) (pa_cons pe_int pa_nil)))) (pg_name (i := 4) scDM.nd rfl (Or.inl rfl))
        (pss_one (ps_if (PW.pt (pw_or (PW.pt (pw_and (pt_cmpR op_eq (pv 3) pe_int (nomark _)) (pw_and1 (pt_cmpR op_eq (pe_call GD hr (by rfl) DD.mg DD.fn.kp DD.bi .nil pass0 (pa_cons (pv 0) (pa_cons pe_int pa_nil))) pe_int (nomark _))))) (pw_or1 (pt_cmpR op_eq (pv 3) pe_int (nomark _)))))
          (pss_one (ps_asg (pe_tup (pa_cons (pe_op op_add (pv 4) pe_int) (pa_cons (pv 4) pa_nil))) (pg_tup rfl (pgs_cons (pg_sub (pv 2) (pv 4) set_list) (pgs_cons (pg_sub (pv 2) (pe_op op_add (pv 4) pe_int) set_list) pgs_nil))))) pss_nil)))
      (pss_one (ps_ret (pv 2)))), ?_⟩
    refine ⟨.int (m : Int), rfl, (m : Int), rfl, RgOk.of_le (by omega) (by omega) (by omega) (by omega), fun b nb => ?_⟩
    have sb := same_upd (o := .lst (rgV 0 (m : Int))) nb
    have hbp : b ≠ p := pail_ne hp nb
    have eb0 : (upd H b (.lst (rgV 0 (m : Int)))) b = some (.lst ((rgI 0 (m : Int)).map V.int)) := by rw [upd_same, rgV_rgI]
    have hp0 := pail_same hp sb
    generalize upd H b (.lst (rgV 0 (m : Int))) = H0 at sb eb0 hp0 ⊢
    refine ⟨.ref p, rfl, p, t, 3, rfl, hp0, by omega, by decide, by decide, fun wy t1 H1 w0 w1 ht1 hp1 b1 => ⟨_, _, rfl, ?_⟩⟩
    dsimp only
    have eb1 := b1 _ _ eb0 hbp
    have b01 : But p H H1 := (But.of sb).trans b1
    refine ⟨.int (m : Int), rfl, _, _, rfl, rfl, 0, (m : Int) - 1, 2, m / 2, rfl, rg_two m1 m8, ?_⟩
    refine for_rangeC (lo := 0) (c := 2) (n := m / 2) (fun i σ H' => ∃ (y4 : Option V) (t' : Nat) (ns : List Int), σ = [some (.ref p), some (.int (m : Int)), some (.ref b), some (.int wy), y4] ∧ PailAt H' p t' ∧ t' ≤ t1 + i ∧ But p H H' ∧ H' b = some (.lst (ns.map V.int)) ∧ Mir ns ∧ ns.length = m ∧ ∀ j, 2 * i ≤ j → j < m → ns[j]? = some (j : Int))
      ⟨_, t1, _, rfl, hp1, by omega, b01, eb1, mir_up m1 m8, by rw [rgI_len]; omega, fun j _ hj => rgI_get.mpr (by omega)⟩ (fun i σ H2 hi h => ?_) (fun σ H2 h => ?_)
    · obtain ⟨y4, t2, ns, rfl, hp2, ht2, b2, eb2, M, ln, hid⟩ := h
      rw [show (0 + ((i : Nat) : Int) * 2) = ((2 * i : Nat) : Int) by omega]
      have hk : 2 * i + 1 < ns.length := by omega
      have g1 := hid (2 * i) (Nat.le_refl _) (by omega)
      have g2 := hid (2 * i + 1) (by omega) (by omega)
      have stay : ∀ (H3 : Hp) (t3 : Nat), PailAt H3 p t3 → t3 ≤ t2 + 1 → But p H2 H3 → ∃ (y4 : Option V) (t' : Nat) (ns : List Int), [some (V.ref p), some (V.int (m : Int)), some (V.ref b), some (V.int wy), some (V.int ((2 * i : Nat) : Int))] = [some (.ref p), some (.int (m : Int)), some (.ref b), some (.int wy), y4] ∧ PailAt H3 p t' ∧ t' ≤ t1 + (i + 1) ∧ But p H H3 ∧ H3 b = some (.lst (ns.map V.int)) ∧ Mir ns ∧ ns.length = m ∧ ∀ j, 2 * (i + 1) ≤ j → j < m → ns[j]? = some (j : Int) := fun H3 t3 h3 l3 b3 =>
        ⟨_, t3, ns, rfl, h3, by omega, b2.trans b3, b3 _ _ eb2 hbp, M, ln, fun j h1 h2 => hid j (by omega) h2⟩
      have swap : ∀ (H3 : Hp) (t3 : Nat) (T : Addr), PailAt H3 p t3 → t3 ≤ t2 + 1 → But p H2 H3 → H3 T = none → ∃ (y4 : Option V) (t' : Nat) (ns' : List Int), [some (V.ref p), some (V.int (m : Int)), some (V.ref b), some (V.int wy), some (V.int ((2 * i : Nat) : Int))] = [some (.ref p), some (.int (m : Int)), some (.ref b), some (.int wy), y4] ∧ PailAt (upd (upd (upd H3 T (.tup [.int (((2 * i : Nat) : Int) + 1), .int ((2 * i : Nat) : Int)])) b (.lst ((ns.map V.int).set (2 * i) (.int (((2 * i : Nat) : Int) + 1))))) b (.lst (((ns.map V.int).set (2 * i) (.int (((2 * i : Nat) : Int) + 1))).set (2 * i + 1) (.int ((2 * i : Nat) : Int))))) p t' ∧ t' ≤ t1 + (i + 1) ∧ But p H (upd (upd (upd H3 T (.tup [.int (((2 * i : Nat) : Int) + 1), .int ((2 * i : Nat) : Int)])) b (.lst ((ns.map V.int).set (2 * i) (.int (((2 * i : Nat) : Int) + 1))))) b (.lst (((ns.map V.int).set (2 * i) (.int (((2 * i : Nat) : Int) + 1))).set (2 * i + 1) (.int ((2 * i : Nat) : Int))))) ∧ (upd (upd (upd H3 T (.tup [.int (((2 * i : Nat) : Int) + 1), .int ((2 * i : Nat) : Int)])) b (.lst ((ns.map V.int).set (2 * i) (.int (((2 * i : Nat) : Int) + 1))))) b (.lst (((ns.map V.int).set (2 * i) (.int (((2 * i : Nat) : Int) + 1))).set (2 * i + 1) (.int ((2 * i : Nat) : Int))))) b = some (.lst (ns'.map V.int)) ∧ Mir ns' ∧ ns'.length = m ∧ ∀ j, 2 * (i + 1) ≤ j → j < m → ns'[j]? = some (j : Int) := fun H3 t3 T h3 l3 b3 nT => by
        have sT := same_upd (o := .tup [.int (((2 * i : Nat) : Int) + 1), .int ((2 * i : Nat) : Int)]) nT
        refine ⟨_, t3, xch ns (2 * i), rfl, pail_set (pail_set (pail_same h3 sT) hbp) hbp, by omega, fun k o e z => ?_, ?_, xch_mir M hk g1 (by rw [g2]; rfl), by rw [xch_len]; exact ln, fun j h1 h2 => ?_⟩
        · rw [upd_ne (ne_of_none e nb), upd_ne (ne_of_none e nb)]; exact sT _ _ ((b2.trans b3) k o e z)
        · rw [upd_same]; unfold xch; rw [List.map_set, List.map_set]
        · rw [xch_get hk, if_neg (by omega), if_neg (by omega)]; exact hid j (by omega) h2
      have put : ∀ (H3 : Hp) (t3 : Nat), PailAt H3 p t3 → t3 ≤ t2 + 1 → But p H2 H3 → H3 b = some (.lst (ns.map V.int)) ∧ ixN (ns.map V.int).length ((2 * i : Nat) : Int) = some (2 * i) ∧ ixN ((ns.map V.int).set (2 * i) (V.int (((2 * i : Nat) : Int) + 1))).length (((2 * i : Nat) : Int) + 1) = some (2 * i + 1) := fun H3 t3 h3 l3 b3 => ⟨b3 _ _ eb2 hbp, ixN_at (by rw [List.length_map]; omega), by
        rw [show (((2 * i : Nat) : Int) + 1) = ((2 * i + 1 : Nat) : Int) by omega]; exact ixN_at (by rw [List.length_set, List.length_map]; omega)⟩
      refine ⟨.int wy, rfl, rfl, _, rfl, ite2 (fun _ => ?_) (fun _ => ?_)⟩
      · refine ⟨.ref p, rfl, p, t2, 2, rfl, hp2, by omega, by decide, by decide, fun r t3 H3 r0 r1 ht3 hp3 b3 => ⟨rfl, _, rfl, ite2 (fun _ => iteT ?_) (fun _ => ?_)⟩⟩
        · obtain ⟨p1, p2, p3⟩ := put H3 t3 hp3 (by omega) b3
          refine ⟨.int ((2 * i : Nat) : Int), rfl, _, 1, rfl, rfl, .int ((2 * i : Nat) : Int), rfl, two, fun T nT => ?_⟩
          have eb4 := (same_upd (o := .tup [.int (((2 * i : Nat) : Int) + 1), .int ((2 * i : Nat) : Int)]) nT) _ _ p1
          refine ⟨T, _, rfl, tupNew upd_same, rfl, _, _, rfl, .ref b, rfl, .int ((2 * i : Nat) : Int), rfl, b, _, _, 2 * i, rfl, rfl, eb4, p2, ?_⟩
          refine ⟨_, _, rfl, .ref b, rfl, .int ((2 * i : Nat) : Int), rfl, _, 1, rfl, rfl, b, _, _, 2 * i + 1, rfl, rfl, upd_same, p3, rfl, ?_⟩
          exact swap H3 t3 T hp3 (by omega) b3 nT
        · refine ⟨.int wy, rfl, rfl, _, rfl, ite2 (fun _ => ?_) (fun _ => ?_)⟩
          · obtain ⟨p1, p2, p3⟩ := put H3 t3 hp3 (by omega) b3
            refine ⟨.int ((2 * i : Nat) : Int), rfl, _, 1, rfl, rfl, .int ((2 * i : Nat) : Int), rfl, two, fun T nT => ?_⟩
            have eb4 := (same_upd (o := .tup [.int (((2 * i : Nat) : Int) + 1), .int ((2 * i : Nat) : Int)]) nT) _ _ p1
            refine ⟨T, _, rfl, tupNew upd_same, rfl, _, _, rfl, .ref b, rfl, .int ((2 * i : Nat) : Int), rfl, b, _, _, 2 * i, rfl, rfl, eb4, p2, ?_⟩
            refine ⟨_, _, rfl, .ref b, rfl, .int ((2 * i : Nat) : Int), rfl, _, 1, rfl, rfl, b, _, _, 2 * i + 1, rfl, rfl, upd_same, p3, rfl, ?_⟩
            exact swap H3 t3 T hp3 (by omega) b3 nT
          · exact stay H3 t3 hp3 (by omega) b3
      · refine iteF ?_
        refine ⟨.int wy, rfl, rfl, _, rfl, ite2 (fun _ => ?_) (fun _ => ?_)⟩
        · obtain ⟨p1, p2, p3⟩ := put H2 t2 hp2 (by omega) (But.of (Same.refl _))
          refine ⟨.int ((2 * i : Nat) : Int), rfl, _, 1, rfl, rfl, .int ((2 * i : Nat) : Int), rfl, two, fun T nT => ?_⟩
          have eb4 := (same_upd (o := .tup [.int (((2 * i : Nat) : Int) + 1), .int ((2 * i : Nat) : Int)]) nT) _ _ p1
          refine ⟨T, _, rfl, tupNew upd_same, rfl, _, _, rfl, .ref b, rfl, .int ((2 * i : Nat) : Int), rfl, b, _, _, 2 * i, rfl, rfl, eb4, p2, ?_⟩
          refine ⟨_, _, rfl, .ref b, rfl, .int ((2 * i : Nat) : Int), rfl, _, 1, rfl, rfl, b, _, _, 2 * i + 1, rfl, rfl, upd_same, p3, rfl, ?_⟩
          exact swap H2 t2 T hp2 (by omega) (But.of (Same.refl _)) nT
        · exact stay H2 t2 hp2 (by omega) (But.of (Same.refl _))
    · obtain ⟨y4, t2, ns, rfl, hp2, ht2, b2, eb2, M, ln, _⟩ := h
      exact ⟨.ref b, rfl, q _ b t2 ns hp2 (by omega) b2 eb2 nb M ln⟩
end
end K43
set_option maxHeartbeats 4000000
namespace K43
open PySem PySem.Spec PyProof.Rows L2 RV
section
variable {P : Program} {w : World} {K : PySem.W.Frag} {mg : Str → Option Value} {base : Heap}
/-! ### _law_rule -/
abbrev nRu : List Str := ["_law_hand_here", "_law_least", "_law_most", "_law_many", "_law_mirrors_here", "_law_share", "_law_pairs", "_law_one_r", "_law_other_r", "_law_k"]
theorem scRu : FnScope nRu ["_law_hand_here", "_law_least", "_law_most"] (defScope sRule) := ⟨rfl, rfl, rfl, by decide +kernel, rfl, by decide +kernel, by decide +kernel⟩
def spRu (K : PySem.W.Frag) : Sp := fun vs H Q _ => ∃ (p : Addr) (t : Nat), vs = [.ref p, .int 1, .int 5] ∧ PailAt H p t ∧ t ≤ 2900 ∧
  ∀ (H' : Hp) (R : Addr) (t' : Nat) (ns : List Int) (ps : List (List Int)), PailAt H' p t' → t' ≤ t + 40 → But p H H' → OwnH K H' R ns ps → ns.length ≤ 5 → Q (.ref R) H'
theorem ok_ru {f fM fC fD : Addr} {fd dM dC fdD : FuncData} (F : Fun K "_law_rule" "_law_rule" sRule f fd) (DM : DefAt K mg "_law_mirrors" sDMirrors ["_law_hand_here", "_law_many"] fM dM) (DC : DefAt K mg "_law_closed" sClosed ["_law_mirrors_here", "_law_pairs"] fC dC) (DD : DefAt K mg "_law_take" sDraw ["_law_hand_here", "_law_many"] fD fdD) (B : Bare mg) : FnOk P w K mg base CX0 3 f fd ["_law_hand_here", "_law_least", "_law_most"] (spRu K) := by
  have GD : FnOk P w K mg base CX0 1 fD fdD ["_law_hand_here", "_law_many"] spDraw := ok_draw DD.fn
  have GM : FnOk P w K mg base CX0 2 fM dM ["_law_hand_here", "_law_many"] (spDM K) := ok_dm DM.fn DD B
  have GC : FnOk P w K mg base CX0 1 fC dC ["_law_mirrors_here", "_law_pairs"] (spClo K) := ok_closed DC.fn B
  refine F.ok scRu (fun vs H Q E h => ?_) (fun cdv A outer s H vs Q E hr h => ?_)
  · obtain ⟨p, t, rfl, _⟩ := h
    rfl
  · obtain ⟨p, t, rfl, hp, ht, q⟩ := h
    have r1 := hr.mono (show 1 ≤ 2 by decide)
    have two : (2 : Nat) ≤ sizeLine := by decide
    have three : (3 : Nat) ≤ sizeLine := by decide
    refine ⟨_, pss_cons (ps_set (i := 3) scRu.nd rfl (Or.inr rfl) (pe_op op_add (pv 1) (pe_call GD r1 (by rfl) DD.mg DD.fn.kp DD.bi .nil pass0 (pa_cons (pv 0) (pa_cons (pe_op op_add (pe_op op_sub (pv 2) (pv 1)) pe_int) pa_nil)))))
      (pss_cons (ps_par3 (i := 4) (j := 5) (l := 6) (by rfl) scRu.nd rfl rfl rfl (by decide) (by decide) (by decide) rfl rfl rfl (pa_cons (pe_call GM hr (by rfl) DM.mg DM.fn.kp DM.bi .nil pass0 (pa_cons (pv 0) (pa_cons (pv 3) pa_nil))) (pa_cons (pe_op op_add pe_int (pe_call GD r1 (by rfl) DD.mg DD.fn.kp DD.bi .nil pass0 (pa_cons (pv 0) (pa_cons pe_int pa_nil)))) (pa_cons (pe_lst pa_nil) pa_nil))) (by rfl))
      (pss_cons (ps_if (pt_cmpR op_eq (pe_call GD r1 (by rfl) DD.mg DD.fn.kp DD.bi .nil pass0 (pa_cons (pv 0) (pa_cons pe_int pa_nil))) pe_int (nomark _))
        (pss_one (ps_setLc (i := 6) (own := [("_law_k", 9)]) (g := gName 9) (tt := tYes) rfl scRu.nd rfl rfl (by rfl) (pi_range1 (by rfl) B.range (pa_cons (pv 3) pa_nil)) (blkOk_by (N := nRu) (sc := defScope sRule) (by decide +kernel)) (fun _ _ _ _ _ => pg_name (i := 9) scRu.nd rfl (Or.inl rfl)) (fun _ _ _ _ _ => pts_nil)
          (fun _ _ _ _ _ => pe_tup (pa_cons (pv 9) (pa_cons (pe_op op_mod (pe_op op_add (pv 9) pe_int) (pv 3)) pa_nil))))) pss_nil)
      (pss_cons (ps_for PassesOwn.never rfl (pi_range1 (by rfl) B.range (pa_cons (pv 3) pa_nil)) (pg_name (i := 7) scRu.nd rfl (Or.inl rfl))
        (pss_one (ps_for PassesOwn.never rfl (pi_range1 (by rfl) B.range (pa_cons (pv 3) pa_nil)) (pg_name (i := 8) scRu.nd rfl (Or.inl rfl))
          (pss_one (ps_if (pt_cmpR op_lt (pe_call GD r1 (by rfl) DD.mg DD.fn.kp DD.bi .nil pass0 (pa_cons (pv 0) (pa_cons pe_int pa_nil))) (pv 5) (nomark _))
            (pss_one (ps_expr (pe_bm PySem.F.plainAttrs_list PySem.F.slot_list_append PySem.F.type_list_append mt_append (pv 6) (pa_cons (pe_tup (pa_cons (pv 7) (pa_cons (pv 8) pa_nil))) pa_nil)))) pss_nil)))))
      (pss_one (ps_ret (pe_call GC r1 (by rfl) DC.mg DC.fn.kp DC.bi .nil pass0 (pa_cons (pv 4) (pa_cons (pv 6) pa_nil)))))))), ?_⟩
    refine ⟨.int 1, rfl, .ref p, rfl, .int 5, rfl, .int 1, rfl, _, _, rfl, rfl, _, _, rfl, rfl, p, t, 5, rfl, hp, by omega, by decide, by decide, fun mm t1 H1 m0 m1 ht1 hp1 b1 => ⟨_, _, rfl, rfl, ?_⟩⟩
    obtain ⟨n, en⟩ : ∃ n : Nat, 1 + mm = (n : Int) := ⟨(1 + mm).toNat, by omega⟩
    show gName 3 (V.int (1 + mm)) _ _ _
    rw [en]
    have hn1 : 1 ≤ n ∧ n ≤ 5 := by omega
    refine ⟨.ref p, rfl, .int (n : Int), rfl, p, t1, n, rfl, hp1, by omega, hn1.1, by omega, fun H2 u t2 ns hp2 ht2 b2 eu nu M ln => ?_⟩
    have hup : u ≠ p := pail_ne hp1 nu
    refine ⟨.ref p, rfl, p, t2, 4, rfl, hp2, by omega, by decide, by decide, fun sh t3 H3 sh0 sh1 ht3 hp3 b3 => ⟨_, _, rfl, rfl, Nat.zero_le _, fun L nL => ⟨_, _, _, rfl, ?_⟩⟩⟩
    dsimp only
    have eu3 := b3 _ _ eu hup
    have sL := same_upd (o := .lst []) nL
    have eL : (upd H3 L (.lst [])) L = some (.lst []) := upd_same
    have eu4 := sL _ _ eu3
    have hp4 := pail_same hp3 sL
    have b04 : But p H _ := ((b1.trans b2).trans b3).trans (But.of sL)
    have hLu : L ≠ u := (ne_of_none eu3 nL).symm
    have nLH : H L = none := but_free ((b1.trans b2).trans b3) hp3 nL
    have hLp : L ≠ p := pail_ne hp3 nL
    have nuH : H u = none := but_free b1 hp1 nu
    generalize upd H3 L (.lst []) = H4 at eL eu4 hp4 b04 ⊢
    refine seq_mid (fun σ H' => ∃ (L' : Addr) (t' : Nat) (y9 : Option V), σ = [some (.ref p), some (.int 1), some (.int 5), some (.int (n : Int)), some (.ref u), some (.int (1 + sh)), some (.ref L'), none, none, y9] ∧ But p H H' ∧ H' u = some (.lst (ns.map V.int)) ∧ PailAt H' p t' ∧ t' ≤ t + 9 ∧ PairsH (n : Int) H' L' 5 ∧ L' ≠ p ∧ L' ≠ u ∧ H L' = none) (fun σ H' h => ?_) (fun tail => ?_)
    · obtain ⟨L', t5, y9, rfl, b5, eu5, hp5, ht5, hL5, hLp', hLu', nL'⟩ := h
      refine ⟨.int (n : Int), rfl, (n : Int), rfl, by omega, by omega, ?_⟩
      rw [Int.toNat_natCast]
      refine for_range (lo := 0) (n := n) (fun i σ H' => ∃ (y7 y8 : Option V) (t' : Nat), σ = [some (.ref p), some (.int 1), some (.int 5), some (.int (n : Int)), some (.ref u), some (.int (1 + sh)), some (.ref L'), y7, y8, y9] ∧ But p H H' ∧ H' u = some (.lst (ns.map V.int)) ∧ PailAt H' p t' ∧ t' ≤ t5 + 5 * i ∧ PairsH (n : Int) H' L' (5 + 5 * i))
        ⟨_, _, t5, rfl, b5, eu5, hp5, by omega, hL5⟩ (fun i σ H6 hi h => ?_) (fun σ H6 h => ?_)
      · obtain ⟨y7, y8, t6, rfl, b6, eu6, hp6, ht6, hL6⟩ := h
        rw [show (0 : Int) + (i : Int) = (i : Int) by omega]
        refine ⟨.int (n : Int), rfl, (n : Int), rfl, by omega, by omega, ?_⟩
        rw [Int.toNat_natCast]
        refine for_range (lo := 0) (n := n) (fun j σ H' => ∃ (y8 : Option V) (t' : Nat), σ = [some (.ref p), some (.int 1), some (.int 5), some (.int (n : Int)), some (.ref u), some (.int (1 + sh)), some (.ref L'), some (.int (i : Int)), y8, y9] ∧ But p H H' ∧ H' u = some (.lst (ns.map V.int)) ∧ PailAt H' p t' ∧ t' ≤ t5 + 5 * i + j ∧ PairsH (n : Int) H' L' (5 + 5 * i + j))
          ⟨_, t6, rfl, b6, eu6, hp6, by omega, hL6⟩ (fun j σ H7 hj h => ?_) (fun σ H7 h => ?_)
        · obtain ⟨y8, t7, rfl, b7, eu7, hp7, ht7, hL7⟩ := h
          rw [show (0 : Int) + (j : Int) = (j : Int) by omega]
          refine ⟨.ref p, rfl, p, t7, 8, rfl, hp7, by omega, by decide, by decide, fun r t8 H8 r0 r1 ht8 hp8 b8 => ⟨.int (1 + sh), rfl, _, _, rfl, rfl, _, rfl, ite2 (fun _ => ?_) (fun _ => ?_)⟩⟩
          · have hL8 := hL7.but hp7 b8 hLp'
            obtain ⟨vs, eL8, hvl⟩ := hL8.lst
            refine ⟨.ref L', rfl, .inl ⟨rfl, _, lstNew eL8⟩, .int (i : Int), rfl, .int (j : Int), rfl, two, fun T nT => ?_⟩
            have sT := same_upd (o := .tup [.int (i : Int), .int (j : Int)]) nT
            refine ⟨L', _, _, rfl, rfl, sT _ _ eL8, few1 (by omega), _, t8, rfl, fun k o e z => ?_, ?_, pail_set (pail_same hp8 sT) hLp', by omega, hL8.add eL8 nT (by omega) (by omega)⟩
            · rw [upd_ne (ne_of_none e nL')]; exact sT _ _ ((b7.trans b8) k o e z)
            · rw [upd_ne hLu'.symm]; exact sT _ _ (b8 _ _ eu7 hup)
          · exact ⟨_, t8, rfl, b7.trans b8, b8 _ _ eu7 hup, hp8, by omega, (hL7.but hp7 b8 hLp').le (by omega)⟩
        · obtain ⟨y8, t7, rfl, b7, eu7, hp7, ht7, hL7⟩ := h
          exact ⟨_, _, t7, rfl, b7, eu7, hp7, by omega, hL7.le (by omega)⟩
      · obtain ⟨y7, y8, t6, rfl, b6, eu6, hp6, ht6, hL6⟩ := h
        obtain ⟨qs, hq, hpr, hql⟩ := hL6
        refine ⟨.ref u, rfl, .ref L', rfl, u, L', ns, qs, rfl, lstNew eu6, hq, M, fun z hz => by rw [ln]; exact hpr z hz, by omega, fun H7 R ps s7 O => ?_⟩
        exact q H7 R t6 ns ps (pail_same hp6 s7) (by omega) (b6.trans (But.of s7)) O (by omega)
    · refine ⟨.ref p, rfl, p, t3, 2, rfl, hp4, by omega, by decide, by decide, fun r t5 H5 r0 r1 ht5 hp5 b5 => ⟨rfl, _, rfl, ite2 (fun _ => ?_) (fun _ => ?_)⟩⟩
      · refine ⟨.int (n : Int), rfl, (n : Int), rfl, by omega, by omega, fun D nD => ?_⟩
        have eu5 := b5 _ _ eu4 hup
        have hDu : D ≠ u := (ne_of_none eu5 nD).symm
        have hDp : D ≠ p := pail_ne hp5 nD
        have nDH : H D = none := but_free (b04.trans b5) hp5 nD
        have sD := same_upd (o := .lst []) nD
        rw [Int.toNat_natCast]
        refine lc_range (lo := 0) (n := n) (fun i H' => But p H H' ∧ PailAt H' p t5 ∧ H' u = some (.lst (ns.map V.int)) ∧ PairsH (n : Int) H' D i)
          ⟨(b04.trans b5).trans (But.of sD), pail_same hp5 sD, sD _ _ eu5, PairsH.nil upd_same⟩ (fun i H7 hi h => ?_) fun H7 h => ?_
        · obtain ⟨b7, hp7, eu7, hD7⟩ := h
          rw [show (0 : Int) + (i : Int) = (i : Int) by omega]
          obtain ⟨vs, eD7, hvl⟩ := hD7.lst
          refine ⟨by simp [wipe, List.set_set], tt_yes ⟨.int (i : Int), rfl, .int (i : Int), rfl, _, _, rfl, rfl, .int (n : Int), rfl, _, _, rfl, rfl, (show (0 : Int) < n by omega), two, fun T nT => ?_⟩⟩
          have sT := same_upd (o := .tup [.int (i : Int), .int (((i : Int) + 1) % (n : Int))]) nT
          refine ⟨_, sT _ _ eD7, few1 (by omega), fun k o e z => ?_, pail_set (pail_same hp7 sT) hDp, ?_, hD7.add eD7 nT (by omega) ⟨Int.emod_nonneg _ (by omega), Int.emod_lt_of_pos _ (by omega)⟩⟩
          · rw [upd_ne (ne_of_none e nDH)]; exact sT _ _ (b7 k o e z)
          · rw [upd_ne hDu.symm]; exact sT _ _ eu7
        · obtain ⟨b7, hp7, eu7, hD7⟩ := h
          exact tail _ _ ⟨D, t5, _, rfl, b7, eu7, hp7, by omega, hD7.le (by omega), hDp, hDu, nDH⟩
      · exact tail _ _ ⟨L, t5, _, rfl, b04.trans b5, b5 _ _ eu4 hup, hp5, by omega, (PairsH.nil (b5 _ _ eL hLp)).le (by omega), hLp, hLu, nLH⟩
end
end K43
set_option maxHeartbeats 4000000
/-! a text in a tuple of texts -/
namespace RV
open PySem PySem.Spec PyProof.Rows L2
theorem lay_strs : ∀ ss : List Str, (∀ s ∈ ss, PyData.strOk s = true) → PyData.canLayAll0 (ss.map PyData.str) = true
  | [], _ => by simp [PyData.canLayAll0]
  | s :: r, h => by
    have h1 := h s List.mem_cons_self
    have h2 := lay_strs r fun x hx => h x (List.mem_cons_of_mem _ hx)
    simp only [List.map_cons, PyData.canLayAll0, PyData.canLay0, h1, h2, Bool.and_self]
theorem dpStrs {K : PySem.W.Frag} {H : Hp} : ∀ ss : List Str, DpAll K H (ss.map V.str) (ss.map PyData.str)
  | [] => .nil
  | s :: r => .cons (.str s) (dpStrs r)
theorem any_str (x : Str) : ∀ ss : List Str, (ss.map PyData.str).any (fun y => PyData.eqv y (.str x)) = ss.any (fun y => y == x)
  | [] => rfl
  | s :: r => by
    rw [List.map_cons, List.any_cons, any_str x r, List.any_cons]
    rfl
section
variable {X : Cx}
def rInTS (K : PySem.W.Frag) : R2 := fun x y H Q => ∃ (b : Addr) (s : Str) (ss : List Str), x = .str s ∧ y = .ref b ∧ SqT K H b (ss.map V.str) ∧ PyData.strOk s = true ∧ (∀ z ∈ ss, PyData.strOk z = true) ∧ Q (.bl (ss.any fun y => y == s)) H
theorem op_inTS (hu : X.A.units + 65 < cLine) : OpR X (compareOp .In) (rInTS X.K) := by
  intro pins s σ H x y v u Q I rx ry h
  obtain ⟨b, n, ns, rfl, rfl, h2, o1, o2, q⟩ := h
  obtain ⟨as, r1⟩ := Dp.reads I (.str n) (.str n) v (.str n) rx
  obtain ⟨bs, r2⟩ := Dp.reads I (.tuple (ns.map PyData.str)) (.ref b) u (.tup h2 (dpStrs ns)) ry
  refine SeqAt.in_tuple_reads (xs := ns.map PyData.str) r2 r1 (lay_strs ns o2) (by simp only [PyData.canLay0, o1]) ?_ ⟨.bl _, H, I, rfl, ?_⟩
  · have := Nat.min_le_right (PyData.depthAll (ns.map PyData.str)) (PyData.str n).depth
    have e : (PyData.str n).depth = 0 := by simp [PyData.depth]
    omega
  · rw [any_str]; exact q
end
end RV
set_option maxHeartbeats 4000000
/-! what repr tells of tuples of ints may be compared -/
namespace RV
open PySem PySem.Spec PyProof.Rows L2
theorem sk_append {a b : Str} (h1 : PyData.strOk a = true) (h2 : PyData.strOk b = true) : PyData.strOk (a ++ b) = true := by
  unfold PyData.strOk at h1 h2 ⊢
  rw [show (a ++ b).cps = a.cps ++ b.cps from rfl]
  rw [Array.all_append, h1, h2]; rfl
theorem sk_join {sep : Str} (h : PyData.strOk sep = true) : ∀ ss : List Str, (∀ s ∈ ss, PyData.strOk s = true) → PyData.strOk (Str.join sep ss) = true
  | [], _ => by simp [Str.join, Str.empty, PyData.strOk]
  | [x], hx => hx x List.mem_cons_self
  | x :: y :: r, hx => sk_append (sk_append (hx x List.mem_cons_self) h) (sk_join h (y :: r) fun s hs => hx s (List.mem_cons_of_mem _ hs))
theorem sk_of (s : String) : PyData.strOk (Str.ofString s) = true := by
  have e : Str.ofString s = Str.ofStringByList s := congrFun Str.ofString_eq_byList s
  rw [e]
  unfold PyData.strOk Str.ofStringByList
  rw [List.all_toArray]
  refine List.all_eq_true.mpr fun n hn => ?_
  obtain ⟨c, _, rfl⟩ := List.mem_map.mp hn
  have h := c.valid
  have h2 : c.toNat < 0x110000 := by
    rcases h with h | ⟨_, h⟩
    · exact Nat.lt_trans h (by decide)
    · exact h
  exact decide_eq_true h2
theorem sk_tuple {ts : List Str} (h : ∀ s ∈ ts, PyData.strOk s = true) : PyData.strOk (tupleText ts) = true := by
  unfold tupleText
  refine sk_append (sk_append (sk_of _) (sk_join (sk_of _) ts h)) ?_
  split <;> exact sk_of _
theorem sk_ints (ns : List Int) : ∀ s ∈ PyData.shownAll (ns.map PyData.int), PyData.strOk s = true := by
  induction ns with
  | nil => intro s hs; cases hs
  | cons n r ih =>
    intro s hs
    simp only [List.map_cons, PyData.shownAll, List.mem_cons] at hs
    rcases hs with rfl | hs
    · exact sk_of _
    · exact ih s hs
theorem sk_dI (ns : List Int) : PyData.strOk (dI ns).shown = true := by
  unfold dI
  simp only [PyData.shown]
  exact sk_tuple (sk_ints ns)
theorem sk_dIs (ps : List (List Int)) : ∀ s ∈ PyData.shownAll (ps.map dI), PyData.strOk s = true := by
  induction ps with
  | nil => intro s hs; cases hs
  | cons n r ih =>
    intro s hs
    simp only [List.map_cons, PyData.shownAll, List.mem_cons] at hs
    rcases hs with rfl | hs
    · exact sk_dI n
    · exact ih s hs
theorem sk_d1 (ns : List Int) (ps : List (List Int)) : PyData.strOk (d1 ns ps).shown = true := by
  unfold d1 dTT
  simp only [PyData.shown, PyData.shownAll]
  refine sk_tuple fun s hs => ?_
  rcases List.mem_cons.mp hs with rfl | hs
  · exact sk_dI ns
  · rcases List.mem_cons.mp hs with rfl | hs
    · exact sk_tuple (sk_dIs ps)
    · cases hs
/-- a list of texts as data -/
theorem shaped_strs {ss : List Str} (h : ∀ s ∈ ss, PyData.strOk s = true) : SeqAt.shaped (.list (ss.map PyData.str)) = true := by
  have h1 : (PyData.list (ss.map PyData.str)).canLay0 = true := by simp only [PyData.canLay0]; exact lay_strs ss h
  have h2 : ∀ ss : List Str, PyData.depthAll (ss.map PyData.str) ≤ 1 := by
    intro ss
    induction ss with
    | nil => simp [PyData.depthAll]
    | cons x r ih => simp only [List.map_cons, PyData.depthAll, PyData.depth]; omega
  have h3 : (PyData.list (ss.map PyData.str)).depth ≤ 64 := by
    have := h2 ss
    simp only [PyData.depth]; omega
  show ((PyData.list (ss.map PyData.str)).canLay0 && decide ((PyData.list (ss.map PyData.str)).depth ≤ 64)) = true
  rw [h1, decide_eq_true h3]; rfl
/-- repr of a list of two of these -/
theorem shows_two {x y : PyData} (hx : Shows x) (hy : Shows y) (lx : x.shown.length ≤ 1000000) (ly : y.shown.length ≤ 1000000) (dx : x.depth ≤ 10) (dy : y.depth ≤ 10) : Shows (.list [x, y]) := by
  refine ⟨?_, ?_, ?_, ?_⟩
  · simp [PyData.showable, PyData.showableAll, hx.h1, hy.h1]
  · simp [PyData.hasDict, PyData.hasDictAll, hx.h2, hy.h2]
  · simp only [PyData.depth, PyData.depthAll]; omega
  · have h := listText_len_le (PyData.shownAll [x, y])
    simp only [PyData.shown, PyData.shownAll] at h ⊢
    simp only [List.map_cons, List.map_nil, List.sum_cons, List.sum_nil, List.length_cons, List.length_nil] at h
    rw [sizeLine_eq]
    omega
end RV
set_option maxHeartbeats 4000000
/-! f(k = v, ..): keywords alone -/
namespace RV
open PySem PySem.Spec PyProof.Rows L2
section
variable {X : Cx} {CX : CXT} {k : Nat} {f : Addr} {fd : FuncData} {ps ks : List Str} {sp : Sp} {E : XK} {x : Str} {p pos : Pos} {kws : List Keyword} {tk : TA} {g : List Value → List Value → List Value} {gV : List V → List V → List V}
theorem pe_callKw0 (F : FnOk X.prog X.w X.K X.mg X.base CX k f fd ps sp) (hr : Room k X.A) (hg : Gl X x) (hm : X.mg x = some (.ref f)) (hk : PySem.W.keepIn X.K (.ref f) = true) (hb : KBinds X.K fd ps ks g gV) (hx : Passes CX X E)
    (hkw : PK X kws tk) (hall : (backToKw pos (keywordEach kws X.env)).all (·.1.isSome) = true := by rfl) (hks : (backToKw pos (keywordEach kws X.env)).filterMap (·.1) = ks := by rfl)
    (hdb : (x == ("__debug__" : Str)) = false := by decide)
    (hpl : ((backTo pos (starEach [] X.env)).any (·.1) || (backToKw pos (keywordEach kws X.env)).any (·.1.isNone)) = false := by rfl) :
    PE X (.Call (.Name x p) [] kws pos) (tCallK sp gV E tNil tk) := by
  refine ⟨fun pins s σ H Q I h => ?_⟩
  refine wpAny_Call_Name_kw (ld_glob I hg hm ?_ hdb)
  refine PySem.W.callWith_KW0 (h₀ := X.base) I.ok.mod.kin hk hall ?_ hpl
  refine thn (hkw.run pos pins s σ H _ I h) fun ws s2 ⟨zs, H2, I2, rz, q2⟩ => ⟨I2.kIn, ?_⟩
  rw [hks]
  exact run_fnk F hr hb hx I2 .nil rz q2
end
/-- two keywords, the other way about -/
theorem kb_swap {K : PySem.W.Frag} {fd : FuncData} {a b : Str} (h0 : ∀ v w : Value, bindArgs fd ⟨[], [(b, w), (a, v)]⟩ = pure [(a, v), (b, w)]) (h1 : ∀ v w : Value, bindArgs fd ⟨[v], [(b, w)]⟩ = pure [(a, v), (b, w)]) (h2 : ∀ v w : Value, bindArgs fd ⟨[v, w], []⟩ = pure [(a, v), (b, w)]) : KBinds K fd [a, b] [b, a] (fun us ws => us ++ ws.reverse) (fun vs zs => vs ++ zs.reverse) := by
  refine ⟨fun s us ws _ hl => ?_, fun {vs us zs ws} r rz => r.append ?_⟩
  · have hl : us.length + ws.length = 2 := by simpa using hl
    match us, ws, hl with
    | [], [w, v], _ => exact .of_eq (h0 v w)
    | [v], [w], _ => exact .of_eq (h1 v w)
    | [v, w], [], _ => exact .of_eq (h2 v w)
    | [], [], z => exact absurd z (by simp)
    | [], [_], z => exact absurd z (by simp)
    | [], _ :: _ :: _ :: _, z => exact absurd z (by simp)
    | [_], [], z => exact absurd z (by simp)
    | [_], _ :: _ :: _, z => exact absurd z (by simp; omega)
    | [_, _], _ :: _, z => exact absurd z (by simp)
    | _ :: _ :: _ :: _, _, z => exact absurd z (by simp; omega)
  · clear r
    have : ∀ {zs : List V} {ws : List Value} {as : List V} {bs : List Value}, Vals zs ws → Vals as bs → Vals (zs.reverse ++ as) (ws.reverse ++ bs) := fun {zs ws as bs} hz => by
      induction hz generalizing as bs with
      | nil => exact fun h => h
      | cons r _ ih =>
        intro h
        rw [List.reverse_cons, List.reverse_cons, List.append_assoc, List.append_assoc]
        exact ih (.cons r h)
    have z := this rz .nil
    rwa [List.append_nil, List.append_nil] at z
end RV
set_option maxHeartbeats 4000000
namespace K43
open PySem PySem.Spec PyProof.Rows L2 RV LamX
/-! ### what stands while tables of code grow -/
theorem ext_none {H H' : Hp} (_e : ExtN H H') : True := trivial
theorem sqT_x {K : PySem.W.Frag} {H H' : Hp} {a : Addr} {xs : List V} (e : ExtN H H') (h : SqT K H a xs) : SqT K H' a xs := by
  rcases h with (h | ⟨o, h⟩) | h
  · exact .inl (.inl (e _ _ h fun _ z => by cases z))
  · exact .inl (.inr ⟨o, e _ _ h fun _ z => by cases z⟩)
  · exact .inr h
theorem sqL_x {K : PySem.W.Frag} {H H' : Hp} {a : Addr} {xs : List V} (e : ExtN H H') (h : SqL K H a xs) : SqL K H' a xs := by
  rcases h with (h | ⟨o, h⟩) | h
  · exact .inl (.inl (e _ _ h fun _ z => by cases z))
  · exact .inl (.inr ⟨o, e _ _ h fun _ z => by cases z⟩)
  · exact .inr h
theorem tups_x {K : PySem.W.Frag} {H H' : Hp} {a : Addr} {ps : List (List Int)} (e : ExtN H H') (h : Tups K H a ps) : Tups K H' a ps := let ⟨ks, h1, h2, h3⟩ := h; ⟨ks, h1, sqT_x e h2, fun k hk => sqT_x e (h3 k hk)⟩
theorem rule_x {K : PySem.W.Frag} {C : Addr} {H H' : Hp} {p : Addr} {ns : List Int} {ps : List (List Int)} (e : ExtN H H') (r : RuleAt K C H p ns ps) : RuleAt K C H' p ns ps := by
  obtain ⟨dx, a, b, t, h1, h2, h3, h4⟩ := r.ex
  exact ⟨dx, a, b, t, e _ _ h1 (fun _ z => by cases z), sqT_x e h2, tups_x e h3, tups_x e h4⟩
theorem tupsH_x {H H' : Hp} {a : Addr} {ps : List (List Int)} (e : ExtN H H') (h : TupsH H a ps) : TupsH H' a ps := let ⟨ks, h1, h2, h3⟩ := h; ⟨ks, h1, e _ _ h2 (fun _ z => by cases z), fun k hk => e _ _ (h3 k hk) (fun _ z => by cases z)⟩
theorem own_x {K : PySem.W.Frag} {H H' : Hp} {R : Addr} {ns : List Int} {ps : List (List Int)} (e : ExtN H H') (h : OwnH K H R ns ps) : OwnH K H' R ns ps := let ⟨u, c, h1, h2, h3, h4⟩ := h; ⟨u, c, e _ _ h1 (fun _ z => by cases z), sqT_x e h2, tupsH_x e h3, h4⟩
theorem pail_x {H H' : Hp} {p : Addr} {t : Nat} (e : ExtN H H') (h : PailAt H p t) : PailAt H' p t := let ⟨x, y, h1, h2⟩ := h; ⟨x, y, e _ _ h1 (fun _ z => by cases z), h2⟩
theorem lst_x {H H' : Hp} {p : Addr} {xs : List V} (e : ExtN H H') (h : H p = some (.lst xs)) : H' p = some (.lst xs) := e _ _ h fun _ z => by cases z
/-- all but the tables and what is at p -/
def ButT (p : Addr) (H H' : Hp) : Prop := ∀ c o, H c = some o → c ≠ p → (∀ ps, o ≠ .tbl ps) → H' c = some o
theorem ButT.of {p : Addr} {H H' : Hp} (b : But p H H') : ButT p H H' := fun c o e z _ => b c o e z
theorem ButT.ext {p : Addr} {H H' : Hp} (b : ExtN H H') : ButT p H H' := fun c o e _ z => b c o e z
theorem ButT.trans {p : Addr} {H H1 H2 : Hp} (a : ButT p H H1) (b : ButT p H1 H2) : ButT p H H2 := fun c o e z n => b c o (a c o e z n) z n
/-- the tables stand while the hand changes -/
theorem tabs_but {T : List (Addr × Str)} {p : Addr} {t : Nat} {H H' : Hp} (h : Tabs T H) (hp : PailAt H p t) (b : But p H H') : Tabs T H' := fun q hq => by
  obtain ⟨ps, h1, h2, h3⟩ := h q hq
  obtain ⟨x, y, e, _⟩ := hp
  refine ⟨ps, b _ _ h1 (fun z => by rw [z, e] at h1; cases h1), h2, fun pos cv hc => ?_⟩
  obtain ⟨c, e1, e2⟩ := h3 pos cv hc
  exact ⟨c, e1, b _ _ e2 (fun z => by rw [z, e] at e2; cases e2)⟩
/-! ### texts -/
def txt (ns : List Int) (ps : List (List Int)) : Str := if ns.length ≤ 8 then (d1 ns ps).shown else "many"
theorem txt_ok (ns : List Int) (ps : List (List Int)) : PyData.strOk (txt ns ps) = true := by
  unfold txt
  split
  · exact sk_d1 ns ps
  · exact sk_of _
section
variable {P : Program} {w : World} {K : PySem.W.Frag} {mg : Str → Option Value} {base : Heap}
/-! ### _law_due -/
theorem scDue : FnScope ["_law_rule_here"] ["_law_rule_here"] (defScope sDue) := ⟨rfl, rfl, rfl, by decide +kernel, rfl, by decide +kernel, by decide +kernel⟩
def spDue (K : PySem.W.Frag) : Sp := fun vs H Q _ => ∃ (R : Addr) (ns : List Int) (ps : List (List Int)), vs = [.ref R] ∧ RawH K H R ns ps ∧ (ns.length ≤ 8 → Shows (d1 ns ps)) ∧ Q (.str (txt ns ps)) H
theorem ok_due {f : Addr} {fd : FuncData} (F : Fun K "_law_due" "_law_due" sDue f fd) (B : Bare mg) : FnG P w K mg base CX0 1 f fd ["_law_rule_here"] (spDue K) := by
  refine okG F scDue (fun vs H Q E h => ?_) (fun cdv A outer s H vs Q E gd hr h => ?_)
  · obtain ⟨R, ns, ps, rfl, _⟩ := h
    rfl
  · obtain ⟨R, ns, ps, rfl, ⟨u, c, h1, h2, h3⟩, sh, q⟩ := h
    have hu := un65 hr
    refine ⟨_, pss_one (ps_ret (pe_ifExp (pt_cmpR op_gt (pe_callB call_len_seq (by rfl) B.len PySem.boot_len (pa_cons (pe_ix ix_tup (pv 0) pe_int (fun _ _ => rfl)) pa_nil)) pe_int (nomark _)) pe_str (pe_callB (call_reprD gd hu) (by rfl) B.repr (by decide +kernel) (pa_cons (pv 0) pa_nil)))), ?_⟩
    refine ⟨.ref R, rfl, R, _, 0, .ref u, rfl, rfl, tupNew h1, rfl, u, _, rfl, .inr h2, _, _, rfl, rfl, _, rfl, ?_⟩
    rw [List.length_map]
    unfold txt at q
    by_cases l : ns.length ≤ 8
    · rw [if_pos l] at q
      rw [decide_eq_false (show ¬ ((ns.length : Int) > 8) by omega)]
      have sh := sh l
      exact iteF ⟨.ref R, rfl, R, RV.d1 ns ps, rfl, d1_dp h1 h2 h3, sh.h1, sh.h2, sh.h3, sh.h4, q⟩
    · rw [if_neg l] at q
      rw [decide_eq_true (show (ns.length : Int) > 8 by omega)]
      exact iteT q
/-! ### a rule asked in a lambda -/
variable {X : Cx}
theorem pe_told {mg : Str → Option Value} {base : Heap} {C CT CR CN CF fT c t : Addr} {dT : FuncData} {k : Nat} {params : Arguments} {body : Expr} {scope : Scope} {tb : XK → TE} {p lpos pos : Pos} {qn : Str} (D : DefAt K mg "_law_told" sLTold ["_law_ask"] fT dT) (T : Txt K mg C) (B : Bare mg) (R : Err K mg CT CR) (O : Oth K mg CT CN CF)
    (gd : X.A.guards = some []) (hg : Gl X "_law_told") (TB : TabB base mg c t) (hcode : X.env.code = .ref c) (hq : X.env.qual ++ "<lambda>" = qn) (hr : Room (k + 2) X.A) (L : LamS X.env.scope scope) (hdef : defaultsOf params X.env = ([], []))
    (hbind : ∀ (q : Str) (cl : List (Str × Addr)) (pm cv ctv : Value), bindArgs (PySem.W.kla_fn "<lambda>" q params body scope cl pm cv ctv) ⟨[], []⟩ = pure [])
    (hbody : ∀ (A : Around) (outer : List Env) (s : Shared) (H : Hp) (E : XK) (f c' : Addr), Room k (A.deeper (lamEnv X scope s.heap.objs.size f c')) → PE (lamCx X A outer s H E scope f c') body (tb E))
    (hK : X.K = K := by rfl) (hG : X.mg = mg := by rfl) (hB : X.base = base := by rfl) :
    PE X (.Call (.Name "_law_told" p) [.Lambda params body scope lpos] [] pos) (tLam [(t, qn)] (TTt K C CT) tb) := by
  subst hK hG hB
  obtain ⟨hfn, hbi, hmg⟩ := D
  have kp := hfn.kp
  obtain ⟨oc, od, kV, doc, pm, an, cdv, ct, osl, rfl, lk, hcd⟩ := hfn.ex
  subst hq
  refine pe_lamcall (a := "_law_ask") (Ng := nTo) hg hmg kp lk hcd hbi scTo rfl (.inl rfl) (gives_to T B R O gd fun s => un65 (hr.deeper _)) TB hcode (List.mem_singleton.mpr rfl) (fun q hq _ => ?_) hr L hdef hbind hbody
  rw [List.mem_singleton.mp hq]
/-- its reading -/
theorem use_two {C CT r r' : Addr} {T : List (Addr × Str)} {ns ns' : List Int} {ps ps' : List (List Int)} {fn : List Int → List Int → List Int} {fs : List Int → List Int → List (List Int) → List (List Int) → List (List Int)} {H : Hp} {Q : VK} {tl : XK → Hp → VK → Prop}
    (hM : (fn ns ns').length ≤ 8 → Mir (fn ns ns') ∧ Stp (fn ns ns') (fs ns ns' ps ps')) (R : RuleAt K C H r ns ps) (R' : RuleAt K C H r' ns' ps') (M : Mir ns) (S : Stp ns ps) (M' : Mir ns') (S' : Stp ns' ps')
    (ht : ∀ E H' Q', spTwo K C CT fn fs [.ref r, .ref r'] H' Q' E → tl E H' Q') (q : ∀ H', ExtN H H' → Tabs T H' → Q (.str (txt (fn ns ns') (fs ns ns' ps ps'))) H') : ∀ H1, ExtN H H1 → Tabs T H1 → TTt K C CT tl H1 Q := by
  intro H1 e1 T1 H2 E Q' s2 hE hQ
  have e2 := e1.trans (ExtN.of s2)
  refine ht _ _ _ ⟨r, r', ns, ns', ps, ps', rfl, rule_x e2 R, rule_x e2 R', M, S, M', S', fun l8 H' x s' Rx => ?_, fun l8 H' s' => ?_⟩
  · obtain ⟨m1, m2⟩ := hM l8
    refine hQ x _ _ H' Rx m1 m2 fun H'' s'' => ?_
    have z := q H'' (e2.trans ((ExtN.of s').trans (ExtN.of s''))) ((T1.ext s2).ext (s'.trans s''))
    unfold txt at z
    rwa [if_pos l8] at z
  · refine hE H' fun H'' s'' => ?_
    have z := q H'' (e2.trans ((ExtN.of s').trans (ExtN.of s''))) ((T1.ext s2).ext (s'.trans s''))
    unfold txt at z
    rwa [if_neg (by omega)] at z
end
end K43
set_option maxHeartbeats 4000000
namespace K43
open PySem PySem.Spec PyProof.Rows L2 RV LamX
theorem sqT_b {K : PySem.W.Frag} {H H' : Hp} {p a : Addr} {t : Nat} {xs : List V} (hp : PailAt H p t) (b : But p H H') (h : SqT K H a xs) : SqT K H' a xs := by
  obtain ⟨x, y, e, _⟩ := hp
  rcases h with (h | ⟨o, h⟩) | h
  · exact .inl (.inl (b _ _ h fun z => by rw [z, e] at h; cases h))
  · exact .inl (.inr ⟨o, b _ _ h fun z => by rw [z, e] at h; cases h⟩)
  · exact .inr h
theorem tups_o {K : PySem.W.Frag} {H : Hp} {L a : Addr} {vs : List V} {o : HO} {ps : List (List Int)} (e : H L = some (.lst vs)) (h : Tups K H a ps) : Tups K (upd H L o) a ps := let ⟨ks, h1, h2, h3⟩ := h; ⟨ks, h1, sqT_over e h2, fun k hk => sqT_over e (h3 k hk)⟩
theorem at_o {H : Hp} {L a : Addr} {vs : List V} {o u : HO} (e : H L = some (.lst vs)) (h : H a = some u) (n : ∀ vs, u ≠ .lst vs) : (upd H L o) a = some u := by
  rw [upd_ne (fun z => by rw [z, e] at h; exact n vs (Option.some.inj h).symm)]; exact h
theorem rule_o {K : PySem.W.Frag} {C : Addr} {H : Hp} {L p : Addr} {vs : List V} {o : HO} {ns : List Int} {ps : List (List Int)} (e : H L = some (.lst vs)) (r : RuleAt K C H p ns ps) : RuleAt K C (upd H L o) p ns ps := by
  obtain ⟨dx, a, b, t, h1, h2, h3, h4⟩ := r.ex
  exact ⟨dx, a, b, t, at_o e h1 (fun _ z => by cases z), sqT_over e h2, tups_o e h3, tups_o e h4⟩
theorem own_o {K : PySem.W.Frag} {H : Hp} {L R : Addr} {vs : List V} {o : HO} {ns : List Int} {ps : List (List Int)} (e : H L = some (.lst vs)) (h : OwnH K H R ns ps) : OwnH K (upd H L o) R ns ps := let ⟨u, c, h1, h2, ⟨ks, k1, k2, k3⟩, h4⟩ := h; ⟨u, c, at_o e h1 (fun _ z => by cases z), sqT_over e h2, ⟨ks, k1, at_o e k2 (fun _ z => by cases z), fun k hk => at_o e (k3 k hk) (fun _ z => by cases z)⟩, h4⟩
theorem tabs_o {T : List (Addr × Str)} {H : Hp} {L : Addr} {vs : List V} {o : HO} (e : H L = some (.lst vs)) (h : Tabs T H) : Tabs T (upd H L o) := fun q hq => by
  obtain ⟨ps, h1, h2, h3⟩ := h q hq
  refine ⟨ps, at_o e h1 (fun _ z => by cases z), h2, fun pos cv hc => ?_⟩
  obtain ⟨c, e1, e2⟩ := h3 pos cv hc
  exact ⟨c, e1, at_o e e2 (fun _ z => by cases z)⟩
/-- a new place -/
def NewT (H : Hp) (L : Addr) : Prop := ∀ o, H L = some o → ∃ ps, o = .tbl ps
theorem newT {p L : Addr} {t : Nat} {H H' : Hp} (b : ButT p H H') (hp : PailAt H' p t) (n : H' L = none) : NewT H L := fun o e => by
  refine Classical.byContradiction fun y => ?_
  have w := b L o e (pail_ne hp n) fun ps z => y ⟨ps, z⟩
  rw [n] at w; cases w
theorem ButT.upd {p L : Addr} {H H' : Hp} {o : HO} (b : ButT p H H') (n : NewT H L) : ButT p H (upd H' L o) := fun c u e z y => by
  rw [upd_ne (fun w => by rw [w] at e; obtain ⟨ps, rfl⟩ := n _ e; exact y ps rfl)]
  exact b c u e z y
theorem own_b {K : PySem.W.Frag} {H H' : Hp} {p R : Addr} {t : Nat} {ns : List Int} {ps : List (List Int)} (hp : PailAt H p t) (b : But p H H') (h : OwnH K H R ns ps) : OwnH K H' R ns ps := by
  obtain ⟨u, c, h1, h2, h3, h4⟩ := h
  obtain ⟨x, y, e, h⟩ := id hp
  exact ⟨u, c, b _ _ h1 (fun z => by rw [z, e] at h1; cases h1), sqT_b hp b h2, h3.but hp b, h4⟩
theorem own_len {ns : List Int} {ps : List (List Int)} (M : Mir ns) (S : Stp ns ps) : (RV.d1 ns ps).shown.length ≤ 1000000 := by
  have m8 := M.few
  have f := S.few
  have hn : ∀ n ∈ ns, n.natAbs < 10 ^ 12 := fun n hn => by have := M.inn n hn; omega
  have h : ∀ p ∈ ps, Pr 8 p := fun p hp => (show Pr (ns.length : Int) p from S.pair p hp).mono (by omega)
  have lay : (RV.d1 ns ps).canLay0 = true := by
    simp only [RV.d1, dTT, PyData.canLay0, PyData.canLayAll0, lay_dI, dI_lay, Bool.and_self]
  have i2 : (dI ns).intsShort 13 = true := by simp only [dI, PyData.intsShort]; exact PyData.intsShortAll_ints ns hn
  have i3 : (dI ns).bulk = ns.length := by simp only [dI, PyData.bulk, bulk_ints]
  have z := PyData.shown_le_bulk 13 (by decide) (RV.d1 ns ps) (PyData.leavesShort_of_canLay0 13 _ lay (by simp only [RV.d1, dTT, PyData.intsShort, PyData.intsShortAll, i2, short_dIs ps (pr_small (by decide) h), Bool.and_self]))
  have h1 := bulk_dIs ps (pr_len h)
  have z2 : (13 + 2) * (RV.d1 ns ps).bulk ≤ 15 * 1000 := Nat.mul_le_mul_left 15 (by simp only [RV.d1, dTT, PyData.bulk, PyData.bulkAll, i3]; omega)
  omega
theorem own_dep (ns : List Int) (ps : List (List Int)) : (RV.d1 ns ps).depth ≤ 10 := by
  have h1 := dep_dI ps
  simp only [RV.d1, dTT, PyData.depth, PyData.depthAll, dI_dep]
  omega
section
variable {P : Program} {w : World} {K : PySem.W.Frag} {mg : Str → Option Value} {base : Heap}
theorem kb_two {x : Str} {st : Stmt} {f : Addr} {fd : FuncData} (F : Fun K x x st f fd) (h0 : ∀ (kV doc pm : Value) (an : Option Addr) (cdv ct : Value) (v w : Value), bindArgs (PySem.W.fnOf x x (defArgs st) (defBody st) (defScope st) .none kV doc pm an cdv ct) ⟨[], [(("other" : Str), w), (("one" : Str), v)]⟩ = pure [(("one" : Str), v), (("other" : Str), w)])
    (h1 : ∀ (kV doc pm : Value) (an : Option Addr) (cdv ct : Value) (v w : Value), bindArgs (PySem.W.fnOf x x (defArgs st) (defBody st) (defScope st) .none kV doc pm an cdv ct) ⟨[v], [(("other" : Str), w)]⟩ = pure [(("one" : Str), v), (("other" : Str), w)])
    (h2 : ∀ (kV doc pm : Value) (an : Option Addr) (cdv ct : Value) (v w : Value), bindArgs (PySem.W.fnOf x x (defArgs st) (defBody st) (defScope st) .none kV doc pm an cdv ct) ⟨[v, w], []⟩ = pure [(("one" : Str), v), (("other" : Str), w)]) : KBinds K fd ["one", "other"] ["other", "one"] (fun us ws => us ++ ws.reverse) (fun vs zs => vs ++ zs.reverse) := by
  obtain ⟨oc, od, kV, doc, pm, an, cdv, ct, osl, rfl, lk, hcd⟩ := F.ex
  exact kb_swap (h0 _ _ _ _ _ _) (h1 _ _ _ _ _ _) (h2 _ _ _ _ _ _)
/-! ### _law_right -/
abbrev nRi : List Str := ["_law_hand_here", "_law_one_r", "_law_other_r", "_law_mine", "_law_its", "_law_told_here", "_law_named", "_law_due_here"]
theorem scRi : FnScope nRi ["_law_hand_here"] (defScope sRight) := ⟨rfl, rfl, rfl, by decide +kernel, rfl, by decide +kernel, by decide +kernel⟩
abbrev qLam : Str := (("_law_right" : Str) ++ ".<locals>.") ++ "<lambda>"
def spRi (t : Addr) : Sp := fun vs H Q _ => ∃ (p : Addr) (n : Nat), vs = [.ref p] ∧ PailAt H p n ∧ n ≤ 600 ∧ Tabs [(t, qLam)] H ∧
  ∀ (H' : Hp) (n' : Nat), PailAt H' p n' → n' ≤ n + 80 → ButT p H H' → Tabs [(t, qLam)] H' → Q (.bl true) H'
theorem ok_ri {f C CT CR CN CF c t fU fA fT fE fO fLE fLO fD : Addr} {fd dU dA dT dE dO dLE dLO dD : FuncData} (F : Fun K "_law_right" "_law_right" sRight f fd) (LT : LamT K mg base f c t) (T : Txt K mg C) (B : Bare mg) (R : Err K mg CT CR) (O : Oth K mg CT CN CF)
    (DU : DefAt K mg "_law_rule" sRule ["_law_hand_here", "_law_least", "_law_most"] fU dU) (GU : FnOk P w K mg base CX0 3 fU dU ["_law_hand_here", "_law_least", "_law_most"] (spRu K))
    (DA : DefAt K mg "_law_made" sMade ["_law_rule_here"] fA dA) (GA : FnOk P w K mg base CX0 8 fA dA ["_law_rule_here"] (spMade K C)) (DT : DefAt K mg "_law_told" sLTold ["_law_ask"] fT dT)
    (DE : DefAt K mg "either" sEither ["one", "other"] fE dE) (GE : FnOk P w K mg base (L2.CX P w) 8 fE dE ["one", "other"] (spTwo K C CT eiN eiF)) (DO : DefAt K mg "both" sBoth ["one", "other"] fO dO) (GO : FnOk P w K mg base (L2.CX P w) 8 fO dO ["one", "other"] (spTwo K C CT boN boF))
    (DLE : DefAt K mg "_law_either" sLEither ["_law_one_r", "_law_other_r"] fLE dLE) (DLO : DefAt K mg "_law_both" sLBoth ["_law_one_r", "_law_other_r"] fLO dLO) (DD : DefAt K mg "_law_due" sDue ["_law_rule_here"] fD dD) : FnG P w K mg base CX0 11 f fd ["_law_hand_here"] (spRi t) := by
  have GLE : FnOk P w K mg base CX0 1 fLE dLE ["_law_one_r", "_law_other_r"] (spLTwo K eiN eiF) := ok_le DLE.fn B
  have GLO : FnOk P w K mg base CX0 1 fLO dLO ["_law_one_r", "_law_other_r"] (spLTwo K boN boF) := ok_lb DLO.fn B
  have GD : FnG P w K mg base CX0 1 fD dD ["_law_rule_here"] (spDue K) := ok_due DD.fn B
  refine okGC LT F scRi (fun vs H Q E h => ?_) (fun A outer s H vs Q E gd hr h => ?_)
  · obtain ⟨p, n, rfl, _⟩ := h
    rfl
  · obtain ⟨p, n, rfl, hp, hn, hT, q⟩ := h
    have r3 := hr.mono (show 3 ≤ 10 by decide)
    have r8 := hr.mono (show 8 ≤ 10 by decide)
    have r1 := hr.mono (show 1 ≤ 10 by decide)
    have hu := un65 hr
    refine ⟨_, pss_cons (ps_par (i := 1) (j := 2) (by rfl) scRi.nd rfl rfl (by decide) rfl rfl (pa_cons (pe_call GU r3 (by rfl) DU.mg DU.fn.kp DU.bi .nil pass0 (pa_cons (pv 0) (pa_cons pe_int (pa_cons pe_int pa_nil)))) (pa_cons (pe_call GU r3 (by rfl) DU.mg DU.fn.kp DU.bi .nil pass0 (pa_cons (pv 0) (pa_cons pe_int (pa_cons pe_int pa_nil)))) pa_nil)) (by rfl))
      (pss_cons (ps_asg (pe_tup (pa_cons (pe_call GA r8 (by rfl) DA.mg DA.fn.kp DA.bi .nil pass0 (pa_cons (pv 1) pa_nil)) (pa_cons (pe_call GA r8 (by rfl) DA.mg DA.fn.kp DA.bi .nil pass0 (pa_cons (pv 2) pa_nil)) pa_nil))) (pg_tup rfl (pgs_cons (pg_name (i := 3) scRi.nd rfl (Or.inr rfl)) (pgs_cons (pg_name (i := 4) scRi.nd rfl (Or.inr rfl)) pgs_nil))))
      (pss_cons (ps_set (i := 5) scRi.nd rfl (Or.inl rfl) (pe_lst (pa_cons (pe_told (qn := qLam) DT T B R O (by exact gd) (by rfl) LT.tb (by rfl) (by rfl) (by exact hr) (lamS_by (by show lamSB (defScope sRight) _ = true; decide +kernel)) (by rfl) (fun _ _ _ _ _ => by rfl) (fun A outer s H E f c' hr' => pe_call GE hr' (by rfl) DE.mg DE.fn.kp DE.bi .nil (passes_call (takes_of rfl rfl rfl rfl) fun _ _ _ _ h => h) (pa_cons (pv 3) (pa_cons (pv 4) pa_nil)))) pa_nil)))
      (pss_cons (ps_expr (pe_bm PySem.F.plainAttrs_list PySem.F.slot_list_append PySem.F.type_list_append mt_append (pv 5) (pa_cons (pe_told (qn := qLam) DT T B R O (by exact gd) (by rfl) LT.tb (by rfl) (by rfl) (by exact hr) (lamS_by (by show lamSB (defScope sRight) _ = true; decide +kernel)) (by rfl) (fun _ _ _ _ _ => by rfl) (fun A outer s H E f c' hr' => pe_call GO hr' (by rfl) DO.mg DO.fn.kp DO.bi .nil (passes_call (takes_of rfl rfl rfl rfl) fun _ _ _ _ h => h) (pa_cons (pv 3) (pa_cons (pv 4) pa_nil)))) pa_nil)))
      (pss_cons (ps_set (i := 6) scRi.nd rfl (Or.inl rfl) (pe_lst (pa_cons (pe_told (qn := qLam) DT T B R O (by exact gd) (by rfl) LT.tb (by rfl) (by rfl) (by exact hr) (lamS_by (by show lamSB (defScope sRight) _ = true; decide +kernel)) (by rfl) (fun _ _ _ _ _ => by rfl) (fun A outer s H E f c' hr' => pe_callKw0 GE hr' (by rfl) DE.mg DE.fn.kp (kb_two DE.fn (fun _ _ _ _ _ _ _ _ => rfl) (fun _ _ _ _ _ _ _ _ => rfl) (fun _ _ _ _ _ _ _ _ => rfl)) (passes_call (takes_of rfl rfl rfl rfl) fun _ _ _ _ h => h) (pk_cons (pv 4) (pk_cons (pv 3) pk_nil)))) pa_nil)))
      (pss_cons (ps_expr (pe_bm PySem.F.plainAttrs_list PySem.F.slot_list_append PySem.F.type_list_append mt_append (pv 6) (pa_cons (pe_told (qn := qLam) DT T B R O (by exact gd) (by rfl) LT.tb (by rfl) (by rfl) (by exact hr) (lamS_by (by show lamSB (defScope sRight) _ = true; decide +kernel)) (by rfl) (fun _ _ _ _ _ => by rfl) (fun A outer s H E f c' hr' => pe_callKw0 GO hr' (by rfl) DO.mg DO.fn.kp (kb_two DO.fn (fun _ _ _ _ _ _ _ _ => rfl) (fun _ _ _ _ _ _ _ _ => rfl) (fun _ _ _ _ _ _ _ _ => rfl)) (passes_call (takes_of rfl rfl rfl rfl) fun _ _ _ _ h => h) (pk_cons (pv 4) (pk_cons (pv 3) pk_nil)))) pa_nil)))
      (pss_cons (ps_set (i := 7) scRi.nd rfl (Or.inl rfl) (pe_lst (pa_cons (pe_callG GD gd r1 (by rfl) DD.mg DD.fn.kp DD.bi .nil pass0 (pa_cons (pe_call GLE r1 (by rfl) DLE.mg DLE.fn.kp DLE.bi .nil pass0 (pa_cons (pv 1) (pa_cons (pv 2) pa_nil))) pa_nil)) (pa_cons (pe_callG GD gd r1 (by rfl) DD.mg DD.fn.kp DD.bi .nil pass0 (pa_cons (pe_call GLO r1 (by rfl) DLO.mg DLO.fn.kp DLO.bi .nil pass0 (pa_cons (pv 1) (pa_cons (pv 2) pa_nil))) pa_nil)) pa_nil))))
      (pss_cons (ps_if (PW.pt (pw_or (pt_cmpR (op_neD hr.units) (pv 5) (pv 7) (nomark _)) (pw_or1 (pt_cmpR (op_neD hr.units) (pv 6) (pv 7) (nomark _))))) (pss_one (ps_ret pe_bl)) pss_nil)
      (pss_one (ps_ret (pe_cmpR op_eq (pe_callB (call_reprD gd hu) (by rfl) B.repr (by decide +kernel) (pa_cons (pe_lst (pa_cons (pe_tup (pa_cons (pe_fld (pv 3) rfl) (pa_cons (pe_fld (pv 3) rfl) pa_nil))) (pa_cons (pe_tup (pa_cons (pe_fld (pv 4) rfl) (pa_cons (pe_fld (pv 4) rfl) pa_nil))) pa_nil))) pa_nil)) (pe_callB (call_reprD gd hu) (by rfl) B.repr (by decide +kernel) (pa_cons (pe_lst (pa_cons (pv 1) (pa_cons (pv 2) pa_nil))) pa_nil)) (nomark _))))))))))), ?_⟩
    have two : (2 : Nat) ≤ sizeLine := by decide
    have one : (1 : Nat) ≤ sizeLine := by decide
    refine ⟨.ref p, rfl, p, n, rfl, hp, by omega, fun H1 R1 n1 ns ps hp1 hn1 b1 O1 l1 => ?_⟩
    refine ⟨.ref p, rfl, p, n1, rfl, hp1, by omega, fun H2 R2 n2 ns' ps' hp2 hn2 b2 O2 l2 => ⟨_, _, rfl, ?_⟩⟩
    dsimp only
    have O1 := own_b hp1 b2 O1
    have hT2 := tabs_but (tabs_but hT hp b1) hp1 b2
    obtain ⟨M, S⟩ : Mir ns ∧ Stp ns ps := let ⟨_, _, _, _, _, h⟩ := O1; h
    obtain ⟨M', S'⟩ : Mir ns' ∧ Stp ns' ps' := let ⟨_, _, _, _, _, h⟩ := O2; h
    have b02 : ButT p H H2 := (ButT.of b1).trans (ButT.of b2)
    refine ⟨.ref R1, rfl, R1, ns, ps, rfl, O1, fun H3 x s3 Rx => ?_⟩
    refine ⟨.ref R2, rfl, R2, ns', ps', rfl, OwnH.same O2 s3, fun H4 y s4 Ry => ⟨two, fun U nU => ⟨U, _, rfl, tupNew upd_same, rfl, _, _, rfl, _, _, rfl, rfl, ?_⟩⟩⟩
    dsimp only
    have sU := same_upd (o := .tup [.ref x, .ref y]) nU
    have s25 := s3.trans (s4.trans sU)
    have Rx := (Rx.same s4).same sU
    have Ry := Ry.same sU
    have hp5 := pail_same hp2 s25
    have O1 := OwnH.same O1 s25
    have O2 := OwnH.same O2 s25
    have hT5 := hT2.ext s25
    have b05 : ButT p H _ := b02.trans (ButT.of (But.of s25))
    generalize upd H4 U (.tup [.ref x, .ref y]) = H5 at Rx Ry hp5 O1 O2 hT5 b05 ⊢
    clear sU s25 s3 s4 hT2 b02 nU
    -- either
    have hE : (eiN ns ns').length ≤ 8 → Mir (eiN ns ns') ∧ Stp (eiN ns ns') (eiF ns ns' ps ps') := fun l => by
      rw [eiN_len] at l
      exact ⟨ei_mir M M' l, ei_stp M S M' S' l⟩
    have hO : (boN ns ns').length ≤ 8 → Mir (boN ns ns') ∧ Stp (boN ns ns') (boF ns ns' ps ps') := fun l => by
      rw [boN_len] at l
      exact ⟨bo_mir M M' l, bo_stp M S M' S' l⟩
    refine ⟨hT5, use_two (fn := eiN) (fs := eiF) (C := C) (CT := CT) hE Rx Ry M S M' S' (fun E H' Q' h => ⟨.ref x, rfl, .ref y, rfl, h⟩) fun H6 e6 T6 => ⟨one, fun L1 nL1 => ?_⟩⟩
    refine nx_step ?_
    dsimp only
    have sL1 := same_upd (o := .lst [.str (txt (eiN ns ns') (eiF ns ns' ps ps'))]) nL1
    have eL1 : (upd H6 L1 (.lst [.str (txt (eiN ns ns') (eiF ns ns' ps ps'))])) L1 = some (.lst [.str (txt (eiN ns ns') (eiF ns ns' ps ps'))]) := upd_same
    have Rx := (rule_x e6 Rx).same sL1
    have Ry := (rule_x e6 Ry).same sL1
    have hp6 := pail_same (pail_x e6 hp5) sL1
    have O1 := OwnH.same (own_x e6 O1) sL1
    have O2 := OwnH.same (own_x e6 O2) sL1
    have hT6 := T6.ext sL1
    have b06 : ButT p H _ := (b05.trans (ButT.ext e6)).trans (ButT.of (But.of sL1))
    have nL1H : L1 ≠ p := pail_ne (pail_x e6 hp5) nL1
    have nT1 : NewT H L1 := newT (b05.trans (ButT.ext e6)) (pail_x e6 hp5) nL1
    generalize upd H6 L1 (.lst [.str (txt (eiN ns ns') (eiF ns ns' ps ps'))]) = H7 at eL1 Rx Ry hp6 O1 O2 hT6 b06 ⊢
    clear sL1 T6 e6 hT5 b05 hp5 nL1
    have one1 : (1 : Nat) < sizeLine := by decide
    -- both, into the list
    refine ⟨.ref L1, rfl, .inl ⟨rfl, _, lstNew eL1⟩, hT6, use_two (fn := boN) (fs := boF) (C := C) (CT := CT) hO Rx Ry M S M' S' (fun E H' Q' h => ⟨.ref x, rfl, .ref y, rfl, h⟩) fun H8 e8 T8 => ⟨L1, _, _, rfl, rfl, lst_x e8 eL1, one1, ?_⟩⟩
    have eL8 := lst_x e8 eL1
    have Rx := rule_o (o := .lst [.str (txt (eiN ns ns') (eiF ns ns' ps ps')), .str (txt (boN ns ns') (boF ns ns' ps ps'))]) eL8 (rule_x e8 Rx)
    have Ry := rule_o (o := .lst [.str (txt (eiN ns ns') (eiF ns ns' ps ps')), .str (txt (boN ns ns') (boF ns ns' ps ps'))]) eL8 (rule_x e8 Ry)
    have O1 := own_o (o := .lst [.str (txt (eiN ns ns') (eiF ns ns' ps ps')), .str (txt (boN ns ns') (boF ns ns' ps ps'))]) eL8 (own_x e8 O1)
    have O2 := own_o (o := .lst [.str (txt (eiN ns ns') (eiF ns ns' ps ps')), .str (txt (boN ns ns') (boF ns ns' ps ps'))]) eL8 (own_x e8 O2)
    have hT8 := tabs_o (o := .lst [.str (txt (eiN ns ns') (eiF ns ns' ps ps')), .str (txt (boN ns ns') (boF ns ns' ps ps'))]) eL8 T8
    have hp8 : PailAt (upd H8 L1 (.lst [.str (txt (eiN ns ns') (eiF ns ns' ps ps')), .str (txt (boN ns ns') (boF ns ns' ps ps'))])) p n2 := pail_set (pail_x e8 hp6) nL1H
    have b08 : ButT p H (upd H8 L1 (.lst [.str (txt (eiN ns ns') (eiF ns ns' ps ps')), .str (txt (boN ns ns') (boF ns ns' ps ps'))])) := (b06.trans (ButT.ext e8)).upd nT1
    have eL9 : (upd H8 L1 (.lst [.str (txt (eiN ns ns') (eiF ns ns' ps ps')), .str (txt (boN ns ns') (boF ns ns' ps ps'))])) L1 = some (.lst [.str (txt (eiN ns ns') (eiF ns ns' ps ps')), .str (txt (boN ns ns') (boF ns ns' ps ps'))]) := upd_same
    show tSeq _ _ _ _ (upd H8 L1 (.lst [.str (txt (eiN ns ns') (eiF ns ns' ps ps')), .str (txt (boN ns ns') (boF ns ns' ps ps'))]))
    generalize upd H8 L1 (.lst [.str (txt (eiN ns ns') (eiF ns ns' ps ps')), .str (txt (boN ns ns') (boF ns ns' ps ps'))]) = H9 at Rx Ry O1 O2 hT8 hp8 b08 eL9 ⊢
    clear eL8 T8 e8 hT6 b06 hp6 eL1
    -- named
    refine ⟨hT8, use_two (fn := eiN) (fs := eiF) (C := C) (CT := CT) hE Rx Ry M S M' S' (fun E H' Q' h => ⟨.ref y, rfl, .ref x, rfl, h⟩) fun Ha ea Ta => ⟨one, fun L2 nL2 => ?_⟩⟩
    refine nx_step ?_
    dsimp only
    have sL2 := same_upd (o := .lst [.str (txt (eiN ns ns') (eiF ns ns' ps ps'))]) nL2
    have eL2 : (upd Ha L2 (.lst [.str (txt (eiN ns ns') (eiF ns ns' ps ps'))])) L2 = some (.lst [.str (txt (eiN ns ns') (eiF ns ns' ps ps'))]) := upd_same
    have Rx := (rule_x ea Rx).same sL2
    have Ry := (rule_x ea Ry).same sL2
    have hpa := pail_same (pail_x ea hp8) sL2
    have O1 := OwnH.same (own_x ea O1) sL2
    have O2 := OwnH.same (own_x ea O2) sL2
    have hTa := Ta.ext sL2
    have b0a : ButT p H _ := (b08.trans (ButT.ext ea)).trans (ButT.of (But.of sL2))
    have nL2H : L2 ≠ p := pail_ne (pail_x ea hp8) nL2
    have nT2 : NewT H L2 := newT (b08.trans (ButT.ext ea)) (pail_x ea hp8) nL2
    have d12 : L1 ≠ L2 := ne_of_none (lst_x ea eL9) nL2
    have eL1b := sL2 _ _ (lst_x ea eL9)
    generalize upd Ha L2 (.lst [.str (txt (eiN ns ns') (eiF ns ns' ps ps'))]) = Hb at eL2 Rx Ry hpa O1 O2 hTa b0a eL1b ⊢
    clear sL2 Ta ea hT8 b08 hp8 nL2 eL9
    refine ⟨.ref L2, rfl, .inl ⟨rfl, _, lstNew eL2⟩, hTa, use_two (fn := boN) (fs := boF) (C := C) (CT := CT) hO Rx Ry M S M' S' (fun E H' Q' h => ⟨.ref y, rfl, .ref x, rfl, h⟩) fun Hc ec Tc => ⟨L2, _, _, rfl, rfl, lst_x ec eL2, one1, ?_⟩⟩
    have eLc := lst_x ec eL2
    have Rx := rule_o (o := .lst [.str (txt (eiN ns ns') (eiF ns ns' ps ps')), .str (txt (boN ns ns') (boF ns ns' ps ps'))]) eLc (rule_x ec Rx)
    have Ry := rule_o (o := .lst [.str (txt (eiN ns ns') (eiF ns ns' ps ps')), .str (txt (boN ns ns') (boF ns ns' ps ps'))]) eLc (rule_x ec Ry)
    have O1 := own_o (o := .lst [.str (txt (eiN ns ns') (eiF ns ns' ps ps')), .str (txt (boN ns ns') (boF ns ns' ps ps'))]) eLc (own_x ec O1)
    have O2 := own_o (o := .lst [.str (txt (eiN ns ns') (eiF ns ns' ps ps')), .str (txt (boN ns ns') (boF ns ns' ps ps'))]) eLc (own_x ec O2)
    have hTc := tabs_o (o := .lst [.str (txt (eiN ns ns') (eiF ns ns' ps ps')), .str (txt (boN ns ns') (boF ns ns' ps ps'))]) eLc Tc
    have hpc : PailAt (upd Hc L2 (.lst [.str (txt (eiN ns ns') (eiF ns ns' ps ps')), .str (txt (boN ns ns') (boF ns ns' ps ps'))])) p n2 := pail_set (pail_x ec hpa) nL2H
    have b0c : ButT p H (upd Hc L2 (.lst [.str (txt (eiN ns ns') (eiF ns ns' ps ps')), .str (txt (boN ns ns') (boF ns ns' ps ps'))])) := (b0a.trans (ButT.ext ec)).upd nT2
    have eL2d : (upd Hc L2 (.lst [.str (txt (eiN ns ns') (eiF ns ns' ps ps')), .str (txt (boN ns ns') (boF ns ns' ps ps'))])) L2 = some (.lst [.str (txt (eiN ns ns') (eiF ns ns' ps ps')), .str (txt (boN ns ns') (boF ns ns' ps ps'))]) := upd_same
    have eL1d : (upd Hc L2 (.lst [.str (txt (eiN ns ns') (eiF ns ns' ps ps')), .str (txt (boN ns ns') (boF ns ns' ps ps'))])) L1 = some (.lst [.str (txt (eiN ns ns') (eiF ns ns' ps ps')), .str (txt (boN ns ns') (boF ns ns' ps ps'))]) := by rw [upd_ne d12]; exact lst_x ec eL1b
    show tSeq _ _ _ _ (upd Hc L2 (.lst [.str (txt (eiN ns ns') (eiF ns ns' ps ps')), .str (txt (boN ns ns') (boF ns ns' ps ps'))]))
    generalize upd Hc L2 (.lst [.str (txt (eiN ns ns') (eiF ns ns' ps ps')), .str (txt (boN ns ns') (boF ns ns' ps ps'))]) = Hd at Rx Ry O1 O2 hTc hpc b0c eL2d eL1d ⊢
    clear eLc Tc ec hTa b0a hpa eL2 eL1b
    -- what is due
    refine ⟨.ref R1, rfl, .ref R2, rfl, R1, R2, ns, ns', ps, ps', rfl, O1, O2, l1, l2, fun He r1' se Re => ⟨r1', _, _, rfl, Re, fun l => own_shows (hE l).1 (hE l).2, ?_⟩⟩
    refine ⟨.ref R1, rfl, .ref R2, rfl, R1, R2, ns, ns', ps, ps', rfl, OwnH.same O1 se, OwnH.same O2 se, l1, l2, fun Hf r2' sf Rf => ⟨r2', _, _, rfl, Rf, fun l => own_shows (hO l).1 (hO l).2, ?_⟩⟩
    refine ⟨two, fun L3 nL3 => ?_⟩
    refine nx_step ?_
    dsimp only
    have sL3 := same_upd (o := .lst [.str (txt (eiN ns ns') (eiF ns ns' ps ps')), .str (txt (boN ns ns') (boF ns ns' ps ps'))]) nL3
    have sg := se.trans (sf.trans sL3)
    have eL3 : (upd Hf L3 (.lst [.str (txt (eiN ns ns') (eiF ns ns' ps ps')), .str (txt (boN ns ns') (boF ns ns' ps ps'))])) L3 = some (.lst [.str (txt (eiN ns ns') (eiF ns ns' ps ps')), .str (txt (boN ns ns') (boF ns ns' ps ps'))]) := upd_same
    generalize upd Hf L3 (.lst [.str (txt (eiN ns ns') (eiF ns ns' ps ps')), .str (txt (boN ns ns') (boF ns ns' ps ps'))]) = Hg at sg eL3 ⊢
    clear se sf sL3 nL3
    have eL1g := sg _ _ eL1d
    have eL2g := sg _ _ eL2d
    have ok : ∀ z ∈ [txt (eiN ns ns') (eiF ns ns' ps ps'), txt (boN ns ns') (boF ns ns' ps ps')], PyData.strOk z = true := fun z hz => by
      rcases List.mem_cons.mp hz with rfl | hz
      · exact txt_ok _ _
      · rw [List.mem_singleton.mp hz]; exact txt_ok _ _
    have sh := shaped_strs ok
    have cl : (PyData.list ([txt (eiN ns ns') (eiF ns ns' ps ps'), txt (boN ns ns') (boF ns ns' ps ps')].map PyData.str)).canLay0 = true := by simp only [PyData.canLay0]; exact lay_strs _ ok
    have dp : ∀ {L : Addr}, Hg L = some (.lst [.str (txt (eiN ns ns') (eiF ns ns' ps ps')), .str (txt (boN ns ns') (boF ns ns' ps ps'))]) → Dp K Hg (.ref L) (.list ([txt (eiN ns ns') (eiF ns ns' ps ps'), txt (boN ns ns') (boF ns ns' ps ps')].map PyData.str)) := fun e => .lst (lstNew e) (dpStrs [txt (eiN ns ns') (eiF ns ns' ps ps'), txt (boN ns ns') (boF ns ns' ps ps')])
    refine ⟨.ref L1, rfl, .ref L3, rfl, _, _, dp eL1g, dp eL3, sh, sh, _, rfl, ?_⟩
    rw [SeqAt.eqv_refl _ cl]
    refine iteF ⟨.ref L2, rfl, .ref L3, rfl, _, _, dp eL2g, dp eL3, sh, sh, _, rfl, ?_⟩
    rw [SeqAt.eqv_refl _ cl]
    refine iteF ?_
    have Rx := Rx.same sg
    have Ry := Ry.same sg
    have O1 := OwnH.same O1 sg
    have O2 := OwnH.same O2 sg
    have hpg := pail_same hpc sg
    have hTg := hTc.ext sg
    have b0g : ButT p H Hg := b0c.trans (ButT.of (But.of sg))
    clear eL1g eL2g dp eL3 hTc hpc b0c eL1d eL2d sg nT1 nT2
    obtain ⟨dx, a0, a1, a2, g1, g2, g3, g4⟩ := id Rx.ex
    obtain ⟨dy, c0, c1, c2, k1, k2, k3, k4⟩ := id Ry.ex
    have sA := own_shows M S
    have sB := own_shows M' S'
    have s2 : Shows (.list [RV.d1 ns ps, RV.d1 ns' ps']) := shows_two sA sB (own_len M S) (own_len M' S') (own_dep ns ps) (own_dep ns' ps')
    refine ⟨.ref x, rfl, x, C, dx, _, _, rfl, g1, T.cl, T.nM, flds_m _ _ _, .ref x, rfl, x, C, dx, _, _, rfl, g1, T.cl, T.nS, flds_s _ _ _, two, fun U1 nU1 => ?_⟩
    have t1 := same_upd (o := .tup [.ref a0, .ref a1]) nU1
    have e1 : (upd Hg U1 (.tup [.ref a0, .ref a1])) U1 = some (.tup [.ref a0, .ref a1]) := upd_same
    generalize upd Hg U1 (.tup [.ref a0, .ref a1]) = Hh at t1 e1 ⊢
    refine ⟨.ref y, rfl, y, C, dy, _, _, rfl, t1 _ _ k1, T.cl, T.nM, flds_m _ _ _, .ref y, rfl, y, C, dy, _, _, rfl, t1 _ _ k1, T.cl, T.nS, flds_s _ _ _, two, fun U2 nU2 => ?_⟩
    have t2 := same_upd (o := .tup [.ref c0, .ref c1]) nU2
    have e2 : (upd Hh U2 (.tup [.ref c0, .ref c1])) U2 = some (.tup [.ref c0, .ref c1]) := upd_same
    have e1' := t2 _ _ e1
    have t12 := t1.trans t2
    generalize upd Hh U2 (.tup [.ref c0, .ref c1]) = Hi at t12 e2 e1' ⊢
    refine ⟨two, fun L4 nL4 => ?_⟩
    have t3 := same_upd (o := .lst [.ref U1, .ref U2]) nL4
    have e4 : (upd Hi L4 (.lst [.ref U1, .ref U2])) L4 = some (.lst [.ref U1, .ref U2]) := upd_same
    have t13 := t12.trans t3
    have e1'' := t3 _ _ e1'
    have e2'' := t3 _ _ e2
    generalize upd Hi L4 (.lst [.ref U1, .ref U2]) = Hj at t13 e4 e1'' e2'' ⊢
    refine ⟨L4, .list [RV.d1 ns ps, RV.d1 ns' ps'], rfl, .lst (lstNew e4) (.cons (d1_dp e1'' (sqT_same t13 g2) (g3.same t13)) (.cons (d1_dp e2'' (sqT_same t13 k2) (k3.same t13)) .nil)), s2.h1, s2.h2, s2.h3, s2.h4, ?_⟩
    refine ⟨.ref R1, rfl, .ref R2, rfl, two, fun L5 nL5 => ?_⟩
    have t4 := same_upd (o := .lst [.ref R1, .ref R2]) nL5
    have e5 : (upd Hj L5 (.lst [.ref R1, .ref R2])) L5 = some (.lst [.ref R1, .ref R2]) := upd_same
    have t14 := t13.trans t4
    generalize upd Hj L5 (.lst [.ref R1, .ref R2]) = Hk at t14 e5 ⊢
    obtain ⟨u1, v1, o1, o2, o3, _⟩ := OwnH.same O1 t14
    obtain ⟨u2, v2, p1, p2, p3, _⟩ := OwnH.same O2 t14
    refine ⟨L5, .list [RV.d1 ns ps, RV.d1 ns' ps'], rfl, .lst (lstNew e5) (.cons (d1_dp o1 o2 o3.tups) (.cons (d1_dp p1 p2 p3.tups) .nil)), s2.h1, s2.h2, s2.h3, s2.h4, rfl, ?_⟩
    rw [decide_eq_true rfl]
    exact q Hk n2 (pail_same hpg t14) (by omega) (b0g.trans (ButT.of (But.of t14))) (hTg.ext t14)
end
end K43
set_option maxHeartbeats 4000000
namespace K43
open PySem PySem.Spec PyProof.Rows L2 RV LamX
section
variable {P : Program} {w : World} {K : PySem.W.Frag} {mg : Str → Option Value} {base : Heap}
theorem rep_nx (i : Nat) (v : V) : List.replicate i v ++ [v] = List.replicate (i + 1) v := (List.replicate_succ' ..).symm
theorem rep_map (n : Nat) : List.replicate n (V.bl true) = (List.replicate n true).map V.bl := by rw [List.map_replicate]
theorem rep_all (n : Nat) : (List.replicate n true).all id = true := by
  rw [List.all_eq_true]
  intro x hx
  rw [(List.mem_replicate.mp hx).2]; rfl
/-! ### law -/
abbrev nLaw : List Str := ["_law_script", "_law_k", "_law_hand_here", "_law_turn"]
theorem scLaw : FnScope nLaw ["_law_script"] (defScope sLaw) := ⟨rfl, rfl, rfl, by decide +kernel, rfl, by decide +kernel, by decide +kernel⟩
def spLaw (K : PySem.W.Frag) (t : Addr) : Sp := fun vs H Q _ => ∃ (a : Addr) (ns : List Int), vs = [.ref a] ∧ SqL K H a (ns.map V.int) ∧ ns.length ≤ 63 ∧ Tabs [(t, qLam)] H ∧ ∀ H', Q (.bl true) H'
theorem ok_law {f t fH fR : Addr} {fd dH dR : FuncData} (F : Fun K "law" "law" sLaw f fd) (B : Bare mg)
    (DH : DefAt K mg "_law_hand" sHand ["_law_script", "_law_k"] fH dH) (DR : DefAt K mg "_law_right" sRight ["_law_hand_here"] fR dR) (GR : FnG P w K mg base CX0 11 fR dR ["_law_hand_here"] (spRi t)) : FnG P w K mg base CX0 12 f fd ["_law_script"] (spLaw K t) := by
  have GH : FnOk P w K mg base CX0 1 fH dH ["_law_script", "_law_k"] (spHand K) := ok_hand DH.fn B
  refine okG F scLaw (fun vs H Q E h => ?_) (fun cdv A outer s H vs Q E gd hr h => ?_)
  · obtain ⟨a, ns, rfl, _⟩ := h
    rfl
  · obtain ⟨a, cs, rfl, hS, hlen, hT, q⟩ := h
    have r1 := hr.mono (show 1 ≤ 11 by decide)
    refine ⟨_, pss_cons (ps_for PassesOwn.never rfl (pi_range1 (by rfl) B.range (pa_cons (pe_callB (call_max2 rfl) (by rfl) B.max (by decide +kernel) (pa_cons pe_int (pa_cons (pe_callB (call_min2 rfl) (by rfl) B.min (by decide +kernel) (pa_cons pe_int (pa_cons (pe_callB call_len_seq (by rfl) B.len PySem.boot_len (pa_cons (pv 0) pa_nil)) pa_nil))) pa_nil))) pa_nil)) (pg_name (i := 1) scLaw.nd rfl (Or.inl rfl))
        (pss_cons (ps_set (i := 2) scLaw.nd rfl (Or.inr rfl) (pe_call GH r1 (by rfl) DH.mg DH.fn.kp DH.bi .nil pass0 (pa_cons (pv 0) (pa_cons (pv 1) pa_nil))))
        (pss_one (ps_if (pt_not (pt_val (pe_callB (cr_all rfl) (by rfl) B.all (by decide +kernel) (pa_cons
          (pe_lc (own := [("_law_turn", 3)]) (g := gName 3) (tt := tYes) rfl scLaw.nd (pi_range1 (by rfl) B.range (pa_cons pe_int pa_nil)) (blkOk_by (N := nLaw) (sc := defScope sLaw) (by decide +kernel)) (fun _ _ _ _ _ => pg_name (i := 3) scLaw.nd rfl (Or.inl rfl)) (fun _ _ _ _ _ => pts_nil)
            (fun _ _ _ _ _ => pe_callG GR gd hr (by rfl) DR.mg DR.fn.kp DR.bi .nil pass0 (pa_cons (pv 2) pa_nil))) pa_nil)))) (pss_one (ps_ret pe_bl)) pss_nil))))
      (pss_one (ps_ret pe_bl)), ?_⟩
    refine ⟨.ref a, rfl, a, _, rfl, .inl hS, 3, _, rfl, 1, _, rfl, ?_⟩
    have vb : ∀ n : Int, 0 ≤ n → n ≤ 63 → 1 ≤ (if (if n < 3 then n else 3) > 1 then (if n < 3 then n else 3) else 1) ∧ (if (if n < 3 then n else 3) > 1 then (if n < 3 then n else 3) else 1) ≤ 3 := fun n _ _ => by
      split <;> split <;> omega
    have vb1 := vb ((cs.map V.int).length : Int) (by omega) (by rw [List.length_map]; omega)
    generalize (if (if ((cs.map V.int).length : Int) < 3 then ((cs.map V.int).length : Int) else 3) > 1 then (if ((cs.map V.int).length : Int) < 3 then ((cs.map V.int).length : Int) else 3) else 1) = nk at vb1 ⊢
    refine ⟨nk, rfl, by omega, by omega, ?_⟩
    refine for_range (lo := 0) (n := nk.toNat) (fun i σ H' => ∃ (y1 y2 y3 : Option V), σ = [some (.ref a), y1, y2, y3] ∧ SqL K H' a (cs.map V.int) ∧ Tabs [(t, qLam)] H') ⟨_, _, _, rfl, hS, hT⟩ (fun i σ H1 hi h => ?_) (fun σ H1 h => q H1)
    obtain ⟨y1, y2, y3, rfl, hS1, hT1⟩ := h
    rw [show (0 + ((i : Nat) : Int)) = (i : Int) by omega]
    refine ⟨.ref a, rfl, .int (i : Int), rfl, a, cs, i, rfl, hS1, by omega, fun H2 p s2 np hp => ?_⟩
    refine nx_step ?_
    dsimp only
    have hS2 := sqL_same s2 hS1
    have hT2 := hT1.ext s2
    have pa : a ≠ p ∨ ∃ o : HO, True := .inr ⟨.lst [], trivial⟩
    refine ⟨6, rfl, by decide, by decide, fun D nD => ?_⟩
    have sD := same_upd (o := .lst []) nD
    have Dp' : D ≠ p := pail_ne hp nD
    refine lc_range (lo := 0) (n := 6) (fun j H' => ButT p H2 H' ∧ Tabs [(t, qLam)] H' ∧ (∃ n : Nat, n ≤ 80 * j ∧ PailAt H' p n) ∧ H' D = some (.lst (List.replicate j (V.bl true)))) ⟨ButT.of (But.of sD), hT2.ext sD, ⟨0, Nat.le_refl _, pail_same hp sD⟩, upd_same⟩ (fun j H3 hj h => ?_) fun H3 h => ?_
    · obtain ⟨b3, hT3, ⟨n, ln, hp3⟩, eD⟩ := h
      refine ⟨rfl, tt_yes ⟨.ref p, rfl, p, n, rfl, hp3, by omega, hT3, fun H4 n' hp4 ln' b4 hT4 => ?_⟩⟩
      have eD4 : H4 D = some (.lst (List.replicate j (V.bl true))) := b4 _ _ eD Dp' fun _ z => by cases z
      have nT : NewT H2 D := newT (t := 0) (ButT.of (But.refl p H2)) hp nD
      refine ⟨_, eD4, by rw [List.length_replicate]; exact few1 (by omega), (b3.trans b4).upd nT, tabs_o eD4 hT4, ⟨n', by omega, pail_set hp4 Dp'⟩, ?_⟩
      rw [upd_same, rep_nx]
    · obtain ⟨b3, hT3, ⟨n, ln, hp3⟩, eD⟩ := h
      rw [rep_map] at eD
      refine ⟨D, _, rfl, lstNew eD, _, rfl, ?_⟩
      rw [rep_all]
      refine iteF ⟨_, _, _, rfl, ?_, hT3⟩
      -- the script
      obtain ⟨x, y, ep, _⟩ := id hp
      rcases hS1 with (z | ⟨o, z⟩) | z
      · exact .inl (.inl (b3 _ _ (s2 _ _ z) (fun w => by rw [w] at z; rw [np] at z; cases z) fun _ w => by cases w))
      · exact .inl (.inr ⟨o, b3 _ _ (s2 _ _ z) (fun w => by rw [w] at z; rw [np] at z; cases z) fun _ w => by cases w⟩)
      · exact .inr z
end
end K43
set_option maxHeartbeats 4000000
namespace K43
open PySem PySem.Spec PyProof.Rows L2 RV
theorem all_x {l : PySem.W.OpenLaw} {w : World} {K : PySem.W.Frag} {h : Heap} {mg : Str → Option Value} {fa : Addr} (X : K.In h) (G : h.Ns mainGlobals mg) (hfa : mg "law" = some (.ref fa)) (c : RV.SaysX hdFa hdFn hdEx K) (cT : ∀ p ∈ hdTs, ∃ c t, RV.TabW K h (He.fAd K p) c t) :
    ∃ (fd : FuncData) (sp : Sp) (cs : List (Addr × Addr)), (∀ q ∈ cs, h.get? q.2 = some (PySem.W.tabObj #[])) ∧ (∀ q ∈ cs, K.lookup q.2 = none) ∧ (∀ q ∈ cs, PySem.W.CodeHd h q.1 q.2) ∧ (∀ (s : Shared) (v : Value), BindsTo s fd ⟨[v], []⟩ [("_law_script", v)]) ∧ (∀ (H : Hp) (a : Addr) (ns : List Int), ns.length ≤ 63 → (∀ q ∈ cs, H q.2 = some (.tbl #[])) → SqL K H a (ns.map V.int) → sp [.ref a] H (fun v _ => v = .bl true) fun _ _ _ => False) ∧ ∀ base : Heap, K.In base → base.Ns mainGlobals mg → (∀ q ∈ cs, LamX.TabB base mg q.1 q.2) → FnG l.prog w K mg base CX0 12 fa fd ["_law_script"] sp := by
  obtain ⟨f23, fd23, F23, bL, mL⟩ := RV.law_x (st := sLaw) (x := "law") (q := "_law_script") X G c 22 (by kernel_rfl) (by kernel_rfl) (by kernel_rfl) fun _ _ _ _ _ _ _ _ => .of_eq rfl
  have e := hfa.symm.trans mL
  cases e
  obtain ⟨C, hC⟩ : ∃ C : Addr, He.ga K "Rule" = C := ⟨_, rfl⟩
  obtain ⟨CT, hCT⟩ : ∃ C : Addr, He.ga K "TooMany" = C := ⟨_, rfl⟩
  obtain ⟨CR, hCR⟩ : ∃ C : Addr, He.ga K "RingError" = C := ⟨_, rfl⟩
  obtain ⟨CN, hCN⟩ : ∃ C : Addr, He.ga K "NoRule" = C := ⟨_, rfl⟩
  obtain ⟨CF, hCF⟩ : ∃ C : Addr, He.ga K "TooFar" = C := ⟨_, rfl⟩
  obtain ⟨f1, fd1, p1, r1, m1⟩ := RV.def_x (st := sWhole) (x := "is_whole") (ps := ["thing"]) X G c 0 (by kernel_rfl) (by kernel_rfl) (by kernel_rfl) fun _ _ _ _ _ _ us hl => match us, hl with | [_], _ => rfl
  have D1 : DefAt K mg "is_whole" sWhole ["thing"] f1 fd1 := ⟨p1, r1, m1⟩
  obtain ⟨f2, fd2, p2, r2, m2⟩ := RV.def_x (st := sMark) (x := "is_below") (ps := ["thing", "many"]) X G c 1 (by kernel_rfl) (by kernel_rfl) (by kernel_rfl) fun _ _ _ _ _ _ us hl => match us, hl with | [_, _], _ => rfl
  have D2 : DefAt K mg "is_below" sMark ["thing", "many"] f2 fd2 := ⟨p2, r2, m2⟩
  obtain ⟨f3, fd3, p3, r3, m3⟩ := RV.def_x (st := sMarks) (x := "are_marks") (ps := ["thing", "many"]) X G c 2 (by kernel_rfl) (by kernel_rfl) (by kernel_rfl) fun _ _ _ _ _ _ us hl => match us, hl with | [_, _], _ => rfl
  have D3 : DefAt K mg "are_marks" sMarks ["thing", "many"] f3 fd3 := ⟨p3, r3, m3⟩
  obtain ⟨f4, fd4, p4, r4, m4⟩ := RV.def_x (st := sMirrors) (x := "are_mirrors") (ps := ["thing"]) X G c 3 (by kernel_rfl) (by kernel_rfl) (by kernel_rfl) fun _ _ _ _ _ _ us hl => match us, hl with | [_], _ => rfl
  have D4 : DefAt K mg "are_mirrors" sMirrors ["thing"] f4 fd4 := ⟨p4, r4, m4⟩
  obtain ⟨f5, fd5, p5, r5, m5⟩ := RV.def_x (st := sSteps) (x := "are_steps") (ps := ["mirrors", "thing"]) X G c 4 (by kernel_rfl) (by kernel_rfl) (by kernel_rfl) fun _ _ _ _ _ _ us hl => match us, hl with | [_, _], _ => rfl
  have D5 : DefAt K mg "are_steps" sSteps ["mirrors", "thing"] f5 fd5 := ⟨p5, r5, m5⟩
  obtain ⟨f6, fd6, p6, r6, m6⟩ := RV.def_x (st := sStep) (x := "is_step") (ps := ["thing", "many"]) X G c 5 (by kernel_rfl) (by kernel_rfl) (by kernel_rfl) fun _ _ _ _ _ _ us hl => match us, hl with | [_, _], _ => rfl
  have D6 : DefAt K mg "is_step" sStep ["thing", "many"] f6 fd6 := ⟨p6, r6, m6⟩
  obtain ⟨f7, fd7, p7, r7, m7⟩ := RV.def_x (st := sRising) (x := "is_rising") (ps := ["pairs"]) X G c 6 (by kernel_rfl) (by kernel_rfl) (by kernel_rfl) fun _ _ _ _ _ _ us hl => match us, hl with | [_], _ => rfl
  have D7 : DefAt K mg "is_rising" sRising ["pairs"] f7 fd7 := ⟨p7, r7, m7⟩
  obtain ⟨f8, fd8, p8, r8, m8⟩ := RV.def_x (st := sBehind) (x := "marks_behind") (ps := ["steps", "mark"]) X G c 7 (by kernel_rfl) (by kernel_rfl) (by kernel_rfl) fun _ _ _ _ _ _ us hl => match us, hl with | [_, _], _ => rfl
  have D8 : DefAt K mg "marks_behind" sBehind ["steps", "mark"] f8 fd8 := ⟨p8, r8, m8⟩
  obtain ⟨f9, fd9, p9, r9, m9⟩ := RV.def_x (st := sEither) (x := "either") (ps := ["one", "other"]) X G c 8 (by kernel_rfl) (by kernel_rfl) (by kernel_rfl) fun _ _ _ _ _ _ us hl => match us, hl with | [_, _], _ => rfl
  have D9 : DefAt K mg "either" sEither ["one", "other"] f9 fd9 := ⟨p9, r9, m9⟩
  obtain ⟨f10, fd10, p10, r10, m10⟩ := RV.def_x (st := sBoth) (x := "both") (ps := ["one", "other"]) X G c 9 (by kernel_rfl) (by kernel_rfl) (by kernel_rfl) fun _ _ _ _ _ _ us hl => match us, hl with | [_, _], _ => rfl
  have D10 : DefAt K mg "both" sBoth ["one", "other"] f10 fd10 := ⟨p10, r10, m10⟩
  obtain ⟨f11, fd11, p11, r11, m11⟩ := RV.def_x (st := sCheckM) (x := "check_marks") (ps := ["many"]) X G c 10 (by kernel_rfl) (by kernel_rfl) (by kernel_rfl) fun _ _ _ _ _ _ us hl => match us, hl with | [_], _ => rfl
  have D11 : DefAt K mg "check_marks" sCheckM ["many"] f11 fd11 := ⟨p11, r11, m11⟩
  obtain ⟨f12, fd12, p12, r12, m12⟩ := RV.def_x (st := sHand) (x := "_law_hand") (ps := ["_law_script", "_law_k"]) X G c 11 (by kernel_rfl) (by kernel_rfl) (by kernel_rfl) fun _ _ _ _ _ _ us hl => match us, hl with | [_, _], _ => rfl
  have D12 : DefAt K mg "_law_hand" sHand ["_law_script", "_law_k"] f12 fd12 := ⟨p12, r12, m12⟩
  obtain ⟨f13, fd13, p13, r13, m13⟩ := RV.def_x (st := sDraw) (x := "_law_take") (ps := ["_law_hand_here", "_law_many"]) X G c 12 (by kernel_rfl) (by kernel_rfl) (by kernel_rfl) fun _ _ _ _ _ _ us hl => match us, hl with | [_, _], _ => rfl
  have D13 : DefAt K mg "_law_take" sDraw ["_law_hand_here", "_law_many"] f13 fd13 := ⟨p13, r13, m13⟩
  obtain ⟨f14, fd14, p14, r14, m14⟩ := RV.def_x (st := sClosed) (x := "_law_closed") (ps := ["_law_mirrors_here", "_law_pairs"]) X G c 13 (by kernel_rfl) (by kernel_rfl) (by kernel_rfl) fun _ _ _ _ _ _ us hl => match us, hl with | [_, _], _ => rfl
  have D14 : DefAt K mg "_law_closed" sClosed ["_law_mirrors_here", "_law_pairs"] f14 fd14 := ⟨p14, r14, m14⟩
  obtain ⟨f15, fd15, p15, r15, m15⟩ := RV.def_x (st := sDMirrors) (x := "_law_mirrors") (ps := ["_law_hand_here", "_law_many"]) X G c 14 (by kernel_rfl) (by kernel_rfl) (by kernel_rfl) fun _ _ _ _ _ _ us hl => match us, hl with | [_, _], _ => rfl
  have D15 : DefAt K mg "_law_mirrors" sDMirrors ["_law_hand_here", "_law_many"] f15 fd15 := ⟨p15, r15, m15⟩
  obtain ⟨f16, fd16, p16, r16, m16⟩ := RV.def_x (st := sRule) (x := "_law_rule") (ps := ["_law_hand_here", "_law_least", "_law_most"]) X G c 15 (by kernel_rfl) (by kernel_rfl) (by kernel_rfl) fun _ _ _ _ _ _ us hl => match us, hl with | [_, _, _], _ => rfl
  have D16 : DefAt K mg "_law_rule" sRule ["_law_hand_here", "_law_least", "_law_most"] f16 fd16 := ⟨p16, r16, m16⟩
  obtain ⟨f17, fd17, p17, r17, m17⟩ := RV.def_x (st := sMade) (x := "_law_made") (ps := ["_law_rule_here"]) X G c 16 (by kernel_rfl) (by kernel_rfl) (by kernel_rfl) fun _ _ _ _ _ _ us hl => match us, hl with | [_], _ => rfl
  have D17 : DefAt K mg "_law_made" sMade ["_law_rule_here"] f17 fd17 := ⟨p17, r17, m17⟩
  obtain ⟨f18, fd18, p18, r18, m18⟩ := RV.def_x (st := sLEither) (x := "_law_either") (ps := ["_law_one_r", "_law_other_r"]) X G c 17 (by kernel_rfl) (by kernel_rfl) (by kernel_rfl) fun _ _ _ _ _ _ us hl => match us, hl with | [_, _], _ => rfl
  have D18 : DefAt K mg "_law_either" sLEither ["_law_one_r", "_law_other_r"] f18 fd18 := ⟨p18, r18, m18⟩
  obtain ⟨f19, fd19, p19, r19, m19⟩ := RV.def_x (st := sLBoth) (x := "_law_both") (ps := ["_law_one_r", "_law_other_r"]) X G c 18 (by kernel_rfl) (by kernel_rfl) (by kernel_rfl) fun _ _ _ _ _ _ us hl => match us, hl with | [_, _], _ => rfl
  have D19 : DefAt K mg "_law_both" sLBoth ["_law_one_r", "_law_other_r"] f19 fd19 := ⟨p19, r19, m19⟩
  obtain ⟨f20, fd20, p20, r20, m20⟩ := RV.def_x (st := sLTold) (x := "_law_told") (ps := ["_law_ask"]) X G c 19 (by kernel_rfl) (by kernel_rfl) (by kernel_rfl) fun _ _ _ _ _ _ us hl => match us, hl with | [_], _ => rfl
  have D20 : DefAt K mg "_law_told" sLTold ["_law_ask"] f20 fd20 := ⟨p20, r20, m20⟩
  obtain ⟨f21, fd21, p21, r21, m21⟩ := RV.def_x (st := sDue) (x := "_law_due") (ps := ["_law_rule_here"]) X G c 20 (by kernel_rfl) (by kernel_rfl) (by kernel_rfl) fun _ _ _ _ _ _ us hl => match us, hl with | [_], _ => rfl
  have D21 : DefAt K mg "_law_due" sDue ["_law_rule_here"] f21 fd21 := ⟨p21, r21, m21⟩
  obtain ⟨f22, fd22, p22, r22, m22⟩ := RV.def_x (st := sRight) (x := "_law_right") (ps := ["_law_hand_here"]) X G c 21 (by kernel_rfl) (by kernel_rfl) (by kernel_rfl) fun _ _ _ _ _ _ us hl => match us, hl with | [_], _ => rfl
  have D22 : DefAt K mg "_law_right" sRight ["_law_hand_here"] f22 fd22 := ⟨p22, r22, m22⟩
  obtain ⟨f24, fd24, F24, b24, a24, i24, k24⟩ := RV.meth_x (st := sInit) (x := "Rule") (m := "__init__") (q := "Rule.__init__") (ps := ["self", "mirrors", "steps"]) c hC 23 46 (by kernel_rfl) (by kernel_rfl) fun _ _ _ _ _ _ us hl => match us, hl with | [_, _, _], _ => rfl
  obtain ⟨f25, fd25, F25, b25, a25, i25, k25⟩ := RV.meth_x (st := sMarksM) (x := "Rule") (m := "marks") (q := "Rule.marks") (ps := ["self"]) c hC 24 47 (by kernel_rfl) (by kernel_rfl) fun _ _ _ _ _ _ us hl => match us, hl with | [_], _ => rfl
  obtain ⟨f26, fd26, F26, b26, a26, i26, k26⟩ := RV.meth_x (st := sMirrorM) (x := "Rule") (m := "mirror") (q := "Rule.mirror") (ps := ["self", "mark"]) c hC 25 48 (by kernel_rfl) (by kernel_rfl) fun _ _ _ _ _ _ us hl => match us, hl with | [_, _], _ => rfl
  obtain ⟨f27, fd27, F27, b27, a27, i27, k27⟩ := RV.meth_x (st := sBehindM) (x := "Rule") (m := "behind") (q := "Rule.behind") (ps := ["self", "mark"]) c hC 26 49 (by kernel_rfl) (by kernel_rfl) fun _ _ _ _ _ _ us hl => match us, hl with | [_, _], _ => rfl
  have pg : PySem.W.plainGet K C Str.empty = true := by
    rw [← hC]
    skip
    skip
    skip
    skip
    exact c.dec (P := fun K => PySem.W.plainGet K (He.ga K "Rule") Str.empty = true) 0 (by kernel_rfl)
  have hd : PySem.W.hasDictIn K C = true := by
    rw [← hC]
    skip
    skip
    skip
    skip
    exact c.dec (P := fun K => PySem.W.hasDictIn K (He.ga K "Rule") = true) 1 (by kernel_rfl)
  have po : PySem.W.plainOver K C = true := by
    rw [← hC]
    skip
    skip
    skip
    skip
    exact c.dec (P := fun K => PySem.W.plainOver K (He.ga K "Rule") = true) 2 (by kernel_rfl)
  have sa : PySem.W.findIn K (.ref C) "__setattr__" = some (some (.builtin "object.__setattr__")) := by
    rw [← hC]
    skip
    skip
    skip
    skip
    exact c.dec (P := fun K => PySem.W.findIn K (.ref (He.ga K "Rule")) "__setattr__" = some (some (.builtin "object.__setattr__"))) 3 (by kernel_rfl)
  have mk : PySem.W.makesIn K C = true := by
    rw [← hC]
    skip
    skip
    skip
    skip
    exact c.dec (P := fun K => PySem.W.makesIn K (He.ga K "Rule") = true) 4 (by kernel_rfl)
  have kc : PySem.W.keepIn K (.ref C) = true := by
    rw [← hC]
    skip
    skip
    skip
    skip
    exact c.dec (P := fun K => PySem.W.keepIn K (.ref (He.ga K "Rule")) = true) 5 (by kernel_rfl)
  have nM : PySem.W.findIn K (.ref C) "mirrors" = some none := by
    rw [← hC]
    skip
    skip
    skip
    skip
    exact c.dec (P := fun K => PySem.W.findIn K (.ref (He.ga K "Rule")) "mirrors" = some none) 6 (by kernel_rfl)
  have nS : PySem.W.findIn K (.ref C) "steps" = some none := by
    rw [← hC]
    skip
    skip
    skip
    skip
    exact c.dec (P := fun K => PySem.W.findIn K (.ref (He.ga K "Rule")) "steps" = some none) 7 (by kernel_rfl)
  have nF : PySem.W.findIn K (.ref C) "followers" = some none := by
    rw [← hC]
    skip
    skip
    skip
    skip
    exact c.dec (P := fun K => PySem.W.findIn K (.ref (He.ga K "Rule")) "followers" = some none) 8 (by kernel_rfl)
  have t1 : PySem.W.findIn K (.ref C) "__class__" = some (some (.builtin "object.__class__")) := by
    rw [← hC]
    skip
    skip
    skip
    skip
    exact c.dec (P := fun K => PySem.W.findIn K (.ref (He.ga K "Rule")) "__class__" = some (some (.builtin "object.__class__"))) 9 (by kernel_rfl)
  have t2 : PySem.W.specialIn K (.builtin "object.__class__") "__get__" = some (some (.builtin "getset_descriptor.__get__")) := by
    skip
    skip
    skip
    skip
    skip
    exact c.dec (P := fun K => PySem.W.specialIn K (.builtin "object.__class__") "__get__" = some (some (.builtin "getset_descriptor.__get__"))) 10 (by kernel_rfl)
  have t3 : PySem.W.takesIn K (.builtin "object.__class__") = some true := by
    skip
    skip
    skip
    skip
    skip
    exact c.dec (P := fun K => PySem.W.takesIn K (.builtin "object.__class__") = some true) 11 (by kernel_rfl)
  have t4 : PySem.W.mroIn K C (.type "object") = some true := by
    rw [← hC]
    skip
    skip
    skip
    skip
    exact c.dec (P := fun K => PySem.W.mroIn K (He.ga K "Rule") (.type "object") = some true) 12 (by kernel_rfl)
  obtain ⟨tk, mM⟩ := RV.intX_ok (x := "MOST_MARKS") (i := 8) (c.look 13 (by kernel_rfl))
  have x1 : PySem.W.excIn K CT [.type "ValueError", .type "Exception", .type "BaseException", .type "object"] "ValueError.__new__" = true := by
    skip
    rw [← hCT]
    skip
    skip
    skip
    exact c.dec (P := fun K => PySem.W.excIn K (He.ga K "TooMany") [.type "ValueError", .type "Exception", .type "BaseException", .type "object"] "ValueError.__new__" = true) 14 (by kernel_rfl)
  have x2 : PySem.W.keepIn K (.ref CT) = true := by
    skip
    rw [← hCT]
    skip
    skip
    skip
    exact c.dec (P := fun K => PySem.W.keepIn K (.ref (He.ga K "TooMany")) = true) 15 (by kernel_rfl)
  have x3 : PySem.W.subIn K (.ref CT) (.type "BaseException") = some true := by
    skip
    rw [← hCT]
    skip
    skip
    skip
    exact c.dec (P := fun K => PySem.W.subIn K (.ref (He.ga K "TooMany")) (.type "BaseException") = some true) 16 (by kernel_rfl)
  have x4 : PySem.W.typeIn K (.ref CT) = some (.type "type") := by
    skip
    rw [← hCT]
    skip
    skip
    skip
    exact c.dec (P := fun K => PySem.W.typeIn K (.ref (He.ga K "TooMany")) = some (.type "type")) 17 (by kernel_rfl)
  have x5 : PySem.W.findIn K (.ref CT) "__getattribute__" = some (some (.builtin "BaseException.__getattribute__")) := by
    skip
    rw [← hCT]
    skip
    skip
    skip
    exact c.dec (P := fun K => PySem.W.findIn K (.ref (He.ga K "TooMany")) "__getattribute__" = some (some (.builtin "BaseException.__getattribute__"))) 18 (by kernel_rfl)
  have x6 : PySem.W.findIn K (.ref CT) "__getattr__" = some none := by
    skip
    rw [← hCT]
    skip
    skip
    skip
    exact c.dec (P := fun K => PySem.W.findIn K (.ref (He.ga K "TooMany")) "__getattr__" = some none) 19 (by kernel_rfl)
  have x7 : PySem.W.hasDictIn K CT = true := by
    skip
    rw [← hCT]
    skip
    skip
    skip
    exact c.dec (P := fun K => PySem.W.hasDictIn K (He.ga K "TooMany") = true) 20 (by kernel_rfl)
  have x8 : PySem.W.findIn K (.ref CT) "__class__" = some (some (.builtin "object.__class__")) := by
    skip
    rw [← hCT]
    skip
    skip
    skip
    exact c.dec (P := fun K => PySem.W.findIn K (.ref (He.ga K "TooMany")) "__class__" = some (some (.builtin "object.__class__"))) 21 (by kernel_rfl)
  have x9 : PySem.W.mroIn K CT (.type "object") = some true := by
    skip
    rw [← hCT]
    skip
    skip
    skip
    exact c.dec (P := fun K => PySem.W.mroIn K (He.ga K "TooMany") (.type "object") = some true) 22 (by kernel_rfl)
  have x10 : PySem.W.exmOne K (.ref CT) (.ref CR) = some true := by
    skip
    rw [← hCT]
    rw [← hCR]
    skip
    skip
    exact c.dec (P := fun K => PySem.W.exmOne K (.ref (He.ga K "TooMany")) (.ref (He.ga K "RingError")) = some true) 23 (by kernel_rfl)
  have x11 : PySem.W.kitOne K (.ref CT) (.ref CT) = some true := by
    skip
    rw [← hCT]
    skip
    skip
    skip
    exact c.dec (P := fun K => PySem.W.kitOne K (.ref (He.ga K "TooMany")) (.ref (He.ga K "TooMany")) = some true) 24 (by kernel_rfl)
  have x12 : PySem.W.kitOne K (.ref CT) (.ref CN) = some false := by
    skip
    rw [← hCT]
    skip
    rw [← hCN]
    skip
    exact c.dec (P := fun K => PySem.W.kitOne K (.ref (He.ga K "TooMany")) (.ref (He.ga K "NoRule")) = some false) 25 (by kernel_rfl)
  have x13 : PySem.W.kitOne K (.ref CT) (.ref CF) = some false := by
    skip
    rw [← hCT]
    skip
    skip
    rw [← hCF]
    exact c.dec (P := fun K => PySem.W.kitOne K (.ref (He.ga K "TooMany")) (.ref (He.ga K "TooFar")) = some false) 26 (by kernel_rfl)
  have aC : PySem.W.nsIn K mainGlobals "Rule" = some (some (.ref C)) := by
    rw [← hC]
    skip
    skip
    skip
    skip
    exact c.dec (P := fun K => PySem.W.nsIn K mainGlobals "Rule" = some (some (.ref (He.ga K "Rule")))) 46 (by kernel_rfl)
  have aCT : PySem.W.nsIn K mainGlobals "TooMany" = some (some (.ref CT)) := by
    skip
    rw [← hCT]
    skip
    skip
    skip
    exact c.dec (P := fun K => PySem.W.nsIn K mainGlobals "TooMany" = some (some (.ref (He.ga K "TooMany")))) 47 (by kernel_rfl)
  have aCR : PySem.W.nsIn K mainGlobals "RingError" = some (some (.ref CR)) := by
    skip
    skip
    rw [← hCR]
    skip
    skip
    exact c.dec (P := fun K => PySem.W.nsIn K mainGlobals "RingError" = some (some (.ref (He.ga K "RingError")))) 48 (by kernel_rfl)
  have aCN : PySem.W.nsIn K mainGlobals "NoRule" = some (some (.ref CN)) := by
    skip
    skip
    skip
    rw [← hCN]
    skip
    exact c.dec (P := fun K => PySem.W.nsIn K mainGlobals "NoRule" = some (some (.ref (He.ga K "NoRule")))) 49 (by kernel_rfl)
  have aCF : PySem.W.nsIn K mainGlobals "TooFar" = some (some (.ref CF)) := by
    skip
    skip
    skip
    skip
    rw [← hCF]
    exact c.dec (P := fun K => PySem.W.nsIn K mainGlobals "TooFar" = some (some (.ref (He.ga K "TooFar")))) 50 (by kernel_rfl)
  have z0 : PySem.W.nsIn K mainGlobals "len" = some none := by
    skip
    skip
    skip
    skip
    skip
    exact c.dec (P := fun K => PySem.W.nsIn K mainGlobals "len" = some none) 27 (by kernel_rfl)
  have z1 : PySem.W.nsIn K mainGlobals "isinstance" = some none := by
    skip
    skip
    skip
    skip
    skip
    exact c.dec (P := fun K => PySem.W.nsIn K mainGlobals "isinstance" = some none) 28 (by kernel_rfl)
  have z2 : PySem.W.nsIn K mainGlobals "int" = some none := by
    skip
    skip
    skip
    skip
    skip
    exact c.dec (P := fun K => PySem.W.nsIn K mainGlobals "int" = some none) 29 (by kernel_rfl)
  have z3 : PySem.W.nsIn K mainGlobals "bool" = some none := by
    skip
    skip
    skip
    skip
    skip
    exact c.dec (P := fun K => PySem.W.nsIn K mainGlobals "bool" = some none) 30 (by kernel_rfl)
  have z4 : PySem.W.nsIn K mainGlobals "tuple" = some none := by
    skip
    skip
    skip
    skip
    skip
    exact c.dec (P := fun K => PySem.W.nsIn K mainGlobals "tuple" = some none) 31 (by kernel_rfl)
  have z5 : PySem.W.nsIn K mainGlobals "all" = some none := by
    skip
    skip
    skip
    skip
    skip
    exact c.dec (P := fun K => PySem.W.nsIn K mainGlobals "all" = some none) 32 (by kernel_rfl)
  have z6 : PySem.W.nsIn K mainGlobals "enumerate" = some none := by
    skip
    skip
    skip
    skip
    skip
    exact c.dec (P := fun K => PySem.W.nsIn K mainGlobals "enumerate" = some none) 33 (by kernel_rfl)
  have z7 : PySem.W.nsIn K mainGlobals "zip" = some none := by
    skip
    skip
    skip
    skip
    skip
    exact c.dec (P := fun K => PySem.W.nsIn K mainGlobals "zip" = some none) 34 (by kernel_rfl)
  have z8 : PySem.W.nsIn K mainGlobals "range" = some none := by
    skip
    skip
    skip
    skip
    skip
    exact c.dec (P := fun K => PySem.W.nsIn K mainGlobals "range" = some none) 35 (by kernel_rfl)
  have z9 : PySem.W.nsIn K mainGlobals "list" = some none := by
    skip
    skip
    skip
    skip
    skip
    exact c.dec (P := fun K => PySem.W.nsIn K mainGlobals "list" = some none) 36 (by kernel_rfl)
  have z10 : PySem.W.nsIn K mainGlobals "set" = some none := by
    skip
    skip
    skip
    skip
    skip
    exact c.dec (P := fun K => PySem.W.nsIn K mainGlobals "set" = some none) 37 (by kernel_rfl)
  have z11 : PySem.W.nsIn K mainGlobals "sorted" = some none := by
    skip
    skip
    skip
    skip
    skip
    exact c.dec (P := fun K => PySem.W.nsIn K mainGlobals "sorted" = some none) 38 (by kernel_rfl)
  have z12 : PySem.W.nsIn K mainGlobals "abs" = some none := by
    skip
    skip
    skip
    skip
    skip
    exact c.dec (P := fun K => PySem.W.nsIn K mainGlobals "abs" = some none) 39 (by kernel_rfl)
  have z13 : PySem.W.nsIn K mainGlobals "max" = some none := by
    skip
    skip
    skip
    skip
    skip
    exact c.dec (P := fun K => PySem.W.nsIn K mainGlobals "max" = some none) 40 (by kernel_rfl)
  have z14 : PySem.W.nsIn K mainGlobals "min" = some none := by
    skip
    skip
    skip
    skip
    skip
    exact c.dec (P := fun K => PySem.W.nsIn K mainGlobals "min" = some none) 41 (by kernel_rfl)
  have z15 : PySem.W.nsIn K mainGlobals "repr" = some none := by
    skip
    skip
    skip
    skip
    skip
    exact c.dec (P := fun K => PySem.W.nsIn K mainGlobals "repr" = some none) 42 (by kernel_rfl)
  have z16 : PySem.W.nsIn K mainGlobals "dict" = some none := by
    skip
    skip
    skip
    skip
    skip
    exact c.dec (P := fun K => PySem.W.nsIn K mainGlobals "dict" = some none) 43 (by kernel_rfl)
  have z17 : PySem.W.nsIn K mainGlobals "any" = some none := by
    skip
    skip
    skip
    skip
    skip
    exact c.dec (P := fun K => PySem.W.nsIn K mainGlobals "any" = some none) 44 (by kernel_rfl)
  have z18 : PySem.W.nsIn K mainGlobals "str" = some none := by
    skip
    skip
    skip
    skip
    skip
    exact c.dec (P := fun K => PySem.W.nsIn K mainGlobals "str" = some none) 45 (by kernel_rfl)
  have B : Bare mg := ⟨PySem.W.mg_none_of X G z0, PySem.W.mg_none_of X G z1, PySem.W.mg_none_of X G z2, PySem.W.mg_none_of X G z3, PySem.W.mg_none_of X G z4, PySem.W.mg_none_of X G z5, PySem.W.mg_none_of X G z6, PySem.W.mg_none_of X G z7, PySem.W.mg_none_of X G z8, PySem.W.mg_none_of X G z9, PySem.W.mg_none_of X G z10, PySem.W.mg_none_of X G z11, PySem.W.mg_none_of X G z12, PySem.W.mg_none_of X G z13, PySem.W.mg_none_of X G z14, PySem.W.mg_none_of X G z15, PySem.W.mg_none_of X G z16, PySem.W.mg_none_of X G z17, PySem.W.mg_none_of X G z18⟩
  have T : Txt K mg C := ⟨⟨pg, hd, po, sa⟩, nM, nS, nF, PySem.W.mg_of X G aC, t1, t2, t3, t4, kit_self⟩
  have mm := PySem.W.mg_of X G mM
  obtain ⟨tc0, tt0, TW0⟩ := cT ("_law_right", none) (by unfold hdTs; simp)
  have tAll : ∀ q ∈ ([(tc0, tt0)] : List (Addr × Addr)), h.get? q.2 = some (PySem.W.tabObj #[]) ∧ K.lookup q.2 = none ∧ PySem.W.CodeHd h q.1 q.2 := fun q hq => by
    simp only [List.mem_cons, List.not_mem_nil, or_false] at hq
    rcases hq with rfl
    · exact ⟨TW0.new, TW0.out, PySem.W.codeHd_of_K X TW0.hd⟩
  refine ⟨fd23, (spLaw K tt0), [(tc0, tt0)], fun q hq => (tAll q hq).1, fun q hq => (tAll q hq).2.1, fun q hq => (tAll q hq).2.2, bL, fun _ a ns hl hT hS => ⟨a, ns, rfl, hS, hl, (fun q hq => by rw [List.mem_singleton.mp hq]; exact LamX.TabS.nil (hT (tc0, tt0) (by simp))), fun _ => rfl⟩, fun base _ _ hB => ?_⟩
  have eF0 : He.fAd K ("_law_right", none) = f22 := by
    have z := m22.symm.trans (He.glo_ok X G (c.e.fact 42 (by kernel_rfl)))
    cases z; rfl
  have LT0 : RV.LamT K mg base f22 tc0 tt0 := ⟨eF0 ▸ TW0.fd, hB (tc0, tt0) (by simp)⟩
  have G3 : FnOk l.prog w K mg base CX0 3 f3 _ ["thing", "many"] (spMarks K) := ok_marks D3.fn D2 D1 B
  have G4 : FnOk l.prog w K mg base CX0 4 f4 _ ["thing"] (spMirrors K) := ok_mirrors D4.fn D3 G3 B mm
  have G6 : FnOk l.prog w K mg base CX0 4 f6 _ ["thing", "many"] (spStep K) := ok_step D6.fn D3 G3 B
  have G5 : FnOk l.prog w K mg base CX0 5 f5 _ ["mirrors", "thing"] (spSteps K) := ok_steps D5.fn D6 G6 D7 B
  have GI : FnOk l.prog w K mg base CX0 6 f24 _ ["self", "mirrors", "steps"] (spInit K C) := ok_init F24 T D4 G4 D5 G5 D8 B
  have XE : Err K mg CT CR := ⟨PySem.W.mg_of X G aCT, x1, x2, x3, x4, ⟨x5, x6, x3, x7, x8, t2, t3, x9⟩, PySem.W.mg_of X G aCR, x10, x11⟩
  have XO : Oth K mg CT CN CF := ⟨PySem.W.mg_of X G aCN, x12, PySem.W.mg_of X G aCF, x13⟩
  have GU : FnOk l.prog w K mg base CX0 3 f16 _ ["_law_hand_here", "_law_least", "_law_most"] (spRu K) := ok_ru D16.fn D15 D14 D13 B
  have GMA : FnOk l.prog w K mg base CX0 8 f17 _ ["_law_rule_here"] (spMade K C) := ok_made D17.fn T ⟨mk, a24, i24, kc⟩ b24 GI B
  have GCK : FnOk l.prog w K mg base (L2.CX l.prog w) 1 f11 _ ["many"] (spChk CT) := ok_chk D11.fn mm XE
  have GEI : FnOk l.prog w K mg base (L2.CX l.prog w) 8 f9 _ ["one", "other"] (spTwo K C CT eiN eiF) := ok_ei (CR := CR) D9.fn T B ⟨mk, a24, i24, kc⟩ b24 GI F25 b25 ⟨a25, i25, k25⟩ D11 GCK
  have GBO : FnOk l.prog w K mg base (L2.CX l.prog w) 8 f10 _ ["one", "other"] (spTwo K C CT boN boF) := ok_bo (CR := CR) D10.fn T B ⟨mk, a24, i24, kc⟩ b24 GI F25 b25 ⟨a25, i25, k25⟩ D11 GCK
  have GRI : FnG l.prog w K mg base CX0 11 f22 _ ["_law_hand_here"] (spRi tt0) := ok_ri D22.fn LT0 T B XE XO D16 GU D17 GMA D20 D9 GEI D10 GBO D18 D19 D21
  exact ok_law F23 B D12 D22 GRI
end K43
open PySem PySem.W PyProof.Rows
set_option maxRecDepth 100000 in
set_option maxHeartbeats 0 in
theorem PySem.Challenge.cw_ringvouch_k43_rules_put_together_holds : PySem.Challenge.rw_ringvouch_k43_rules_put_together.Holds := by
  refine K43.hdHolds ?hc
  case hc =>
    refine RV.walk_GT (l := PySem.Challenge.rw_ringvouch_k43_rules_put_together) (n := 63) (k := 12) (x := "_law_script") rfl (by decide) (by kernel_rfl) ⟨rfl, by decide, by decide⟩ ?F
    intro w mg fa h Y G hmg0
    obtain ⟨K, KX, c, cT⟩ := Y
    have hmg : mg ("law" : PySem.Str) = some (.ref fa) := by
      rw [← K43.hdName]
      exact hmg0
    obtain ⟨fd, sp, cs, t1, t2, t3, hb, hs, hF⟩ := K43.all_x (l := PySem.Challenge.rw_ringvouch_k43_rules_put_together) (w := w) KX G hmg c cT
    exact ⟨K, fd, sp, cs, KX, t1, t2, t3, hb, hs, hF⟩
