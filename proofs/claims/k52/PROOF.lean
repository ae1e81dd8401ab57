import PyProof.Rows.All
import Wide.All
import OpenK.AllK
import Wide.FinOn
import HandS.ForMost
import KE.GoesEnum
import HandS.Style
import KE.KRevSl
import PyProof.ReprRoads
import HandS.OwnEq
import PyProof.InstNe
import HandS.TupSets
import HandS.IsInst
import HandS.Walk
import HandS.Zip
import HandS.TupAny
import HandS.Deep
import HandS.Conv
import HandS.More
import HandS.Wide
import HandS.Text
import HandS.TupMul
import HandS.Iter
import HandS.FStr
import HandS.TupLe
import PyProof.ReprBulk
import HandS.Flow
import PySem.Challenge.RW_ringvouch_k52_rings_plans_reasons_writte
set_option Elab.async false
set_option linter.all false
set_option maxRecDepth 100000
namespace RV
open PySem PySem.Spec PyProof.Rows L2
set_option maxHeartbeats 4000000 in
theorem meets_en1 {val : Value} {ob : Obj} {HH : Heap → Prop} (B : Begins val ob HH) :
    Meets (Builtin.«enumerate.__new__» ⟨[.type "enumerate", val], []⟩) (fun _ R st => HH st.heap ∧
      R (.ok (.ret (.ref (st.heap.push ob).objs.size)))
        { st with heap := (st.heap.push ob).push { cls := .type "enumerate", data := .fields #[.none, .bool false, .ref st.heap.objs.size, rawInt 0, .none, .none] } }) :=
  .of_wp fun prog w A R st hyp => by
    obtain ⟨hp, gs, dr, tk, os⟩ := st
    obtain ⟨hyp1, hyp2⟩ := hyp
    have hsub := sub_enumerate
    have it1 : ∀ {A' : Around} {E : Value → Shared → Prop} {Q : Value → Shared → Prop}, Q (.ref hp.objs.size) ⟨hp.push ob, gs, dr, tk, os⟩ →
        wpAny (model prog w) A' (pyIter val) Q E ⟨hp, gs, dr, tk, os⟩ := fun q => B.iter prog w _ _ ⟨hp, gs, dr, tk, os⟩ _ hyp1 q
    wp_walk using it1
    refine wpAny_stack_any fun sk => wpAny_pure ?_
    split
    · rename_i cc _ _ _ _ _
      cases (cc == Value.type "enumerate") <;> (wp_walk using it1; exact ⟨_, rfl, hyp2⟩)
    · wp_walk using it1
      exact ⟨_, rfl, hyp2⟩
section
variable {prog : Program} {w : World} {A : Around} {E : Value → Shared → Prop} {s : Shared}
theorem call_en1 {val : Value} {ob : Obj} {HH : Heap → Prop} {Q : Value → Shared → Prop} (B : Begins val ob HH) (hh : HH s.heap)
    (k : ∀ h', IsEnum h' (s.heap.objs.size + 1) s.heap.objs.size 0 .none → h'.get? s.heap.objs.size = some ob → h'.objs.size = s.heap.objs.size + 2 →
      (∀ b o, s.heap.get? b = some o → h'.get? b = some o) → Q (.ref (s.heap.objs.size + 1)) { s with heap := h' }) :
    wpAny (model prog w) A (call (.type "enumerate") [val]) Q E s := by
  refine callType_new F.called_enumerate (by decide) (F.typeCall_enumerate_1 _) (F.newCall_enumerate_1 _) (fun oo => F.args_object_init_2 oo _) F.entry_enumerate_new (meets_en1 B) ⟨hh, ?_⟩
  have z1 : (s.heap.push ob).objs.size = s.heap.objs.size + 1 := Heap.size_push ..
  show _ ∧ _
  rw [z1]
  have z2 : IsEnum ((s.heap.push ob).push { cls := .type "enumerate", data := .fields #[.none, .bool false, .ref s.heap.objs.size, rawInt 0, .none, .none] }) (s.heap.objs.size + 1) s.heap.objs.size 0 .none := by
    have z3 := Heap.get?_push_size (s.heap.push ob) (o := { cls := .type "enumerate", data := .fields #[.none, .bool false, .ref s.heap.objs.size, rawInt 0, .none, .none] }) rfl
    rw [z1] at z3; exact z3
  refine ⟨⟨_, z2, rfl⟩, k _ z2 (Heap.get?_push_of_some _ (Heap.get?_push_size _ B.free)) (by rw [Heap.size_push, z1]) fun b o x => ?_⟩
  exact Heap.get?_push_of_some _ (Heap.get?_push_of_some _ x)
end
/-- enumerate of a tuple: the items in new pairs -/
def IteT (K : PySem.W.Frag) (a : Addr) : It where
  go i H := ∃ (xs : List V) (x : V), SqT K H a xs ∧ xs[i]? = some x
  yld i H v H' := ∃ T x, v = .ref T ∧ H T = none ∧ H' = upd H T (.tup [.int (i : Nat), x]) ∧ ∀ xs, SqT K H a xs → xs[i]? = some x
  stop i H := ∃ xs : List V, SqT K H a xs ∧ xs.length ≤ i
theorem turn_enT {P : Program} {w : World} {K : PySem.W.Frag} {elts : List Expr} {kk : Nat} {tpos : Pos} (a e it : Addr) :
    Turn P w K (.Tuple elts kk tpos) (IteT K a) [e, it] e (fun i h => (∃ old, IsEnum h e it ((i : Nat) : Int) old) ∧ h.IsTupleIter it a i ∧ e ≠ it ∧ a ≠ it ∧ a ≠ e) where
  mem := by simp
  obj := fun i h st b hb => by
    obtain ⟨⟨old, he⟩, ⟨o, ho, hc, hd⟩, _, _⟩ := st
    have eb : b = e ∨ b = it := by simpa using hb
    rcases eb with rfl | rfl
    · exact ⟨_, he, fun v q => nomatch q⟩
    · exact ⟨o, ho, fun v q => by rw [hd] at q; cases q⟩
  keep := fun i h h' st k => let ⟨⟨old, he⟩, hi, hne⟩ := st; ⟨⟨old, k e (by simp) _ he⟩, hi.at fun o q => k it (by simp) o q, hne⟩
  item := by
    intro X hP hw hK hc i pins s σ H E I hf st hg
    subst hP hw hK
    obtain ⟨⟨old, he⟩, hit, hne, hai, hae⟩ := st
    obtain ⟨xs, x, hq, hx⟩ := hg
    obtain ⟨its, rv, p, hz⟩ := I.tuple hq
    obtain ⟨u, hu, ru⟩ := rv.get hx
    have hel : e < s.heap.objs.size := Heap.lt_size he
    have hil : it < s.heap.objs.size := by obtain ⟨_, q, _⟩ := hit; exact Heap.lt_size q
    have hi : i < its.toArray.size := by
      have := (List.getElem?_eq_some_iff.mp hu).1
      simpa using this
    refine wpAny_pyNext_enum_itemD (A := X.A) (Draws.tuple (A := X.A.in1) (show X.A.in1.handled = none from I.ok.hd hc) it a hai its.toArray) he ⟨hit, p⟩ hi hne (by simp [hne, Ne.symm hae]) fun y h' tk hy ho hst hT hsz hk => ?_
    have hyu : y = u := by
      have e1 : its[i]? = some y := by simpa using hy
      rw [hu] at e1
      exact (Option.some.inj e1).symm
    subst hyu
    refine ⟨_, rfl, wpAny_letOwnedTupleGo_enum (s := { s with heap := h', toks := tk + 1 }) ho fun h'' he' sb => ?_⟩
    have hT2 : h''.get? s.heap.objs.size = some { cls := .type "tuple", data := .seq #[.int i tk, y] } := (sb.2 _ (Nat.ne_of_gt hel)).trans hT
    have new : ObjOk X.prog X.w (upd H s.heap.objs.size (.tup [.int (i : Nat), x])) h'' s.heap.objs.size (.tup [.int (i : Nat), x]) :=
      ⟨by show 2 ≤ sizeLine; decide, [.int i tk, y], .cons ⟨_, rfl⟩ (.cons ru .nil), ⟨_, hT2, rfl, _, rfl⟩⟩
    have I1 : Inv X pins σ (upd H s.heap.objs.size (.tup [.int (i : Nat), x])) { s with heap := h'', toks := tk + 1 } := by
      refine I.turnedNew (ch := [e, it]) (fun b ob hb q => ?_) hf (Nat.le_refl _) new
      exact (sb.2 b (fun z => hb (by simp [z]))).trans (hk b ob (fun z => hb (by simp [z])) (fun z => hb (by simp [z])) q)
    refine ⟨.ref s.heap.objs.size, _, I1, rfl, ⟨_, x, rfl, I.hok.fresh (Nat.le_refl _), rfl, fun ys hy => ?_⟩, ⟨⟨y, ?_⟩, hst.1.at fun o q => (sb.2 it (Ne.symm hne)).trans q, hne, hai, hae⟩, fun b hb => ?_⟩
    · rw [I.tuple_inj hy hq]; exact hx
    · rw [show ((i + 1 : Nat) : Int) = (i : Int) + 1 by omega]; exact he'
    · have eb : b = e ∨ b = it := by simpa using hb
      have hb' : b < s.heap.objs.size := by
        rcases eb with z | z <;> rw [z] <;> assumption
      rw [upd_ne (Nat.ne_of_lt hb')]
      exact (hf b hb).1
  done := by
    intro X hP hw hK hc i pins s σ H E I hf st hg
    subst hP hw hK
    obtain ⟨⟨old, he⟩, hit, hne, hai, hae⟩ := st
    obtain ⟨xs, hq, hx⟩ := hg
    obtain ⟨its, rv, p, hz⟩ := I.tuple hq
    obtain ⟨f0, f1, f2, f3, f4, f5⟩ := hf it (by simp)
    have hl := rv.length
    have hT : s.TypeIs (.ref e) "enumerate" := ⟨_, he, rfl⟩
    unfold pyNext
    refine wpAny_bind (wpAny_attempt (wpAny_callSpecial?_slot (name := Str.ofString "__next__") hT F.slot_enumerate_next (wpAny_call_entry F.slot_enumerate_next hT F.entry_enumerate_next ?_ (F.args_enumerate_next_1 _))))
    show wpAny _ _ (field (.ref e) 2 >>= _) _ _ _
    refine wpAny_bind (wpAny_field he rfl (x := .ref it) rfl ?_)
    refine wpAny_bind (wpAny_nextOf_tuple_end (I.ok.hd hc) hit p (by simp; omega) fun h' x he' hx' => ?_)
    obtain ⟨o, ho, hco⟩ := hx'
    refine wpAny_bind (wpAny_isInstance (T := "StopIteration") (b := true) ⟨o, ho, hco⟩ isSubtype_stop ?_)
    exact wpAny_pure ⟨rfl, I.turned (t' := s.toks) (fun b o hb q => he' b o hb q) f0 f1 f3 f4 f5⟩
  self := fun A i s Q E st h => let ⟨⟨_, he⟩, _⟩ := st; wpAny_pyIter_enum he h
def iEnT (K : PySem.W.Frag) (ta : TA) : TI := fun σ H R => ta σ H fun vs H1 => ∃ a xs, vs = [.ref a] ∧ SqT K H1 a xs ∧ R (IteT K a) H1
theorem pi_enT {X : Cx} {e : Expr} {ta : TA} {p pos tpos : Pos} {elts : List Expr} {kk : Nat} (hg : Gl X "enumerate") (hm : X.mg "enumerate" = none) (ha : PA X [e] ta)
    (hs : starEach [e] X.env = [(false, eval e X.env)] := by rfl) : PI X (.Tuple elts kk tpos) (.Call (.Name "enumerate" p) [e] [] pos) (iEnT X.K ta) := by
  refine ⟨fun pins s σ H R I h => Call_ (ld_blt I hg hm boot_enumerate (PyProof.Rows.callWith_type1 (thn (ha.run pos pins s σ H _ I h) fun us s1 ⟨vs, H1, I1, r1, q1⟩ => ?_) hs rfl))⟩
  obtain ⟨a, xs, ex, hq, q⟩ := q1
  subst ex
  cases r1 with
  | cons r rr =>
    cases rr
    cases r
    obtain ⟨its, rv, p', hz⟩ := I1.tuple hq
    have ha0 : a < s1.heap.objs.size := by
      obtain ⟨o, ho, _⟩ := p'
      exact Heap.lt_size ho
    refine call_en1 (begins_tuple a its.toArray) p' fun h' he hit hsz hk => wpAny_pyIter_enum he ?_
    have I2 : Inv X pins σ H1 { s1 with heap := h' } := I1.kept (t' := s1.toks) hk
    refine ⟨s1.heap.objs.size + 1, [s1.heap.objs.size + 1, s1.heap.objs.size], _, _, H1, rfl, I2, turn_enT a (s1.heap.objs.size + 1) s1.heap.objs.size,
      ⟨⟨.none, he⟩, ⟨_, hit, rfl, rfl⟩, Nat.succ_ne_self _, Nat.ne_of_lt ha0, Nat.ne_of_lt (Nat.lt_succ_of_lt ha0)⟩, fun b hb => ?_, q⟩
    have eb : b = s1.heap.objs.size + 1 ∨ b = s1.heap.objs.size := by simpa using hb
    have hle : s1.heap.objs.size ≤ b := by
      rcases eb with z | z
      · rw [z]; exact Nat.le_add_right _ _
      · rw [z]; exact Nat.le_refl _
    exact I1.fpOk hle (I1.hok.fresh hle)
end RV
set_option maxHeartbeats 4000000
namespace RV
open PySem PySem.Spec PyProof.Rows L2 HT
theorem back_places (n : Nat) : Builtin.Slice.slicePlaces ((n : Int) - 1) (-1) (-1) = n := by
  unfold Builtin.Slice.slicePlaces
  rw [if_neg (show ¬ ((-1 : Int) > 0) by decide)]
  by_cases hn : (n : Int) - 1 > -1
  · rw [if_pos hn, show (- -1 : Int) = 1 from rfl, Int.ediv_one]; omega
  · rw [if_neg hn]; omega
theorem back_pick (xs : Array Value) : ((List.range xs.size).filterMap fun (m : Nat) => xs[((xs.size : Int) - 1 + (m : Int) * (-1)).toNat]?).toArray = xs.toList.reverse.toArray := by
  have e0 : ∀ (l : List Nat), (∀ m ∈ l, m < xs.size) → l.filterMap (fun (m : Nat) => xs[((xs.size : Int) - 1 + (m : Int) * (-1)).toNat]?) = (l.map fun k => xs.size - 1 - k).filterMap (xs[·]?) := by
    intro l
    induction l with
    | nil => intro _; rfl
    | cons m r ih =>
      intro hm
      have h1 := hm m (List.mem_cons_self ..)
      have h2 := ih fun z hz => hm z (List.mem_cons_of_mem _ hz)
      rw [List.map_cons, List.filterMap_cons, List.filterMap_cons, h2, show ((xs.size : Int) - 1 + (m : Int) * (-1)).toNat = xs.size - 1 - m by omega]
  have e1 := e0 (List.range xs.size) fun m hm => List.mem_range.mp hm
  rw [e1, PySem.W.krv_range, List.filterMap_reverse, PySem.W.krv_all]
section
variable {prog : Program} {w : World} {A : Around} {E : Value → Shared → Prop} {s : Shared}
theorem applied_back {sl : Addr} {vl vu vs : Value} {n : Nat} {Q : Int × Int × Nat → Shared → Prop} (hs : s.heap.IsSliceOf sl vl vu vs) (pl : IsPart vl none) (pu : IsPart vu none) (ps : IsPart vs (some (-1)))
    (k : Q ((n : Int) - 1, -1, n) s) : wpAny (model prog w) A (Builtin.Slice.sliceApplied (.ref sl) (pure (n : Int))) Q E s := by
  obtain ⟨os, o1, o2, o3⟩ := id hs
  unfold Builtin.Slice.sliceApplied Builtin.Slice.sliceFields
  refine wpAny_bind (wpAny_bind (wpAny_field o1 o3 (x := vl) rfl (wpAny_bind (wpAny_field o1 o3 (x := vu) rfl (wpAny_bind (wpAny_field o1 o3 (x := vs) rfl (wpAny_pure ?_)))))))
  refine wpAny_bind (slicePart_ ps ?_)
  show wpAny _ _ (if ((-1 : Int) == 0) = true then _ else _) _ _ s
  rw [if_neg (by decide)]
  refine wpAny_bind (slicePart_ pl (wpAny_bind (slicePart_ pu (wpAny_bind (wpAny_pure ?_)))))
  show wpAny _ _ (pure ((n : Int) - 1, (-1 : Int), Builtin.Slice.slicePlaces ((n : Int) - 1) (-1) (-1))) _ _ s
  rw [back_places]
  exact wpAny_pure k
theorem item_back {t sl : Addr} {items : Array Value} {vl vu vs : Value} {Q : Value → Shared → Prop} (ht : IsTup s.heap t items) (hs : s.heap.IsSliceOf sl vl vu vs) (pl : IsPart vl none) (pu : IsPart vu none) (ps : IsPart vs (some (-1)))
    (k : Q (.ref s.heap.objs.size) { s with heap := s.heap.push { cls := .type "tuple", data := .seq items.toList.reverse.toArray } })
    (hsz : items.size ≤ sizeLine) : wpAny (model prog w) A (getItem (.ref t) (.ref sl)) Q E s := by
  have hok : sizeOk (.seq items.toList.reverse.toArray) := by
    show items.toList.reverse.toArray.size ≤ sizeLine
    simpa using hsz
  obtain ⟨os, o1, o2, o3⟩ := id hs
  have hTs : s.TypeIs (.ref sl) "slice" := ⟨os, o1, o2⟩
  unfold getItem
  try with_reducible refine wpAny_holding ?_
  first | refine wpAny_bind (wpAny_pure ?_) | skip
  refine wpAny_bind (wpAny_sequenceKey ht.typeIs (by decide) ?_)
  refine wpAny_bind (wpAny_callSpecial?_slot (name := Str.ofString "__getitem__") ht.typeIs PyProof.Rows.slot_tuple_getitem (wpAny_call_entry PyProof.Rows.slot_tuple_getitem ht.typeIs entry_tuple_getitem ?_ (args_tuple_getitem _ _)))
  show wpAny _ _ (Builtin.Tuple.tupleItemsOf (.ref t) >>= _) _ _ s
  refine wpAny_bind (tupleItemsOf_ ht (wpAny_bind (wpAny_typeOf hTs ?_)))
  rw [if_pos (by decide)]
  refine wpAny_bind (applied_back hs pl pu ps ?_)
  show wpAny _ _ (if (((items.size : Int) - 1) == 0 && (-1 : Int) == 1 && items.size == items.size) = true then _ else _) _ _ s
  rw [if_neg (by simp), back_pick]
  first
    | exact wpAny_bind (m := Builtin.Tuple.tupleExact _) (wpAny_newObj_type (wpAny_pure ⟨_, rfl, wpAny_pure k⟩) hok)
    | exact wpAny_bind (wpAny_bind (m := Builtin.Tuple.tupleExact _) (wpAny_newObj_type (wpAny_pure (wpAny_pure ⟨_, rfl, wpAny_pure k⟩)) hok))
    | exact wpAny_bind (wpAny_bind (m := Builtin.Tuple.tupleExact _) (wpAny_newObj_type (wpAny_pure ⟨_, rfl, wpAny_pure k⟩) hok))
    | exact wpAny_bind (m := Builtin.Tuple.tupleExact _) (wpAny_newObj_type (wpAny_bind (wpAny_pure (wpAny_pure ⟨_, rfl, wpAny_pure k⟩))) hok)
end
section
variable {X : Cx}
/-- t[::-1] of a tuple -/
def tBackT (K : PySem.W.Frag) (te : TE) : TE := fun σ H Q => te σ H fun x H1 => ∃ a xs, x = .ref a ∧ SqT K H1 a xs ∧ ∀ p, H1 p = none → Q (.ref p) (upd H1 p (.tup xs.reverse))
theorem pe_backT {e : Expr} {te : TE} {k : Nat} {p1 p2 p3 pos : Pos} (he : PE X e te) : PE X (.Subscript e (.Slice none none (some (.UnaryOp .USub (.Constant (.int 1) k p1) p2)) p3) pos) (tBackT X.K te) := by
  refine ⟨fun pins s σ H Q I h => Subscript_ (thn (he.run pins s σ H _ I h) fun v s1 ⟨x, H1, I1, r1, q1⟩ => ?_)⟩
  obtain ⟨a, xs, ex, hx, q⟩ := q1
  subst ex
  cases r1
  have hst : PO X (some (.UnaryOp .USub (.Constant (.int 1) k p1) p2)) (tPart (tUn (rU fun i => .int (-i)) (tC (.int 1)))) := po_some (pe_un un_neg pe_int)
  refine wpAny_Slice (thn (po_none.run pins s1 σ H1 (fun o H2 => o = none ∧ H2 = H1) I1 ⟨rfl, rfl⟩) fun vl s2 ⟨l, H2, I2, pl, el, e2⟩ => ?_)
  subst el e2
  refine thn (po_none.run pins s2 σ H2 (fun o H3 => o = none ∧ H3 = H2) I2 ⟨rfl, rfl⟩) fun vu s3 ⟨u, H3, I3, pu, eu, e3⟩ => ?_
  subst eu e3
  refine thn (hst.run pins s3 σ H3 (fun o H4 => o = some (-1) ∧ H4 = H3) I3 ⟨1, rfl, -1, rfl, rfl, rfl⟩) fun vs s4 ⟨o, H4, I4, ps, eo, e4⟩ => ?_
  subst eo e4
  have I5 : Inv X pins σ H4 { s4 with heap := s4.heap.push { cls := .type "slice", data := .fields #[vl, vu, vs] } } := I4.kept (t' := s4.toks) fun b ob q => Heap.get?_push_of_some _ q
  obtain ⟨its, r, ht, hz⟩ := I5.tuple hx
  have hlen := r.length
  show wpAny (model X.prog X.w) X.A (subscriptTail e _ (.ref a) (.ref s4.heap.objs.size)) (EP X pins σ Q) X.xe { s4 with heap := s4.heap.push { cls := .type "slice", data := .fields #[vl, vu, vs] } }
  refine tail_any (ops := [.ref a, .ref s4.heap.objs.size]) ht.typeIs (PyProof.Rows.slot_tuple_getitem.lookup) ?_ (by with_unfolding_all rfl)
  refine item_back ht (Heap.IsSliceOf.new _ vl vu vs) pl pu ps ?_ (by rw [List.size_toArray]; omega)
  refine ⟨.ref _, _, I5.laid (t' := s4.toks) (o := .tup xs.reverse) (fun b ob q => Heap.get?_push_of_some _ q) (Nat.le_refl _) ?_, rfl, q _ (I5.hok.fresh (Nat.le_refl _))⟩
  exact ⟨by rw [List.length_reverse]; exact hz, its.reverse, r.reverse, IsTup.new _ _⟩
end
end RV
set_option maxHeartbeats 4000000
namespace RV
open PySem PySem.Spec PyProof.Rows L2
/-- as the layer's promise of a def, where no repr runs around -/
structure FnG (P : Program) (w : World) (K : PySem.W.Frag) (mg : Str → Option Value) (base : Heap) (CX : CXT) (k : Nat) (f : Addr) (fd : FuncData) (ps : List Str) (sp : Sp) : Prop where
  many : ∀ vs H Q E, sp vs H Q E → vs.length = ps.length
  goes : ∀ (A : Around) (outer : List Env) (s : Shared) (H : Hp) (args : Args) (us : List Value) (vs : List V) (Q : VK) (E : XK), A.guards = some [] → Room k A → Env0 P w K mg base A outer s H →
    BindsTo s fd args (ps.zip us) → Vals vs us → sp vs H Q E → codeAny (model P w) A (.call (.ref f) args) (CR CX outer P w H s Q E) s
section
variable {P : Program} {w : World} {K : PySem.W.Frag} {mg : Str → Option Value} {base : Heap} {CX : CXT} {k : Nat} {f : Addr} {fd : FuncData} {N ps : List Str} {sp : Sp} {x qual : Str} {st : Stmt}
theorem okG (F : Fun K x qual st f fd) (S : FnScope N ps (defScope st)) (len : ∀ vs H Q E, sp vs H Q E → vs.length = ps.length)
    (body : ∀ (cdv : Value) (A : Around) (outer : List Env) (s : Shared) (H : Hp) (vs : List V) (Q : VK) (E : XK), A.guards = some [] → Room k (A.deeper (envOfC qual (defScope st) s.heap.objs.size f cdv)) → sp vs H Q E →
      ∃ t, PSs (cxOf CX0 P w K mg base N qual (defScope st) f cdv A outer s H E).nox (defBody st) t ∧ t { nx := fun _ H' => Q .non H', rt := Q } (start N vs) H) : FnG P w K mg base CX0 (k + 1) f fd ps sp := by
  obtain ⟨oc, od, kV, doc, pm, an, cdv, ct, osl, rfl, lk, hcd⟩ := F.ex
  refine ⟨len, fun A outer s H args us vs Q E gd hr e0 hb r hsp => ?_⟩
  have KX : K.In s.heap := e0.mod.kin.keeps fun b o z => (e0.bs b o z).1
  have lim : s.heap.NoLimit := e0.mod.nolimit.keeps fun b o z => (e0.bs b o z).1
  have kinds : ∀ y ∈ ps.zip us, (defScope st).names.lookup y.1 = some .local ∨ ((defScope st).names.lookup y.1 = some .cell ∧ ((cellsFrom (s.heap.objs.size + 1) (defScope st).names []).lookup y.1).isSome = true) := by
    rintro ⟨n, v⟩ hy
    exact (S.par n (List.of_mem_zip hy).1).imp id fun q => ⟨q, PySem.W.cellsFrom_some _ _ _ (.inl q)⟩
  refine codeAny_call_function hr.depth (KX _ _ lk) rfl S.co S.gen rfl (PySem.W.codeRec_of KX hcd) (hb _ _ _ _ (wpAny_newFunctionEnv_cells S.kind kinds fun env he s1 z => ?_))
  subst he
  refine ⟨lim.keeps z.toInCall.keep, codeAny_func ?_⟩
  obtain ⟨t, ht, hq⟩ := body cdv A outer s H vs Q E gd (hr.deeper _) hsp
  have I : Inv (cxOf CX0 P w K mg base N qual (defScope st) f cdv A outer s H E) [] (start N vs) H s1 := inv_start S hr.hd e0 (len _ _ _ _ hsp) r z
  refine wpAny_mono (ht.nox.run [] s1 (start N vs) H _ I hq) (fun fl s' hs => ?_) fun e s' hs => hs
  cases fl with
  | ret u =>
    obtain ⟨v, σ', H', J, rv, q⟩ := hs
    exact ⟨v, H', J.os, J.bare, J.base, J.hok, rv, q⟩
  | next =>
    obtain ⟨σ', H', J, q⟩ := hs
    exact ⟨V.non, H', J.os, J.bare, J.base, J.hok, rfl, q⟩
  | brk => exact hs.elim fun _ z => z.elim fun _ y => False.elim y.2
  | cont => exact hs.elim fun _ z => z.elim fun _ y => False.elim y.2
end
section
variable {X : Cx} {CX : CXT} {k : Nat} {f : Addr} {fd : FuncData} {ps : List Str} {sp : Sp} {dvs : List V} {ds : List Value} {E : XK} {x : Str} {p pos : Pos} {e : Expr} {es : List Expr} {t : TA}
/-- f(e, ..) of such a def -/
theorem pe_callG (F : FnG X.prog X.w X.K X.mg X.base CX k f fd ps sp) (gd : X.A.guards = some []) (hr : Room k X.A) (hg : Gl X x) (hm : X.mg x = some (.ref f)) (hk : PySem.W.keepIn X.K (.ref f) = true) (hb : Binds X.K fd ps ds) (hd : Vals dvs ds) (hx : Passes CX X E)
    (ha : PA X (e :: es) t) (hdb : (x == ("__debug__" : Str)) = false := by decide) (he : starEach (e :: es) X.env = (false, eval e X.env) :: starEach es X.env := by rfl) (hpl : (backTo pos (starEach es X.env)).any (·.1) = false := by rfl) :
    PE X (.Call (.Name x p) (e :: es) [] pos) (tCall sp dvs E t) := by
  refine ⟨fun pins s σ H Q I h => wpAny_Call_Name_kw (ld_glob I hg hm ?_ hdb)⟩
  refine PySem.W.callWith_K (h₀ := X.base) I.ok.mod.kin hk (thn (ha.run pos pins s σ H _ I h) fun us s1 ⟨vs, H1, I1, r, q⟩ => ⟨I1.kIn, ?_⟩) he hpl
  have r2 : Vals (vs ++ dvs) (us ++ ds) := r.append hd
  have hl : (us ++ ds).length = ps.length := r2.length ▸ F.many _ _ _ _ q
  refine wpAny_call (codeAny_mono (F.goes X.A X.stack s1 H1 ⟨us, []⟩ (us ++ ds) (vs ++ dvs) Q E gd hr I1.env0 (hb s1 us I1.kIn hl) r2 q) fun rr s' hq => ?_)
  cases rr with
  | error ee => exact hx pins σ H1 s1 ee s' I1 hq
  | ok fl => cases fl <;> first | exact I1.after hq | exact False.elim hq
/-- repr(x), x an object read as data -/
theorem call_reprD (gd : X.A.guards = some []) (hu : X.A.units + 65 < cLine) : CallR X (.builtin "repr") (fun xs H Q => ∃ (a : Addr) (d : PyData), xs = [.ref a] ∧ Dp X.K H (.ref a) d ∧ d.showable = true ∧ d.hasDict = false ∧ d.depth ≤ 64 ∧ d.shown.length ≤ sizeLine ∧ Q (.str d.shown) H) := by
  intro pins s σ H xs us Q I r h
  obtain ⟨a, d, rfl, hd, h1, h2, h3, h4, q⟩ := h
  obtain ⟨u, rfl, ru⟩ := vals1 r
  cases ru
  obtain ⟨as, rd⟩ := Dp.reads I d (.ref a) (.ref a) hd rfl
  refine repr_of_reads' rd h1 (fun z => by rw [h2] at z; cases z) gd (by omega) (fun _ _ z => z) (fun h' uu tk k => ?_) h4
  exact ⟨.str d.shown, H, I.kept k, ⟨uu, rfl⟩, q⟩
end
section
/-- the law's call, from such a promise -/
theorem law_callG {P : Program} {w : World} {K : PySem.W.Frag} {mg mb : Str → Option Value} {k : Nat} {fa a : Addr} {fd : FuncData} {x : Str} {sp : Sp} {st : Shared} {vs : List Value} {ns : List Int}
    (KX : K.In st.heap) (n1 : st.heap.Ns mainGlobals mg) (n2 : st.heap.Ns builtinsNs mb) (n3 : ∀ x : Str, x ≠ "__name__" → mb x = bootBuiltins x) (n4 : st.heap.NoLimit) (n5 : st.gens = #[])
    (ha : st.heap.get? a = some { cls := .type "list", data := .seq vs.toArray }) (hi : IntsAre vs ns) (hl : ns.length ≤ sizeLine) (hr : Room k callerA)
    (F : ∀ base : Heap, K.In base → base.Ns mainGlobals mg → FnG P w K mg base CX0 k fa fd [x] sp) (bnd : ∀ (s : Shared) (u : Value), BindsTo s fd ⟨[u], []⟩ [(x, u)])
    (hsp : ∀ H : Hp, Only H → SqL K H a (ns.map V.int) → sp [.ref a] H (fun v _ => v = .bl true) fun _ _ _ => False) :
    codeAny (model P w) callerA (.call (.ref fa) ⟨[.ref a], []⟩) (fun r s' => r = .ok (.ret (.bool true)) ∧ OldK st.heap s'.heap ∧ s'.os = st.os ∧ AllBare s'.gens) st := by
  have rv := vals_ints hi
  have lv := hi.length
  have key : ∀ H : Hp, Only H → SqL K H a (ns.map V.int) → HOk P w H st.heap → (∀ b, H b ≠ none → b = a) → (H a ≠ none → K.lookup a = none) →
      codeAny (model P w) callerA (.call (.ref fa) ⟨[.ref a], []⟩) (fun r s' => r = .ok (.ret (.bool true)) ∧ OldK st.heap s'.heap ∧ s'.os = st.os ∧ AllBare s'.gens) st := by
    intro H hO hS hok hA hK
    have noA : ∀ {b : Addr} {o : Obj} {es : Array DictEntry} {ep : Nat}, st.heap.get? b = some o → o.data = .dict es ep → H b = none := by
      intro b o es ep e d
      cases q : H b with
      | none => rfl
      | some u =>
        obtain rfl : b = a := hA b (by rw [q]; simp)
        rw [ha] at e
        cases e
        cases (show Data.seq vs.toArray _ = Data.dict es ep from d)
    have nsK : ∀ {b : Addr} {m : Str → Option Value}, st.heap.Ns b m → (hidT st.heap H).Ns b m := fun {b m} ⟨o, es, ep, e, d, r⟩ => ⟨o, es, ep, hidT_get e (noA e d), d, r⟩
    have kb : K.In (hidT st.heap H) := fun b o e => hidT_get (KX b o e) (by
      cases q : H b with
      | none => rfl
      | some u =>
        obtain rfl : b = a := hA b (by rw [q]; simp)
        rw [hK (by rw [q]; simp)] at e
        cases e)
    obtain ⟨mc, l1, l2⟩ := n4
    have e0 : Env0 P w K mg (hidT st.heap H) callerA [] st H :=
      ⟨rfl, ⟨kb, nsK n1, ⟨mb, nsK n2, n3⟩, ⟨mc, nsK l1, l2⟩⟩, fun b o e => of_hidT e, Nat.le_of_eq (hidT_size _ _), trivial, fun b hb => absurd (show b ∈ ([] : List Addr) from hb) (by simp), hok, .of_eq n5⟩
    refine codeAny_mono ((F _ kb (nsK n1)).goes callerA [] st H ⟨[.ref a], []⟩ [.ref a] [.ref a] _ _ rfl hr e0 (bnd st (.ref a)) (.cons rfl .nil) (hsp H hO hS)) fun r s' h => ?_
    cases r with
    | error e => exact False.elim h
    | ok fl =>
      cases fl with
      | next => exact False.elim h
      | brk => exact False.elim h
      | cont => exact False.elim h
      | ret u =>
        obtain ⟨v, H', os, bare, un, hok', r', q⟩ := h
        obtain rfl : v = .bl true := q
        obtain rfl : u = Value.bool true := r'
        refine ⟨rfl, OldK.of_keep fun b o e => ?_, os, bare⟩
        rcases hO b with z | ⟨ob, xs, z⟩
        · exact un.keep b o e z (fun y => absurd (show b ∈ ([] : List Addr) from y) (by simp)) (by simp)
        · have z2 := un.frzs b ob _ z
          obtain ⟨e1, _⟩ := hok b _ z
          obtain ⟨e2, _⟩ := hok' b _ z2
          rw [e] at e1
          cases e1
          exact e2
  cases hk : K.lookup a with
  | some o =>
    have e := KX a o hk
    rw [ha] at e
    cases e
    exact key (fun _ => none) (fun _ => .inl rfl) (.inr ⟨_, vs.toArray, _, hk, rfl, rfl, rfl, by rw [List.size_toArray, lv]; exact hl, by simpa using rv⟩)
      (fun b u z => by cases (show (none : Option HO) = some u from z)) (fun b z => absurd rfl z) fun z => absurd rfl z
  | none =>
    refine key (fun b => if b = a then some (.frz { cls := .type "list", data := .seq vs.toArray } (.lst (ns.map V.int))) else none) (fun b => ?_) (.inl (.inr ⟨{ cls := .type "list", data := .seq vs.toArray }, if_pos rfl⟩)) (fun b u z => ?_) (fun b z => ?_) fun _ => hk
    · by_cases hb : b = a
      · exact .inr ⟨_, _, if_pos hb⟩
      · exact .inl (if_neg hb)
    · by_cases hb : b = a
      · cases (if_pos hb).symm.trans z
        subst hb
        exact ⟨ha, by rw [List.length_map]; exact hl, vs, _, rv, ha⟩
      · cases (if_neg hb).symm.trans z
    · exact Classical.byContradiction fun hb => z (if_neg hb)
theorem walk_G {l : PySem.W.OpenLaw} {n k : Nat} {q : Program} {loose : List Str} {XP : (Str → Option Value) → Heap → Prop} {YP : World → Heap → Prop} {d : DefRec} {K : Params → PySem.W.Frag} {sp : World → Sp} {x : Str}
    (hn : l.most = some n) (hn2 : n ≤ sizeLine) (hdf : d.params.defaults = []) (hr : Room k callerA) (hY : ∀ (w : World) (h : Heap), YP w h → (K w.params).In h)
    (F : ∀ (w : World) (mg : Str → Option Value) (fa : Addr) (h : Heap), (K w.params).In h → h.Ns mainGlobals mg → mg d.name = some (.ref fa) →
      ∃ fd : FuncData, (∀ (s : Shared) (u : Value), BindsTo s fd ⟨[u], []⟩ [(x, u)]) ∧ ∀ base : Heap, (K w.params).In base → base.Ns mainGlobals mg → FnG l.prog w (K w.params) mg base CX0 k fa fd [x] (sp w))
    (hsp : ∀ (w : World) (H : Hp) (a : Addr) (ns : List Int), ns.length ≤ n → Only H → SqL (K w.params) H a (ns.map V.int) → sp w [.ref a] H (fun v _ => v = .bl true) fun _ _ _ => False) :
    PySem.W.WalkO q loose XP YP l.row.toRowW d [] (fun f vs => PySem.call f vs) := by
  refine Att.attach_call hn hdf fun w s₀ st mg mb fa o pm cd doc a vs ns G Y ho hd hcd hmg hobj hints hlen hg => ?_
  obtain ⟨fd, hb, hF⟩ := F w mg fa _ (hY w _ Y) G.T.g hmg
  exact law_callG (hY w _ Y) G.T.g G.T.b G.T.builtins G.T.nolimit hg hobj hints (Nat.le_trans hlen hn2) hr hF hb fun H hO hS => hsp w H a ns hlen hO hS
end
end RV
set_option maxHeartbeats 4000000
namespace RV
open PySem PySem.Spec PyProof.Rows L2 PySem.W
section
variable {prog : Program} {w : World} {A : Around} {E : Value → Shared → Prop} {s : Shared} {K : Frag} {x C L f : Addr} {h₀ : Heap} {m : Str → Option Value} {ox : Obj} {od : Option Obj} {b tb : Value}
theorem ne_bound {Q : Option Value → Shared → Prop} (X : K.In s.heap) (I : InstAt s.heap x ox C od) (hs : findIn K (.ref C) "__ne__" = some (some (.builtin "object.__ne__")))
    (h : wpAny (model prog w) A (call (.builtin "object.__ne__") [.ref x, b]) (fun v => Q (some v)) E s) : wpAny (model prog w) A (callSpecialIfBound? (.ref x) "__ne__" [b]) Q E s := by
  simp only [callSpecialIfBound?, bindSpecialIfBound?]
  refine wpAny_holding (wpAny_bind (wpAny_bind (wpAny_bind (I.type.here ((looks_findIn X hs).here ?_)))))
  refine wpAny_bind (wpAny_askSetting (wpAny_ite ?_))
  have fin : wpAny (model prog w) A (call (.builtin "object.__ne__") ([.ref x] ++ [b]) >>= fun v => pure (some v)) Q E s :=
    wpAny_bind (wpAny_mono h (fun v s' z => wpAny_pure z) fun _ _ z => z)
  split
  · rw [F.cmp_object.ne.bind]
    exact wpAny_bind (wpAny_pure (wpAny_pure fin))
  · rw [F.cmp_object.ne.bind]
    exact wpAny_tryCatch (wpAny_bind (wpAny_pure (wpAny_pure fin)))
theorem obj_ne {Q : Fin → Shared → Prop} (X : K.In s.heap) (hu : A.units < cLine) (I : InstAt s.heap x ox C od) (hs : findIn K (.ref C) "__eq__" = some (some (.ref f))) (hf : isFn K (.ref f) = true)
    (h : wpAny (model prog w) A (call (.ref f) [.ref x, b]) (fun v s' => ∃ c, v = .bool c ∧ Q (.done (.ret (.bool (!c)))) s') E s) :
    wpAny (model prog w) A (Builtin.«object.__ne__» ⟨[.ref x, b], []⟩) Q E s := by
  unfold Builtin.«object.__ne__»
  repeat (first
    | with_reducible refine wpAny_cRoomFor hu ?_
    | (refine wpAny_bind (m := callSpecialIfBound? (.ref x) (Str.ofString "__eq__") [b])
        (ifBound_K X I hs hf (wpAny_mono h (fun r s' hr => by
          obtain ⟨c, rfl, hq⟩ := hr
          repeat (first | exact hq | exact wpAny_pure hq | exact wpAny_truthy_bool hq | (refine wpAny_bind (m := truthy (.bool _)) (wpAny_truthy_bool ?_)) | wp_step)) fun _ _ z => z)))
    | wp_step)
theorem cmp_ne {Q : Value → Shared → Prop} (hu : A.units + 1 < cLine) (F0 : Fr h₀ L s.heap m) (X₀ : K.In h₀) (I : InstAt s.heap x ox C od) (hb : Looks (model prog w) s.heap (typeOf b) (.ref C))
    (hn : findIn K (.ref C) "__ne__" = some (some (.builtin "object.__ne__"))) (hm : mroIn K C (.type "object") = some true)
    (hs : findIn K (.ref C) "__eq__" = some (some (.ref f))) (hf : isFn K (.ref f) = true)
    (h : wpAny (model prog w) A.in1 (call (.ref f) [.ref x, b]) (fun v s' => ∃ c, v = .bool c ∧ Q (.bool (!c)) s') E s) : wpAny (model prog w) A (richCompare .NotEq (.ref x) b) Q E s := by
  have X := X₀.keeps F0.keep
  have one : wpAny (model prog w) A (tryCompare (.ref x) "__ne__" b) (fun r s' => ∃ v, r = some v ∧ Q v s') E s := by
    unfold tryCompare
    refine wpAny_bind (ne_bound X I hn (wpAny_call (codeAny_call_builtin F.cmp_object.ne.plain F.cmpEntry_ne ?_)))
    refine check_slot F.cmpKind_ne F.cmpSplit_ne ?_ (F.cmpArgs_ne _ _) ?_
    · exact I.type.andThen (looks_mroIn X hm)
    · refine obj_ne (A := A.in1) X hu I hs hf (wpAny_mono h (fun v s' hv => ?_) fun _ _ z => z)
      obtain ⟨c, rfl, hq⟩ := hv
      exact ⟨c, rfl, wpAny_pure ⟨_, rfl, hq⟩⟩
  unfold richCompare
  simp only [oneThing_ref]
  refine wpAny_holding (wpAny_bind (wpAny_cRoomFor (Nat.lt_of_succ_lt hu) ?_))
  rw [cmpInfo_NotEq]
  dsimp only
  refine wpAny_bind (I.type.here (wpAny_bind (hb.here ?_)))
  rw [show (Value.ref C != Value.ref C) = false from by simp]
  simp only [Bool.false_eq_true, if_false]
  refine wpAny_bind (wpAny_pure ?_)
  simp only [Bool.false_eq_true, if_false]
  refine wpAny_bind (wpAny_mono one (fun r s' z => ?_) fun _ _ z => z)
  obtain ⟨v, rfl, hq⟩ := z
  exact wpAny_pure hq
end
section
variable {X : Cx} {CX : CXT} {n : Nat} {C f : Addr} {fd : FuncData} {ps : List Str} {sp : Sp} {E : XK}
/-- x != y, instances of the class at C, by the text's own == -/
def rNeI (C : Addr) (sp : Sp) (E : XK) : R2 := fun x y H Q => ∃ a b dx dy fs gs, x = .ref a ∧ y = .ref b ∧ H a = some (.ins C dx fs) ∧ H b = some (.ins C dy gs) ∧ sp [.ref a, .ref b] H (fun v H' => ∃ c, v = .bl c ∧ Q (.bl (!c)) H') E
def rEqI (C : Addr) (sp : Sp) (E : XK) : R2 := fun x y H Q => ∃ a b dx dy fs gs, x = .ref a ∧ y = .ref b ∧ H a = some (.ins C dx fs) ∧ H b = some (.ins C dy gs) ∧ sp [.ref a, .ref b] H (fun v H' => ∃ c, v = .bl c ∧ Q (.bl c) H') E
theorem op_neI (G : FnOk X.prog X.w X.K X.mg X.base CX n f fd ps sp) (hr : Room (n + 1) X.A) (hn : findIn X.K (.ref C) "__ne__" = some (some (.builtin "object.__ne__"))) (hm : mroIn X.K C (.type "object") = some true)
    (hs : findIn X.K (.ref C) "__eq__" = some (some (.ref f))) (hf : isFn X.K (.ref f) = true) (hb : Binds X.K fd ps []) (hx : Passes CX X E) : OpR X (compareOp .NotEq) (rNeI C sp E) := by
  intro pins s σ H x y v u Q I rx ry hq
  obtain ⟨a, b, dx, dy, fs, gs, rfl, rfl, ha, hb', q⟩ := hq
  cases rx
  cases ry
  obtain ⟨mA, J, _⟩ := ins_get I.hok ha
  obtain ⟨mB, J', _⟩ := ins_get I.hok hb'
  obtain ⟨od, J, _⟩ := J.look
  obtain ⟨od', J', _⟩ := J'.look
  obtain ⟨m, hF⟩ := I.fr
  show wpAny (model X.prog X.w) X.A (richCompare .NotEq (.ref a) (.ref b)) (EP X pins σ Q) X.xe s
  refine cmp_ne (by have := hr.un; omega) hF I.ok.mod.kin J J'.type hn hm hs hf ?_
  have hl := G.len _ _ _ _ q
  have r2 : Vals [V.ref a, V.ref b] [Value.ref a, Value.ref b] := .cons rfl (.cons rfl .nil)
  refine wpAny_call (codeAny_mono (G.run X.A.in1 X.stack s H ⟨[.ref a, .ref b], []⟩ [.ref a, .ref b] [.ref a, .ref b] _ E hr.in1 I.env0.in1 (by simpa using hb s [.ref a, .ref b] I.kIn (by simpa using hl)) r2 q) fun r s' hq => ?_)
  cases r with
  | error e => exact hx pins σ H s e s' I hq
  | ok fl =>
    cases fl with
    | ret w =>
      obtain ⟨z, H', I', rz, c, ez, ex⟩ := I.after hq
      subst ez
      cases rz
      exact ⟨c, rfl, .bl (!c), H', I', rfl, ex⟩
    | next => exact False.elim hq
    | brk => exact False.elim hq
    | cont => exact False.elim hq
theorem op_eqI (G : FnOk X.prog X.w X.K X.mg X.base CX n f fd ps sp) (hr : Room n X.A)
    (hs : findIn X.K (.ref C) "__eq__" = some (some (.ref f))) (hf : isFn X.K (.ref f) = true) (hb : Binds X.K fd ps []) (hx : Passes CX X E) : OpR X (compareOp .Eq) (rEqI C sp E) := by
  intro pins s σ H x y v u Q I rx ry hq
  obtain ⟨a, b, dx, dy, fs, gs, rfl, rfl, ha, hb', q⟩ := hq
  cases rx
  cases ry
  obtain ⟨mA, J, _⟩ := ins_get I.hok ha
  obtain ⟨mB, J', _⟩ := ins_get I.hok hb'
  obtain ⟨od, J, _⟩ := J.look
  obtain ⟨od', J', _⟩ := J'.look
  obtain ⟨m, hF⟩ := I.fr
  show wpAny (model X.prog X.w) X.A (richCompare .Eq (.ref a) (.ref b)) (EP X pins σ Q) X.xe s
  refine PySem.W.cmp_K (op := .Eq) (tb := .ref C) hr.units0 hF I.ok.mod.kin J J'.type (by simp [PySem.W.notFirst]) hs hf ?_
  have hl := G.len _ _ _ _ q
  have r2 : Vals [V.ref a, V.ref b] [Value.ref a, Value.ref b] := .cons rfl (.cons rfl .nil)
  refine wpAny_call (codeAny_mono (G.run X.A X.stack s H ⟨[.ref a, .ref b], []⟩ [.ref a, .ref b] [.ref a, .ref b] _ E hr I.env0 (by simpa using hb s [.ref a, .ref b] I.kIn (by simpa using hl)) r2 q) fun r s' hq => ?_)
  cases r with
  | error e => exact hx pins σ H s e s' I hq
  | ok fl =>
    cases fl with
    | ret w =>
      obtain ⟨z, H', I', rz, c, ez, ex⟩ := I.after hq
      subst ez
      cases rz
      exact ⟨.bl c, H', I', rfl, ex⟩
    | next => exact False.elim hq
    | brk => exact False.elim hq
    | cont => exact False.elim hq
end
end RV
set_option maxHeartbeats 4000000
/-! set(xs) of tuples of ints, xs of any length, where few of them are unlike -/
namespace RV
open PySem PySem.Spec PyProof.Rows L2
/-- fewer than 63 unlike ones -/
def FewUnlike (ks : List (Addr × List Int)) : Prop := ∀ L : List (Addr × List Int), (L.map (·.2)).Nodup → (∀ p ∈ L, p ∈ ks) → L.length + 1 < 64
abbrev noneYet (w : World) : Obj := { cls := .type "set", dict := none, data := .set #[] 0 (.fresh 0 0 (!w.params.followText "set-order")) }
section
variable {P : Program} {w : World} {A : Around} {E : Value → Shared → Prop} {s : Shared}
theorem setN_loop {R : Result → Shared → Prop} (hh : A.in1.handled = none) (S l it : Addr) (hSl : S ≠ l) (hSi : S ≠ it) (hli : l ≠ it) (items : Array Value) (ks : List (Addr × List Int)) (few : FewUnlike ks)
    (refs : ∀ (i : Nat) (p : Addr × List Int), ks[i]? = some p → items[i]? = some (Value.ref p.1)) (size : items.size = ks.length) (old : Heap) (tups : ∀ p ∈ ks, IsT P w old p.2 p.1) (o1 : old.get? S = none) (o2 : old.get? it = none) (hu : A.in1.units < cLine) :
    ∀ (k i : Nat) (s : Shared), ks.length - i = k → i ≤ ks.length → s.heap.IsListIter it l i → s.heap.IsList l items → (∀ b o, old.get? b = some o → s.heap.get? b = some o) → (∃ L es ep t, SetTR P w s.heap S L es ep t ∧ Got ks i L) →
      (∀ h' tk L es ep t, SetTR P w h' S L es ep t → Got ks ks.length L → (∀ b o, old.get? b = some o → h'.get? b = some o) → R (.ok (.ret .none)) { s with heap := h', toks := tk }) →
      codeAny (model P w) A (.builtin "set.update.loop" ⟨[.ref S, .ref it], []⟩) R s
  | 0, i, s, hk, hi, hit, hl, keep, ⟨L, es, ep, t, hS, got⟩, fin => by
    obtain rfl : i = ks.length := by omega
    refine codeAny_builtin F.entry_set_update_loop ?_
    rw [Around.under_plainId F.plain_set_update_loop _]
    show wpAny _ A.in1 (pyNext (.ref it) >>= _) _ _ s
    refine wpAny_bind (wpAny_pyNext_list_end hh hit hl (by simp [size]) fun h' ext => ?_)
    have keep' : ∀ b o, old.get? b = some o → h'.get? b = some o := fun b o e => ext b o (fun z => by rw [z, o2] at e; cases e) (keep b o e)
    exact wpAny_pure (fin h' s.toks L es ep t (hS.keep (fun o e => ext S o hSi e) fun p hp => isT_keep (tups p (List.mem_of_mem_take (got.sub p hp))) keep') got keep')
  | k + 1, i, s, hk, hi, hit, hl, keep, ⟨L, es, ep, t, hS, got⟩, fin => by
    obtain ⟨p, hp⟩ : ∃ p, ks[i]? = some p := ⟨_, List.getElem?_eq_getElem (by omega)⟩
    refine codeAny_builtin F.entry_set_update_loop ?_
    rw [Around.under_plainId F.plain_set_update_loop _]
    show wpAny _ A.in1 (pyNext (.ref it) >>= _) _ _ s
    refine wpAny_bind (wpAny_pyNext_list_item hit hl (refs i p hp) fun h1 hit1 sb1 => ?_)
    have keep1 : ∀ b o, old.get? b = some o → h1.get? b = some o := fun b o e => (sb1.2 b fun z => by rw [z, o2] at e; cases e).trans (keep b o e)
    have inKs : ∀ q ∈ L, q ∈ ks := fun q hq => List.mem_of_mem_take (got.sub q hq)
    have hS1 : SetTR P w h1 S L es ep t := hS.keep (fun o e => (sb1.2 S hSi).trans e) fun q hq => isT_keep (tups q (inKs q hq)) keep1
    have hT : IsT P w h1 p.2 p.1 := isT_keep (tups p (List.mem_of_getElem? hp)) keep1
    show wpAny _ A.in1 (holding [Value.ref p.1] (setAdd S (.ref p.1)) >>= _) _ _ _
    refine wpAny_bind (wpAny_holding ?_)
    unfold setAdd
    refine wpAny_holding (wpAny_bind (wpAny_pyHash_tuple hu hT ?_))
    refine add_at (s := { s with heap := h1, toks := s.toks + (p.2.length + 1) }) hS1 hT hu (few L hS1.nd inKs) fun b h2 L2 es2 ep2 t2 sb2 hS2 yes no => ?_
    have got2 : Got ks (i + 1) L2 := by
      by_cases c : p.2 ∈ L.map (·.2)
      · rw [yes c]; exact got.same hp c
      · exact got.more hp (no c)
    have keep2 : ∀ b o, old.get? b = some o → h2.get? b = some o := fun b o e => (sb2.2 b fun z => by rw [z, o1] at e; cases e).trans (keep1 b o e)
    refine wpAny_pure ⟨plainId_quiet F.plain_set_update_loop _, setN_loop hh S l it hSl hSi hli items ks few refs size old tups o1 o2 hu k (i + 1) _ (by omega) (by omega)
      (hit1.at fun o e => (sb2.2 it (Ne.symm hSi)).trans e) ((hl.at fun o e => (sb1.2 l hli).trans e).at fun o e => (sb2.2 l (Ne.symm hSl)).trans e) keep2 ⟨L2, es2, ep2, t2, hS2, got2⟩ fun h' tk L' es' ep' t' z1 z2 z3 => ?_⟩
    exact fin h' tk L' es' ep' t' z1 z2 z3
set_option maxHeartbeats 8000000 in
theorem call_setN {l : Addr} {items : Array Value} (ks : List (Addr × List Int)) {Q : Value → Shared → Prop} (hh : A.handled = none) (hl : s.heap.IsList l items) (refs : items.toList = ks.map fun p => Value.ref p.1)
    (tups : ∀ p ∈ ks, IsT P w s.heap p.2 p.1) (few : FewUnlike ks) (hu : A.units + 3 < cLine)
    (k : ∀ (h' : Heap) (tk : Nat) L es ep t, SetTR P w h' s.heap.objs.size L es ep t → Got ks ks.length L → (∀ b o, s.heap.get? b = some o → h'.get? b = some o) → Q (.ref s.heap.objs.size) { s with heap := h', toks := tk }) :
    wpAny (model P w) A (call (.type "set") [.ref l]) Q E s := by
  have size : items.size = ks.length := by simpa using congrArg List.length refs
  have refs' : ∀ (i : Nat) (p : Addr × List Int), ks[i]? = some p → items[i]? = some (Value.ref p.1) := fun i p e => by
    rw [← Array.getElem?_toList, refs, List.getElem?_map, e]; rfl
  obtain ⟨c, tl, hm⟩ := F.called_set.mro
  have a1 := F.called_set.made
  have a2 := F.called_set.sub
  have a3 := F.called_set.notType
  have a4 := F.called_set.canCreate
  have a5 := F.typeCall_set_1 (.ref l)
  refine wpAny_call (codeAny_of_tree ?_)
  show wpAny _ _ (callAny (.type "set") _) _ _ _
  refine wpAny_pure ⟨Code.quiet_builtin _ (by decide +kernel), codeAny_builtin F.entry_type_call ?_⟩
  rw [Around.under_plain (weight_type_call_type "set" [.ref l] []) rfl]
  repeat (any_goals (first | assumption | wp_step))
  refine codeAny_mono (code_set_led1 (.ref l) (E := E) (Q₁ := fun obj s₁ => obj = .ref s.heap.objs.size ∧ s₁ = { s with heap := s.heap.push (noneYet w) }) ⟨rfl, rfl⟩) fun r s₁ hr => ?_
  match r, hr with
  | .error e, hr => exact hr
  | .ok .next, hr => exact hr.elim
  | .ok .brk, hr => exact hr.elim
  | .ok .cont, hr => exact hr.elim
  | .ok (.ret obj), hr =>
    obtain ⟨rfl, rfl⟩ := hr
    have hS : (s.heap.push (noneYet w)).get? s.heap.objs.size = some (noneYet w) := Heap.get?_push_size _ rfl
    have hT : Shared.TypeIs { s with heap := s.heap.push (noneYet w) } (.ref s.heap.objs.size) "set" := ⟨_, hS, rfl⟩
    have b1 := F.called_set.init.lookup
    have b2 := F.called_set.init.bind (.ref s.heap.objs.size)
    repeat (any_goals (first | assumption | wp_step))
    refine codeAny_mono (codeAny_call_builtin (R := wants (fun r s₂ => r = .none ∧ ∃ h' tk L es ep t, s₂ = { s with heap := h', toks := tk } ∧ SetTR P w h' s.heap.objs.size L es ep t ∧ Got ks ks.length L ∧
        (∀ b o, s.heap.get? b = some o → h'.get? b = some o)) E) F.called_set.init.plain F.entry_set_init (check_set_init_1 hT ?_)) fun r₂ s₂ hr₂ => ?_
    · obtain ⟨⟨oc, od, dt, os⟩, g1, g2, nl, g3⟩ := hl
      simp only at g2 g3
      subst g2 g3
      have g4 : (s.heap.push (noneYet w)).get? l = some { cls := .type "list", dict := od, data := .seq items nl, slots := os } := Heap.get?_push_of_some _ g1
      have c1 := F.sub_list_set
      have c2 := F.sub_list_frozenset
      have c3 : (Value.type "list" == Value.type "dict") = false := by decide
      have isl : (s.heap.push (noneYet w)).IsList l items := ⟨_, g4, rfl, nl, rfl⟩
      unfold Builtin.«set.__init__» noKeywords Builtin.Frozenset.updateFrom
      generalize hpi : pyIter = pI
      wp_walk
      subst hpi
      refine wpAny_pyIter_list isl (wpAny_bind (wpAny_runValue ?_))
      have lt : l < s.heap.objs.size := Heap.lt_size g1
      have z1 : (s.heap.push (noneYet w)).objs.size = s.heap.objs.size + 1 := Heap.size_push ..
      have none1 : ∀ b, s.heap.objs.size ≤ b → s.heap.get? b = none := fun b hb => by
        cases q : s.heap.get? b with
        | none => rfl
        | some o => exact absurd (Nat.lt_of_lt_of_le (Heap.lt_size q) hb) (Nat.lt_irrefl _)
      refine setN_loop (A := A.in1.in1) (by simp [hh]) s.heap.objs.size l (s.heap.push (noneYet w)).objs.size (Nat.ne_of_gt lt) (by rw [z1]; exact Nat.ne_of_lt (Nat.lt_succ_self _)) (by rw [z1]; exact Nat.ne_of_lt (Nat.lt_succ_of_lt lt)) items ks few refs' size s.heap tups (none1 _ (Nat.le_refl _)) (none1 _ (by rw [z1]; exact Nat.le_succ _)) hu (ks.length - 0) 0 _ rfl (Nat.zero_le _)
        ⟨_, Heap.get?_push_size _ rfl, rfl, rfl⟩ (isl.push _) (fun b o e => Heap.get?_push_of_some _ (Heap.get?_push_of_some _ e)) ⟨[], #[], 0, _, setTR_fresh (Heap.get?_push_of_some _ hS), Got.zero ks⟩ fun h' tk L es ep t q1 q2 q3 => ?_
      show wpAny _ _ _ _ _ _
      refine wpAny_pure ?_
      show wpAny _ _ (ret Value.none) _ _ _
      exact wpAny_pure ⟨rfl, h', tk, L, es, ep, t, rfl, q1, q2, q3⟩
    · match r₂, hr₂ with
      | .error e, hr₂ => exact hr₂
      | .ok .next, hr₂ => exact hr₂.elim
      | .ok .brk, hr₂ => exact hr₂.elim
      | .ok .cont, hr₂ => exact hr₂.elim
      | .ok (.ret r), hr₂ =>
        obtain ⟨rfl, h', tk, L, es, ep, t, rfl, q1, q2, q3⟩ := hr₂
        repeat (any_goals (first | assumption | wp_step))
        exact k _ _ _ _ _ _ q1 q2 q3
end
section
variable {X : Cx}
def rSetN (K : PySem.W.Frag) (P : Program) (w : World) : List V → Hp → VK → Prop := fun xs H Q => ∃ (l : Addr) (ks : List (Addr × List Int)), xs = [V.ref l] ∧ SqL K H l (ks.map fun p => V.ref p.1) ∧ (∀ p ∈ ks, SqT K H p.1 (p.2.map V.int)) ∧ FewUnlike ks ∧
  ∀ a L, H a = none → (∀ p ∈ L, p ∈ ks) → (∀ p ∈ ks, p.2 ∈ L.map (·.2)) → Q (.ref a) (upd H a (SetTO P w a L))
theorem cr_setN (hc : X.calm = true) (hu : X.A.units + 64 < cLine) : CallR X (.type "set") (rSetN X.K X.prog X.w) := by
  intro pins s σ H xs us Q I r h
  obtain ⟨l, ks, rfl, hl, hk, few, q⟩ := h
  rw [Vals.ref1 r]
  obtain ⟨its, rv, pl, hz⟩ := I.list hl
  refine call_setN ks (I.ok.hd hc) pl.isList (by simpa using refs_of_vals rv) (fun p hp => I.isT (hk p hp)) few (by omega) fun h' tk L es ep t R g kp => ?_
  refine ⟨.ref s.heap.objs.size, upd H s.heap.objs.size (SetTO X.prog X.w s.heap.objs.size L), I.laid (t' := tk) kp (Nat.le_refl _) (setTO_new R.t0), rfl, ?_⟩
  exact q _ L (I.hok.fresh (Nat.le_refl _)) (fun p hp => List.mem_of_mem_take (g.sub p hp)) fun p hp => g.all p (by rw [List.take_length]; exact hp)
end
end RV
set_option maxHeartbeats 4000000
namespace RV
open PySem PySem.Spec PyProof.Rows L2
/-! ### heaps -/
theorem same_upd {H : Hp} {p : Addr} {o : HO} (h : H p = none) : Same H (upd H p o) := fun b x e => by
  rw [upd_ne (ne_of_none e h)]
  exact e
theorem sqT_same {K : PySem.W.Frag} {H H' : Hp} {a : Addr} {xs : List V} (e : Same H H') (h : SqT K H a xs) : SqT K H' a xs := SqT.ext h e
theorem sqL_same {K : PySem.W.Frag} {H H' : Hp} {a : Addr} {xs : List V} (e : Same H H') (h : SqL K H a xs) : SqL K H' a xs := SqL.ext h e
theorem tyT {K : PySem.W.Frag} {H : Hp} {a : Addr} {xs : List V} (h : SqT K H a xs) : TyX K H (.ref a) (.type "tuple") := by
  rcases h with (h | ⟨o, h⟩) | ⟨o, its, n, h1, h2, _⟩
  · exact .base (.tup h)
  · exact .fTuple h
  · exact .kTuple h1 h2
theorem tupNew {K : PySem.W.Frag} {H : Hp} {a : Addr} {xs : List V} (h : H a = some (.tup xs)) : SqT K H a xs := .inl (.inl h)
theorem lstNew {K : PySem.W.Frag} {H : Hp} {a : Addr} {xs : List V} (h : H a = some (.lst xs)) : SqL K H a xs := .inl (.inl h)
theorem walk_enT {K : PySem.W.Frag} {a : Addr} {xs : List V} : Walk (IteT K a) xs.length (fun H => SqT K H a xs) (YPair (fun i => some (.int (i : Nat))) (fun i => xs[i]?)) := by
  refine ⟨fun i _ hi q => ⟨xs, xs[i], q, by simp [hi]⟩, fun _ q => ⟨xs, q, Nat.le_refl _⟩, fun i H v H' _ q y => ?_⟩
  obtain ⟨T, x, h1, h2, h3, h4⟩ := y
  exact ⟨T, .int (i : Nat), x, h1, h2, h3, rfl, h4 xs q⟩
theorem walk_zipT {K : PySem.W.Frag} {a b : Addr} {xs ys : List V} {n : Nat} (hn : n = min xs.length ys.length) : Walk (RZ.ItzT K a b) n (fun H => SqT K H a xs ∧ SqT K H b ys) (YPair (fun i => xs[i]?) (fun i => ys[i]?)) := by
  subst hn
  refine ⟨fun i _ hi q => ⟨xs, ys, xs[i]'(by omega), ys[i]'(by omega), q.1, q.2, List.getElem?_eq_getElem _, List.getElem?_eq_getElem _⟩, fun _ q => ⟨xs, ys, q.1, q.2, by omega⟩, fun i H v H' _ q y => ?_⟩
  obtain ⟨T, x, z, h1, h2, h3, h4, h5⟩ := y
  exact ⟨T, x, z, h1, h2, h3, h4 xs q.1, h5 ys q.2⟩
/-- a tuple of tuples of ints -/
def Tups (K : PySem.W.Frag) (H : Hp) (a : Addr) (ps : List (List Int)) : Prop := ∃ ks : List (Addr × List Int), ks.map (·.2) = ps ∧ SqT K H a (ks.map fun p => V.ref p.1) ∧ ∀ p ∈ ks, SqT K H p.1 (p.2.map V.int)
/-- a list of tuples of ints -/
def Lots (K : PySem.W.Frag) (H : Hp) (a : Addr) (ps : List (List Int)) : Prop := ∃ ks : List (Addr × List Int), ks.map (·.2) = ps ∧ SqL K H a (ks.map fun p => V.ref p.1) ∧ ∀ p ∈ ks, SqT K H p.1 (p.2.map V.int)
theorem Tups.same {K : PySem.W.Frag} {H H' : Hp} {a : Addr} {ps : List (List Int)} (h : Tups K H a ps) (e : Same H H') : Tups K H' a ps :=
  let ⟨ks, h1, h2, h3⟩ := h; ⟨ks, h1, sqT_same e h2, fun p hp => sqT_same e (h3 p hp)⟩
theorem Lots.same {K : PySem.W.Frag} {H H' : Hp} {a : Addr} {ps : List (List Int)} (h : Lots K H a ps) (e : Same H H') : Lots K H' a ps :=
  let ⟨ks, h1, h2, h3⟩ := h; ⟨ks, h1, sqL_same e h2, fun p hp => sqT_same e (h3 p hp)⟩
theorem dpInts {K : PySem.W.Frag} {H : Hp} : ∀ ns : List Int, DpAll K H (ns.map V.int) (ns.map PyData.int)
  | [] => .nil
  | n :: r => .cons (.int n) (dpInts r)
def dI (ns : List Int) : PyData := .tuple (ns.map PyData.int)
def dTT (ps : List (List Int)) : PyData := .tuple (ps.map dI)
theorem dpT {K : PySem.W.Frag} {H : Hp} {a : Addr} {ns : List Int} (h : SqT K H a (ns.map V.int)) : Dp K H (.ref a) (dI ns) := .tup h (dpInts ns)
theorem dpTs {K : PySem.W.Frag} {H : Hp} : ∀ ks : List (Addr × List Int), (∀ p ∈ ks, SqT K H p.1 (p.2.map V.int)) → DpAll K H (ks.map fun p => V.ref p.1) ((ks.map (·.2)).map dI)
  | [], _ => .nil
  | p :: r, h => .cons (dpT (h p (List.mem_cons_self ..))) (dpTs r fun q hq => h q (List.mem_cons_of_mem _ hq))
theorem Tups.dp {K : PySem.W.Frag} {H : Hp} {a : Addr} {ps : List (List Int)} (h : Tups K H a ps) : Dp K H (.ref a) (dTT ps) := by
  obtain ⟨ks, rfl, h2, h3⟩ := h
  exact .tup h2 (dpTs ks h3)
theorem map_at {α β : Type} {f : α → β} {l : List α} {i : Nat} {y : β} (h : (l.map f)[i]? = some y) : ∃ x, l[i]? = some x ∧ y = f x := by
  rw [List.getElem?_map] at h
  cases e : l[i]? with
  | none => rw [e] at h; cases h
  | some x => rw [e] at h; exact ⟨x, rfl, (Option.some.inj h).symm⟩
theorem all_true : ∀ n : Nat, (List.replicate n true).all id = true
  | 0 => rfl
  | n + 1 => by rw [List.replicate_succ, List.all_cons, all_true n]; rfl
theorem rep_bl (n : Nat) : List.replicate n (V.bl true) = (List.replicate n true).map V.bl := by rw [List.map_replicate]
theorem rep_next {α : Type} (n : Nat) (x : α) : List.replicate n x ++ [x] = List.replicate (n + 1) x := by rw [List.replicate_succ', ]
theorem tt_yes {σ : L2.St} {H : Hp} {A B : Hp → Prop} (h : A H) : tYes σ H (fun b H3 => if b = true then A H3 else B H3) := iteT (A := A H) (B := B H) h
theorem un65 {k : Nat} {A : Around} (r : Room k A) : A.units + 65 < cLine := by have := r.un; omega
theorem few1 {n : Nat} (h : n ≤ 1000) : n < sizeLine := small1000 h
/-! ### data of ints, tuples of these -/
theorem lay_ints : ∀ ns : List Int, PyData.canLayAll0 (ns.map PyData.int) = true
  | [] => by simp [PyData.canLayAll0]
  | n :: r => by simp [PyData.canLayAll0, PyData.canLay0, lay_ints r]
theorem dep_ints : ∀ ns : List Int, PyData.depthAll (ns.map PyData.int) = 0
  | [] => by simp [PyData.depthAll]
  | n :: r => by simp [PyData.depthAll, PyData.depth, dep_ints r]
theorem dI_lay (ns : List Int) : (dI ns).canLay0 = true := by simp only [dI, PyData.canLay0]; exact lay_ints ns
theorem dI_dep (ns : List Int) : (dI ns).depth = 1 := by simp only [dI, PyData.depth, dep_ints]
theorem lay_dI : ∀ ps : List (List Int), PyData.canLayAll0 (ps.map dI) = true
  | [] => by simp [PyData.canLayAll0]
  | n :: r => by simp [PyData.canLayAll0, dI_lay, lay_dI r]
theorem dep_dI : ∀ ps : List (List Int), PyData.depthAll (ps.map dI) ≤ 1
  | [] => by simp [PyData.depthAll]
  | n :: r => by
    have h := dep_dI r
    simp only [List.map_cons, PyData.depthAll, dI_dep]
    omega
theorem shapedI (ns : List Int) : SeqAt.shaped (dI ns) = true := by
  show ((dI ns).canLay0 && decide ((dI ns).depth ≤ 64)) = true
  rw [dI_lay, dI_dep]; rfl
theorem shapedTT (ps : List (List Int)) : SeqAt.shaped (dTT ps) = true := by
  have h := dep_dI ps
  have e : (dTT ps).depth ≤ 64 := by simp only [dTT, PyData.depth]; omega
  show ((dTT ps).canLay0 && decide ((dTT ps).depth ≤ 64)) = true
  rw [decide_eq_true e, Bool.and_true]
  simp only [dTT, PyData.canLay0]; exact lay_dI ps
theorem eqv_ints : ∀ ns ms : List Int, PyData.eqvAll (ns.map PyData.int) (ms.map PyData.int) = decide (ns = ms)
  | [], [] => by simp [PyData.eqvAll]
  | [], m :: r => by simp [PyData.eqvAll]
  | n :: r, [] => by simp [PyData.eqvAll]
  | n :: r, m :: q => by
    have h := eqv_ints r q
    simp only [List.map_cons, PyData.eqvAll, PyData.eqv, h]
    by_cases e : n = m
    · subst e; by_cases e2 : r = q <;> simp [e2]
    · simp [e]
theorem eqvI (ns ms : List Int) : PyData.eqv (dI ns) (dI ms) = decide (ns = ms) := by simp only [dI, PyData.eqv, eqv_ints]
theorem eqv_dIs : ∀ ns ms : List (List Int), PyData.eqvAll (ns.map dI) (ms.map dI) = decide (ns = ms)
  | [], [] => by simp [PyData.eqvAll]
  | [], m :: r => by simp [PyData.eqvAll]
  | n :: r, [] => by simp [PyData.eqvAll]
  | n :: r, m :: q => by
    have h := eqv_dIs r q
    simp only [List.map_cons, PyData.eqvAll, eqvI, h]
    by_cases e : n = m
    · subst e; by_cases e2 : r = q <;> simp [e2]
    · simp [e]
theorem eqvTT (ns ms : List (List Int)) : PyData.eqv (dTT ns) (dTT ms) = decide (ns = ms) := by simp only [dTT, PyData.eqv, eqv_dIs]
theorem any_dI (p : List Int) : ∀ ps : List (List Int), (ps.map dI).any (fun y => PyData.eqv y (dI p)) = decide (p ∈ ps)
  | [] => rfl
  | q :: r => by
    rw [List.map_cons, List.any_cons, any_dI p r, eqvI]
    by_cases e : q = p
    · subst e; simp
    · have e' : ¬ p = q := fun z => e z.symm
      by_cases e2 : p ∈ r <;> simp [e, e', e2]
section
variable {X : Cx}
/-- t in ts, of tuples of ints -/
def rInTs (K : PySem.W.Frag) : R2 := fun x y H Q => ∃ (a b : Addr) (p : List Int) (ps : List (List Int)), x = .ref a ∧ y = .ref b ∧ SqT K H a (p.map V.int) ∧ Tups K H b ps ∧ Q (.bl (decide (p ∈ ps))) H
theorem op_inTs (hu : X.A.units + 65 < cLine) : OpR X (compareOp .In) (rInTs X.K) := by
  intro pins s σ H x y v u Q I rx ry h
  obtain ⟨a, b, p, ps, rfl, rfl, h1, h2, q⟩ := h
  obtain ⟨as, r1⟩ := Dp.reads I (dI p) (.ref a) v (dpT h1) rx
  obtain ⟨bs, r2⟩ := Dp.reads I (dTT ps) (.ref b) u h2.dp ry
  refine SeqAt.in_tuple_reads (xs := ps.map dI) r2 r1 (lay_dI ps) (dI_lay p) ?_ ⟨.bl _, H, I, rfl, ?_⟩
  · have := Nat.min_le_right (PyData.depthAll (ps.map dI)) (dI p).depth
    have e := dI_dep p
    omega
  · rw [any_dI]; exact q
/-- two tuples of ints, two tuples of tuples of ints compared -/
def rEqI1 (K : PySem.W.Frag) : R2 := fun x y H Q => ∃ (a b : Addr) (p q : List Int), x = .ref a ∧ y = .ref b ∧ SqT K H a (p.map V.int) ∧ SqT K H b (q.map V.int) ∧ Q (.bl (decide (p = q))) H
def rEqTs (K : PySem.W.Frag) : R2 := fun x y H Q => ∃ (a b : Addr) (p q : List (List Int)), x = .ref a ∧ y = .ref b ∧ Tups K H a p ∧ Tups K H b q ∧ Q (.bl (decide (p = q))) H
theorem op_eqI1 (hu : X.A.units + 64 < cLine) : OpR X (compareOp .Eq) (rEqI1 X.K) := by
  intro pins s σ H x y v u Q I rx ry h
  obtain ⟨a, b, p, ps, rfl, rfl, h1, h2, q⟩ := h
  refine op_eqD hu pins s σ H _ _ v u Q I rx ry ⟨dI p, dI ps, dpT h1, dpT h2, shapedI p, shapedI ps, ?_⟩
  rw [eqvI]; exact q
theorem op_eqTs (hu : X.A.units + 64 < cLine) : OpR X (compareOp .Eq) (rEqTs X.K) := by
  intro pins s σ H x y v u Q I rx ry h
  obtain ⟨a, b, p, ps, rfl, rfl, h1, h2, q⟩ := h
  refine op_eqD hu pins s σ H _ _ v u Q I rx ry ⟨dTT p, dTT ps, h1.dp, h2.dp, shapedTT p, shapedTT ps, ?_⟩
  rw [eqvTT]; exact q
end
section
variable {X : Cx} {K : PySem.W.Frag}
/-! the rules whose reading names the written part, for a comprehension's block -/
theorem ix_tupK (h : X.K = K) : IxR X (rIxT K) := h ▸ ix_tup
theorem pg_tupK {es : List Expr} {k : Nat} {t : TGs} {n : Nat} {pos : Pos} (h : X.K = K) (hc : X.calm = true) (hg : PGs X es t)
    (hn : (assignEach es X.env).length = n := by rfl) (hst : (assignEach es X.env).findIdx? (·.1) = none := by rfl) : PG X (.Tuple es k pos) (gTup K n t) := h ▸ pg_tup hc hg hn hst
theorem op_inTsK (h : X.K = K) (hu : X.A.units + 65 < cLine) : OpR X (compareOp .In) (rInTs K) := h ▸ op_inTs hu
theorem op_ltTK (h : X.K = K) (hu : X.A.units < cLine) : OpR X (compareOp .Lt) (rLtT K) := h ▸ op_ltT hu
def rLenS (K : PySem.W.Frag) : List V → Hp → VK → Prop := fun xs H Q => ∃ p ys, xs = [.ref p] ∧ (SqL K H p ys ∨ SqT K H p ys) ∧ Q (.int ys.length) H
theorem call_lenK (h : X.K = K) : CallR X (.builtin "len") (rLenS K) := h ▸ call_len_seq
end
end RV
set_option maxHeartbeats 4000000
/-! numbers and words written as texts -/
namespace RV
open PySem PySem.Spec PyProof.Rows L2 TL
/-- the text of a number -/
def num (n : Nat) : Str := Str.ofString (toString ((n : Nat) : Int))
theorem tl_nm (n : Nat) : tl (num n) = numL n := tl_num n
theorem num_of {x : Int} (h : 0 ≤ x) : (V.str (toString x)) = V.str (num x.toNat) := by
  have e : x = ((x.toNat : Nat) : Int) := by omega
  rw [e]
  rfl
theorem num_one {n : Nat} (h : n < 10) : tl (num n) = [48 + n] := by rw [tl_nm, numL_lt h]
theorem num_pos (n : Nat) : 0 < (num n).length := by
  rw [len_tl, tl_nm]
  exact List.length_pos_iff.mpr (numL_ne n)
theorem num_len {n : Nat} (h : n < 10 ^ 30) : (num n).length ≤ 30 := by
  rw [len_tl, tl_nm]
  exact numL_len (by decide) h
theorem num_two {n : Nat} (h : 1 < (num n).length) : 10 ≤ n := by
  rw [len_tl, tl_nm] at h
  by_cases e : n < 10
  · rw [numL_lt e] at h; simp at h
  · omega
theorem numL_head : ∀ (n : Nat), 1 ≤ n → ∃ c r, numL n = c :: r ∧ c ≠ 48 := by
  intro n
  induction n using Nat.strongRecOn with
  | _ n ih =>
    intro h
    by_cases e : n < 10
    · rw [numL_lt e]
      exact ⟨48 + n, [], rfl, by omega⟩
    · obtain ⟨c, r, e1, e2⟩ := ih (n / 10) (by omega) (by omega)
      rw [numL_step (by omega), e1]
      exact ⟨c, r ++ [48 + n % 10], rfl, e2⟩
theorem num_log {n : Nat} (h : n < 10 ^ 30) : ((n : Nat) : Int).natAbs.log2 < 1920 := by
  show n.log2 < 1920
  by_cases e : n = 0
  · subst e; decide
  · rw [Nat.log2_lt e]
    exact Nat.lt_of_lt_of_le h (by decide)
theorem num_int {n : Nat} (h : n < 10 ^ 30) : PySem.intText? (num n) = some (n : Int) := by
  refine int_num ?_
  have := num_len h
  rw [len_tl, tl_nm] at this
  omega
theorem num_sign {n c : Nat} (h : c ∈ tl (num n)) : c ∈ tl (Str.ofString "0123456789") := by
  rw [tl_nm] at h
  have hc := numL_digits n c h
  have e : tl (Str.ofString "0123456789") = [48, 49, 50, 51, 52, 53, 54, 55, 56, 57] := by rw [tl_ofString]; decide
  rw [e]
  have h0 : 48 ≤ c := hc.1
  have h1 : c ≤ 57 := hc.2
  have : c = 48 ∨ c = 49 ∨ c = 50 ∨ c = 51 ∨ c = 52 ∨ c = 53 ∨ c = 54 ∨ c = 55 ∨ c = 56 ∨ c = 57 := by omega
  simp only [List.mem_cons, List.mem_nil_iff, or_false, List.not_mem_nil]
  exact this
theorem num_free {n s : Nat} (h : s < 48 ∨ 57 < s) : s ∉ tl (num n) := by rw [tl_nm]; exact numL_free h
theorem num_inj {m n : Nat} (h : num m = num n) : m = n := numL_inj (by rw [← tl_nm, ← tl_nm, h])
/-! ### words put together -/
theorem joinL_len (S : List Nat) : ∀ l : List (List Nat), (joinL S l).length ≤ (l.map List.length).sum + l.length * S.length
  | [] => by simp [joinL]
  | [p] => by simp [joinL]
  | p :: q :: r => by
    have h := joinL_len S (q :: r)
    have e : joinL S (p :: q :: r) = p ++ (S ++ joinL S (q :: r)) := rfl
    rw [e, List.length_append, List.length_append]
    simp only [List.map_cons, List.sum_cons, List.length_cons, Nat.add_mul, Nat.one_mul] at h ⊢
    omega
theorem join_len (y : Str) (l : List Str) : (Str.join y l).length ≤ (l.map (·.length)).sum + l.length * y.length := by
  have h := joinL_len (tl y) (l.map tl)
  rw [len_tl, tl_join]
  rw [List.map_map, List.length_map] at h
  have e : List.map (List.length ∘ tl) l = l.map (·.length) := List.map_congr_left fun x _ => (len_tl x).symm
  rw [e, ← len_tl] at h
  exact h
theorem sum_le {l : List Str} {k : Nat} (h : ∀ x ∈ l, x.length ≤ k) : (l.map (·.length)).sum ≤ l.length * k := by
  induction l with
  | nil => simp
  | cons a r ih =>
    have h1 := h a (List.mem_cons_self ..)
    have h2 := ih fun x hx => h x (List.mem_cons_of_mem _ hx)
    simp only [List.map_cons, List.sum_cons, List.length_cons, Nat.add_mul, Nat.one_mul]
    omega
theorem join_short {y : Str} {l : List Str} {k m : Nat} (h : ∀ x ∈ l, x.length ≤ k) (hm : l.length ≤ m) : (Str.join y l).length ≤ m * (k + y.length) := by
  have h1 := join_len y l
  have h2 := sum_le h
  have h3 : l.length * k + l.length * y.length = l.length * (k + y.length) := by rw [Nat.mul_add]
  have h4 : l.length * (k + y.length) ≤ m * (k + y.length) := Nat.mul_le_mul_right _ hm
  omega
theorem join_room {y : Str} {l : List Str} {k m : Nat} (h : ∀ x ∈ l, x.length ≤ k) (hm : l.length ≤ m) (hz : m * (k + y.length) ≤ 16777216) : (l.map (·.length)).sum + l.length * y.length ≤ 16777216 := by
  have h2 := sum_le h
  have h3 : l.length * k + l.length * y.length = l.length * (k + y.length) := by rw [Nat.mul_add]
  have h4 : l.length * (k + y.length) ≤ m * (k + y.length) := Nat.mul_le_mul_right _ hm
  omega
/-- a row of a word and numbers -/
def rowW (w : Str) (p : List Int) : List Str := w :: p.map fun x => num x.toNat
def sp1 : Str := Str.ofString " "
def nl1 : Str := Str.ofString "\n"
theorem tl_sp : tl sp1 = [32] := by unfold sp1; rw [tl_ofString]; decide
theorem tl_nl : tl nl1 = [10] := by unfold nl1; rw [tl_ofString]; decide
theorem row3 (w : Str) (x y : Int) : tl (Str.join sp1 (rowW w [x, y])) = tl w ++ (32 :: (numL x.toNat ++ (32 :: numL y.toNat))) := by
  rw [tl_join, tl_sp]
  show joinL [32] [tl w, tl (num x.toNat), tl (num y.toNat)] = _
  rw [tl_nm, tl_nm]
  rfl
theorem row2 (w : Str) (n : Nat) : tl (Str.join sp1 [w, num n]) = tl w ++ (32 :: numL n) := by
  rw [tl_join, tl_sp]
  show joinL [32] [tl w, tl (num n)] = _
  rw [tl_nm]
  rfl
theorem mem_joinL {s : Nat} {S : List Nat} (hS : s ∉ S) : ∀ l : List (List Nat), (∀ p ∈ l, s ∉ p) → s ∉ joinL S l
  | [], _ => by simp [joinL]
  | [p], h => h p (List.mem_cons_self ..)
  | p :: q :: r, h => by
    have h1 := mem_joinL hS (q :: r) fun x hx => h x (List.mem_cons_of_mem _ hx)
    have h2 := h p (List.mem_cons_self ..)
    have e : joinL S (p :: q :: r) = p ++ (S ++ joinL S (q :: r)) := rfl
    rw [e, List.mem_append, List.mem_append]
    rintro (z | z | z)
    · exact h2 z
    · exact hS z
    · exact h1 z
theorem mem_join {s : Nat} {y : Str} {l : List Str} (hS : s ∉ tl y) (h : ∀ x ∈ l, s ∉ tl x) : s ∉ tl (Str.join y l) := by
  rw [tl_join]
  refine mem_joinL hS _ fun p hp => ?_
  obtain ⟨x, hx, rfl⟩ := List.mem_map.mp hp
  exact h x hx
end RV
set_option maxHeartbeats 4000000
namespace RV
open PySem PySem.Spec PyProof.Rows L2
theorem nx_step {i : Nat} {v : V} {σ : L2.St} {H : Hp} {G : L2.St → Hp → Prop} (h : G (σ.set i (some v)) H) : gName i v σ H G := h
theorem seq_mid {t1 t2 : TS} {D : Ends} {σ : L2.St} {H : Hp} (J : L2.St → Hp → Prop) (h2 : ∀ σ H, J σ H → t2 D σ H) (h1 : (∀ σ H, J σ H → t2 D σ H) → tSeq t1 t2 D σ H) : tSeq t1 t2 D σ H := h1 h2
section
variable {X : Cx} {K : PySem.W.Frag}
theorem op_notInDK (h : X.K = K) (hu : X.A.units + 65 < cLine) : OpR X (compareOp .NotIn) (rNotInD K) := h ▸ op_notInD hu
theorem pe_backTK {e : Expr} {te : TE} {k : Nat} {p1 p2 p3 pos : Pos} (h : X.K = K) (he : PE X e te) : PE X (.Subscript e (.Slice none none (some (.UnaryOp .USub (.Constant (.int 1) k p1) p2)) p3) pos) (tBackT K te) := h ▸ pe_backT he
end
section
variable {X : Cx} {K : PySem.W.Frag}
theorem op_inDK (h : X.K = K) (hu : X.A.units + 65 < cLine) : OpR X (compareOp .In) (rInD K) := h ▸ op_inD hu
theorem ix_listK (h : X.K = K) : IxR X (rIxL K) := h ▸ ix_list
end
theorem take_filt {α : Type} {c : α → Bool} {ks : List α} {k : α} {i : Nat} (g : ks[i]? = some k) : (ks.take (i + 1)).filter c = (ks.take i).filter c ++ (if c k = true then [k] else []) := by
  rw [List.take_add_one, g]
  show (ks.take i ++ [k]).filter c = _
  rw [List.filter_append]
  by_cases e : c k = true
  · rw [if_pos e]; simp [e]
  · rw [if_neg e]; simp [e]
section
variable {K : PySem.W.Frag} {tt : TT} {te : TE} {f : Int → Bool} {σ : L2.St} {H1 : Hp} {a D : Addr} {v : Nat} {ns : List Int} {Qd : Hp → Prop}
/-- [x for x in t if ..], t a tuple of ints -/
theorem lc_filtT (hT : SqT K H1 a (ns.map V.int)) (hl : ns.length ≤ 1000) (nD : H1 D = none)
    (htest : ∀ x ∈ ns, ∀ H', Same H1 H' → ∀ A B : Hp → Prop, (∀ H2, Same H' H2 → if f x = true then A H2 else B H2) → tt ((wipe σ [v]).set v (some (.int x))) H' (fun b H3 => if b = true then A H3 else B H3))
    (hte : ∀ (x : Int) (H' : Hp) (Q : VK), Q (.int x) H' → te ((wipe σ [v]).set v (some (.int x))) H' Q)
    (hd : ∀ H', Same H1 H' → H' D = some (.lst ((ns.filter f).map V.int)) → Qd H') :
    ∃ W : Nat → Nat → Hp → Prop, (∃ m, W 0 m (upd H1 D (.lst []))) ∧ ∀ i m H, W i m H →
      ((Itt K a).stop i H ∧ Qd H) ∨ ((Itt K a).go i H ∧ ∃ Nx : Hp → Prop, (∀ H', Nx H' → ∃ m', m' < m ∧ W (i + 1) m' H') ∧ ∀ x H', (Itt K a).yld i H x H' → gName v x (wipe σ [v]) H' fun σ2 H2 => wipe σ2 [v] = wipe σ [v] ∧ tt σ2 H2 fun b H3 =>
        if b = true then te σ2 H3 fun y H4 => ∃ acc, H4 D = some (.lst acc) ∧ acc.length < sizeLine ∧ Nx (upd H4 D (.lst (acc ++ [y]))) else Nx H3) := by
  refine lc_tup (K := K) (a := a) (xs := ns.map V.int) (fun i H' => Same H1 H' ∧ H' D = some (.lst (((ns.take i).filter f).map V.int))) ⟨same_upd nD, upd_same⟩ (fun i H' _ p => sqT_same p.1 hT) (fun i x H' hx p => ?_) fun H' p => ?_
  · obtain ⟨k, g, rfl⟩ := map_at hx
    refine ⟨by simp [wipe, List.set_set], htest k (List.mem_of_getElem? g) H' p.1 _ _ fun H2 s2 => ?_⟩
    have s12 := p.1.trans s2
    have e2 := s2 _ _ p.2
    by_cases e : f k = true
    · rw [if_pos e]
      refine hte k H2 _ ⟨_, e2, ?_, fun b o z => ?_, ?_⟩
      · rw [List.length_map]
        exact few1 (Nat.le_trans (List.length_filter_le _ _) (by rw [List.length_take]; omega))
      · rw [upd_ne (ne_of_none z nD)]; exact s12 b o z
      · rw [upd_same, take_filt g, if_pos e, List.map_append]; rfl
    · rw [if_neg e]
      exact ⟨s12, by rw [take_filt g, if_neg e, List.append_nil]; exact e2⟩
  · rw [List.length_map, List.take_of_length_le (Nat.le_refl _)] at p
    exact hd H' p.1 p.2
/-- [x for x in l if ..], l a list of ints -/
theorem lc_filtL (hT : SqL K H1 a (ns.map V.int)) (hl : ns.length ≤ 1000) (nD : H1 D = none)
    (htest : ∀ x ∈ ns, ∀ H', Same H1 H' → ∀ A B : Hp → Prop, (∀ H2, Same H' H2 → if f x = true then A H2 else B H2) → tt ((wipe σ [v]).set v (some (.int x))) H' (fun b H3 => if b = true then A H3 else B H3))
    (hte : ∀ (x : Int) (H' : Hp) (Q : VK), Q (.int x) H' → te ((wipe σ [v]).set v (some (.int x))) H' Q)
    (hd : ∀ H', Same H1 H' → H' D = some (.lst ((ns.filter f).map V.int)) → Qd H') :
    ∃ W : Nat → Nat → Hp → Prop, (∃ m, W 0 m (upd H1 D (.lst []))) ∧ ∀ i m H, W i m H →
      ((Itl K a).stop i H ∧ Qd H) ∨ ((Itl K a).go i H ∧ ∃ Nx : Hp → Prop, (∀ H', Nx H' → ∃ m', m' < m ∧ W (i + 1) m' H') ∧ ∀ x H', (Itl K a).yld i H x H' → gName v x (wipe σ [v]) H' fun σ2 H2 => wipe σ2 [v] = wipe σ [v] ∧ tt σ2 H2 fun b H3 =>
        if b = true then te σ2 H3 fun y H4 => ∃ acc, H4 D = some (.lst acc) ∧ acc.length < sizeLine ∧ Nx (upd H4 D (.lst (acc ++ [y]))) else Nx H3) := by
  refine lc_list (K := K) (a := a) (xs := ns.map V.int) (fun i H' => Same H1 H' ∧ H' D = some (.lst (((ns.take i).filter f).map V.int))) ⟨same_upd nD, upd_same⟩ (fun i H' _ p => sqL_same p.1 hT) (fun i x H' hx p => ?_) fun H' p => ?_
  · obtain ⟨k, g, rfl⟩ := map_at hx
    refine ⟨by simp [wipe, List.set_set], htest k (List.mem_of_getElem? g) H' p.1 _ _ fun H2 s2 => ?_⟩
    have s12 := p.1.trans s2
    have e2 := s2 _ _ p.2
    by_cases e : f k = true
    · rw [if_pos e]
      refine hte k H2 _ ⟨_, e2, ?_, fun b o z => ?_, ?_⟩
      · rw [List.length_map]
        exact few1 (Nat.le_trans (List.length_filter_le _ _) (by rw [List.length_take]; omega))
      · rw [upd_ne (ne_of_none z nD)]; exact s12 b o z
      · rw [upd_same, take_filt g, if_pos e, List.map_append]; rfl
    · rw [if_neg e]
      exact ⟨s12, by rw [take_filt g, if_neg e, List.append_nil]; exact e2⟩
  · rw [List.length_map, List.take_of_length_le (Nat.le_refl _)] at p
    exact hd H' p.1 p.2
end
/-! ### x in l, of ints -/
theorem dpL {K : PySem.W.Frag} {H : Hp} {a : Addr} {ns : List Int} (h : SqL K H a (ns.map V.int)) : Dp K H (.ref a) (.list (ns.map PyData.int)) := .lst h (dpInts ns)
theorem shapedLI (ns : List Int) : SeqAt.shaped (.list (ns.map PyData.int)) = true := by
  have h1 : (PyData.list (ns.map PyData.int)).canLay0 = true := by simp only [PyData.canLay0]; exact lay_ints ns
  have h2 : (PyData.list (ns.map PyData.int)).depth ≤ 64 := by simp only [PyData.depth, dep_ints]; omega
  show ((PyData.list (ns.map PyData.int)).canLay0 && decide ((PyData.list (ns.map PyData.int)).depth ≤ 64)) = true
  rw [h1, decide_eq_true h2]; rfl
theorem shapedN (n : Int) : SeqAt.shaped (.int n) = true := by
  show ((PyData.int n).canLay0 && decide ((PyData.int n).depth ≤ 64)) = true
  simp [PyData.canLay0, PyData.depth]
theorem any_int (x : Int) : ∀ ns : List Int, (ns.map PyData.int).any (fun y => PyData.eqv y (.int x)) = decide (x ∈ ns)
  | [] => rfl
  | n :: r => by
    rw [List.map_cons, List.any_cons, any_int x r]
    by_cases e : x = n
    · subst e; simp [PyData.eqv]
    · have e' : ¬ n = x := fun z => e z.symm
      by_cases e2 : x ∈ r <;> simp [PyData.eqv, e, e', e2]
section
variable {X : Cx}
/-- n in t, t a tuple of ints -/
def rInTI (K : PySem.W.Frag) : R2 := fun x y H Q => ∃ (b : Addr) (n : Int) (ns : List Int), x = .int n ∧ y = .ref b ∧ SqT K H b (ns.map V.int) ∧ Q (.bl (decide (n ∈ ns))) H
theorem op_inTI (hu : X.A.units + 65 < cLine) : OpR X (compareOp .In) (rInTI X.K) := by
  intro pins s σ H x y v u Q I rx ry h
  obtain ⟨b, n, ns, rfl, rfl, h2, q⟩ := h
  obtain ⟨as, r1⟩ := Dp.reads I (.int n) (.int n) v (.int n) rx
  obtain ⟨bs, r2⟩ := Dp.reads I (dI ns) (.ref b) u (dpT h2) ry
  refine SeqAt.in_tuple_reads (xs := ns.map PyData.int) r2 r1 (lay_ints ns) (by simp [PyData.canLay0]) ?_ ⟨.bl _, H, I, rfl, ?_⟩
  · have := Nat.min_le_right (PyData.depthAll (ns.map PyData.int)) (PyData.int n).depth
    have e : (PyData.int n).depth = 0 := by simp [PyData.depth]
    omega
  · rw [any_int]; exact q
theorem op_inTIK {K : PySem.W.Frag} (h : X.K = K) (hu : X.A.units + 65 < cLine) : OpR X (compareOp .In) (rInTI K) := h ▸ op_inTI hu
end
end RV
namespace RV
open PySem L2
/-! ### lists that rise -/
theorem sorted_eq {α : Type} {f : α → Int} : ∀ {l l' : List α}, l.Pairwise (fun a b => f a < f b) → l'.Pairwise (fun a b => f a < f b) → (∀ x, x ∈ l ↔ x ∈ l') → l = l'
  | [], [], _, _, _ => rfl
  | [], y :: r, _, _, h => nomatch (h y).mpr (List.mem_cons_self ..)
  | x :: r, [], _, _, h => nomatch (h x).mp (List.mem_cons_self ..)
  | x :: l, y :: l', h1, h2, h => by
    rw [List.pairwise_cons] at h1 h2
    have exy : x = y := by
      rcases List.mem_cons.mp ((h x).mp (List.mem_cons_self ..)) with e | e
      · exact e
      · rcases List.mem_cons.mp ((h y).mpr (List.mem_cons_self ..)) with e' | e'
        · exact e'.symm
        · have := h2.1 x e
          have := h1.1 y e'
          omega
    subst exy
    rw [sorted_eq h1.2 h2.2 fun z => ⟨fun hz => ?_, fun hz => ?_⟩]
    · rcases List.mem_cons.mp ((h z).mp (List.mem_cons_of_mem _ hz)) with e | e
      · have := h1.1 z hz
        rw [e] at this; omega
      · exact e
    · rcases List.mem_cons.mp ((h z).mpr (List.mem_cons_of_mem _ hz)) with e | e
      · have := h2.1 z hz
        rw [e] at this; omega
      · exact e
theorem nodup_le {α : Type} [DecidableEq α] : ∀ {l us : List α}, l.Nodup → (∀ x ∈ l, x ∈ us) → l.length ≤ us.length
  | [], _, _, _ => Nat.zero_le _
  | x :: l, us, h, hs => by
    rw [List.nodup_cons] at h
    have hx := hs x (List.mem_cons_self ..)
    have ih : l.length ≤ (us.erase x).length := nodup_le h.2 fun z hz => by
      refine (List.mem_erase_of_ne fun e => ?_).mpr (hs z (List.mem_cons_of_mem _ hz))
      subst e; exact h.1 hz
    have hl := List.length_erase_of_mem hx
    have hp : 0 < us.length := List.length_pos_of_mem hx
    rw [List.length_cons]; omega
/-! ### pairs -/
/-- a pair of marks below b -/
def Pr (b : Int) (p : List Int) : Prop := ∃ x y : Int, p = [x, y] ∧ (0 ≤ x ∧ x < b) ∧ (0 ≤ y ∧ y < b)
abbrev cd (p : List Int) : Int := TS.code 64 p
theorem cd_pair (x y : Int) : cd [x, y] = x * 64 + y := code_pair x y
theorem lt_lex {p q : List Int} (hp : Pr 64 p) (hq : Pr 64 q) (h : cd p < cd q) : HT.lexLt p q = true := by
  obtain ⟨x, y, rfl, hx, hy⟩ := hp
  obtain ⟨x', y', rfl, hx', hy'⟩ := hq
  rw [cd_pair, cd_pair] at h
  rw [HT.lexLt_cons, HT.lexLt_cons, HT.lexLt_nil_nil]
  by_cases e : x = x'
  · rw [if_pos e]
    have : y < y' := by omega
    rw [if_neg (by omega)]; exact decide_eq_true this
  · rw [if_neg e]; exact decide_eq_true (by omega)
theorem lt_of {p q : List Int} (hp : Pr 64 p) (hq : Pr 64 q) (h : cd p ≤ cd q) (ne : p ≠ q) : cd p < cd q := by
  obtain ⟨x, y, rfl, hx, hy⟩ := hp
  obtain ⟨x', y', rfl, hx', hy'⟩ := hq
  have z := pair_lt h ne hx hy hx' hy'
  rw [cd_pair, cd_pair]
  omega
theorem Pr.mono {b c : Int} {p : List Int} (h : Pr b p) (hbc : b ≤ c) : Pr c p := by
  obtain ⟨x, y, e, hx, hy⟩ := h
  exact ⟨x, y, e, by omega, by omega⟩
theorem sorted_lt {l : List (List Int)} (hb : ∀ p ∈ l, Pr 64 p) (nd : l.Nodup) (h : l.Pairwise fun p q => cd p ≤ cd q) : l.Pairwise fun p q => cd p < cd q := by
  have h2 := List.Pairwise.and h nd
  exact List.Pairwise.imp_of_mem (fun {p q} hp hq z => lt_of (hb p hp) (hb q hq) z.1 z.2) h2
theorem adj_rise {l : List (List Int)} (hb : ∀ p ∈ l, Pr 64 p) (h : l.Pairwise fun p q => cd p < cd q) (i : Nat) (p q : List Int) (h1 : l[i]? = some p) (h2 : l[i + 1]? = some q) : HT.lexLt p q = true := by
  obtain ⟨l1, e1⟩ := List.getElem?_eq_some_iff.mp h1
  obtain ⟨l2, e2⟩ := List.getElem?_eq_some_iff.mp h2
  have := List.pairwise_iff_getElem.mp h i (i + 1) l1 l2 (Nat.lt_succ_self _)
  rw [e1, e2] at this
  exact lt_lex (hb p (List.mem_of_getElem? h1)) (hb q (List.mem_of_getElem? h2)) this
/-! ### all pairs, row by row -/
def rowOf (d : Int) (Pd : Int → Int → Bool) (i n : Nat) : List (List Int) := ((List.range n).filter fun (j : Nat) => Pd (i : Int) (j : Int)).map fun (j : Nat) => [d + (i : Int), d + (j : Int)]
def gridOf (d : Int) (Pd : Int → Int → Bool) (m n : Nat) : List (List Int) := (List.range n).flatMap fun (i : Nat) => rowOf d Pd i m
theorem row_next (d : Int) (Pd : Int → Int → Bool) (i n : Nat) : rowOf d Pd i (n + 1) = rowOf d Pd i n ++ (if Pd (i : Int) (n : Int) = true then [[d + (i : Int), d + (n : Int)]] else []) := by
  unfold rowOf
  rw [List.range_succ, List.filter_append, List.map_append]
  by_cases h : Pd (i : Int) (n : Int) = true <;> simp [h]
theorem grid_next (d : Int) (Pd : Int → Int → Bool) (m n : Nat) : gridOf d Pd m (n + 1) = gridOf d Pd m n ++ rowOf d Pd n m := by
  unfold gridOf
  rw [List.range_succ, List.flatMap_append]; simp
theorem row_len (d : Int) (Pd : Int → Int → Bool) (i n : Nat) : (rowOf d Pd i n).length ≤ n := by
  unfold rowOf
  rw [List.length_map]
  exact Nat.le_trans (List.length_filter_le _ _) (by rw [List.length_range]; exact Nat.le_refl _)
theorem grid_len (d : Int) (Pd : Int → Int → Bool) (m : Nat) : ∀ n, (gridOf d Pd m n).length ≤ n * m
  | 0 => by simp [gridOf]
  | n + 1 => by
    have h := grid_len d Pd m n
    have h2 := row_len d Pd n m
    rw [grid_next, List.length_append, Nat.succ_mul]; omega
theorem mem_row {d : Int} {Pd : Int → Int → Bool} {i n : Nat} {p : List Int} : p ∈ rowOf d Pd i n ↔ ∃ j : Nat, j < n ∧ Pd (i : Int) (j : Int) = true ∧ p = [d + (i : Int), d + (j : Int)] := by
  unfold rowOf
  rw [List.mem_map]
  constructor
  · rintro ⟨j, hj, e⟩
    rw [List.mem_filter, List.mem_range] at hj
    exact ⟨j, hj.1, hj.2, e.symm⟩
  · rintro ⟨j, h1, h2, e⟩
    exact ⟨j, List.mem_filter.mpr ⟨List.mem_range.mpr h1, h2⟩, e.symm⟩
theorem mem_grid {d : Int} {Pd : Int → Int → Bool} {m n : Nat} {p : List Int} : p ∈ gridOf d Pd m n ↔ ∃ i j : Nat, i < n ∧ j < m ∧ Pd (i : Int) (j : Int) = true ∧ p = [d + (i : Int), d + (j : Int)] := by
  unfold gridOf
  rw [List.mem_flatMap]
  constructor
  · rintro ⟨i, hi, hp⟩
    obtain ⟨j, h1, h2, h3⟩ := mem_row.mp hp
    exact ⟨i, j, List.mem_range.mp hi, h1, h2, h3⟩
  · rintro ⟨i, j, h1, h2, h3, h4⟩
    exact ⟨i, List.mem_range.mpr h1, mem_row.mpr ⟨j, h2, h3, h4⟩⟩
theorem grid_rise {d : Int} {Pd : Int → Int → Bool} {m n : Nat} (hd : 0 ≤ d) (hm : d + (m : Int) ≤ 64) : (gridOf d Pd m n).Pairwise fun p q => cd p < cd q := by
  unfold gridOf
  rw [List.pairwise_flatMap]
  refine ⟨fun i _ => ?_, ?_⟩
  · unfold rowOf
    rw [List.pairwise_map]
    refine List.Pairwise.imp (fun {a b} (h : a < b) => ?_) (List.Pairwise.filter _ List.pairwise_lt_range)
    rw [cd_pair, cd_pair]; omega
  · refine List.Pairwise.imp (fun {a b} (h : a < b) x hx y hy => ?_) List.pairwise_lt_range
    obtain ⟨j, h1, _, rfl⟩ := mem_row.mp hx
    obtain ⟨k, h2, _, rfl⟩ := mem_row.mp hy
    rw [cd_pair, cd_pair]; omega
theorem grid_pr {d : Int} {Pd : Int → Int → Bool} {m n : Nat} {b : Int} (hd : 0 ≤ d) (hm : d + (m : Int) ≤ b) (hn : d + (n : Int) ≤ b) : ∀ p ∈ gridOf d Pd m n, Pr b p := by
  intro p hp
  obtain ⟨i, j, h1, h2, _, rfl⟩ := mem_grid.mp hp
  exact ⟨_, _, rfl, by omega, by omega⟩
end RV
namespace RV
open PySem L2
/-! ### who comes to whom by one step or more -/
inductive Rch (ps : List (List Int)) : Int → Int → Prop where
  | one {i j : Int} : [i, j] ∈ ps → Rch ps i j
  | more {i j k : Int} : Rch ps i j → [j, k] ∈ ps → Rch ps i k
theorem Rch.trans {ps : List (List Int)} {i j k : Int} (h : Rch ps i j) (g : Rch ps j k) : Rch ps i k := by
  induction g with
  | one e => exact .more h e
  | more _ e ih => exact .more ih e
theorem Rch.bound {ps : List (List Int)} {n : Int} (hb : ∀ p ∈ ps, Pr n p) {i j : Int} (h : Rch ps i j) : (0 ≤ i ∧ i < n) ∧ (0 ≤ j ∧ j < n) := by
  induction h with
  | one e =>
    obtain ⟨x, y, e2, hx, hy⟩ := hb _ e
    injection e2 with e3 e4
    injection e4 with e4 _
    subst e3 e4
    exact ⟨hx, hy⟩
  | more _ e ih =>
    obtain ⟨x, y, e2, hx, hy⟩ := hb _ e
    injection e2 with e3 e4
    injection e4 with e4 _
    subst e3 e4
    exact ⟨ih.1, hy⟩
/-- a lot that holds all right behind m and is closed -/
theorem rch_closed {ps : List (List Int)} {m : Int} {fs : List Int} (h1 : ∀ j, [m, j] ∈ ps → j ∈ fs) (h2 : ∀ x ∈ fs, ∀ j, [x, j] ∈ ps → j ∈ fs) {j : Int} (h : Rch ps m j) : j ∈ fs := by
  induction h with
  | one e => exact h1 _ e
  | more _ e ih => exact h2 _ ih _ e
noncomputable def rB (ps : List (List Int)) (i j : Int) : Bool := @decide (Rch ps i j) (Classical.propDecidable _)
theorem rB_iff {ps : List (List Int)} {i j : Int} : rB ps i j = true ↔ Rch ps i j := by
  unfold rB
  exact @decide_eq_true_iff _ (Classical.propDecidable _)
/-! ### numbers below n -/
def upN (n : Nat) : List Int := (List.range n).map fun (i : Nat) => (i : Int)
theorem upN_get {n k : Nat} (h : k < n) : (upN n)[k]? = some (k : Int) := by
  unfold upN
  rw [List.getElem?_map, List.getElem?_range h]; rfl
theorem upN_len (n : Nat) : (upN n).length = n := by unfold upN; rw [List.length_map, List.length_range]
theorem mem_upN {n : Nat} {x : Int} : x ∈ upN n ↔ 0 ≤ x ∧ x < (n : Int) := by
  unfold upN
  rw [List.mem_map]
  constructor
  · rintro ⟨k, hk, rfl⟩
    have := List.mem_range.mp hk
    omega
  · rintro ⟨h0, h1⟩
    exact ⟨x.toNat, List.mem_range.mpr (by omega), by omega⟩
theorem upN_rise (n : Nat) : (upN n).Pairwise (· < ·) := by
  unfold upN
  rw [List.pairwise_map]
  exact List.Pairwise.imp (fun {a b} (h : a < b) => by omega) List.pairwise_lt_range
/-! ### the lot of a mark -/
noncomputable def lotOf (ps : List (List Int)) (n : Nat) (m : Int) : List Int := (upN n).filter fun j => rB ps m j && rB ps j m
theorem mem_lot {ps : List (List Int)} {n : Nat} {m j : Int} : j ∈ lotOf ps n m ↔ (0 ≤ j ∧ j < (n : Int)) ∧ Rch ps m j ∧ Rch ps j m := by
  unfold lotOf
  rw [List.mem_filter, mem_upN, Bool.and_eq_true, rB_iff, rB_iff]
theorem lot_rise (ps : List (List Int)) (n : Nat) (m : Int) : (lotOf ps n m).Pairwise (· < ·) := (upN_rise n).filter _
theorem lot_len (ps : List (List Int)) (n : Nat) (m : Int) : (lotOf ps n m).length ≤ n := by
  have := List.length_filter_le (fun j => rB ps m j && rB ps j m) (upN n)
  rw [upN_len] at this
  exact this
theorem lot_eq {ps : List (List Int)} {n : Nat} {m j : Int} (h : j ∈ lotOf ps n m) : lotOf ps n j = lotOf ps n m := by
  obtain ⟨_, h1, h2⟩ := mem_lot.mp h
  unfold lotOf
  refine List.filter_congr fun x _ => ?_
  rw [Bool.eq_iff_iff, Bool.and_eq_true, Bool.and_eq_true, rB_iff, rB_iff, rB_iff, rB_iff]
  exact ⟨fun ⟨a, b⟩ => ⟨h1.trans a, b.trans h2⟩, fun ⟨a, b⟩ => ⟨h2.trans a, b.trans h1⟩⟩
theorem lot_self {ps : List (List Int)} {n : Nat} {m : Int} (hm : 0 ≤ m ∧ m < (n : Int)) (h : Rch ps m m) : m ∈ lotOf ps n m := mem_lot.mpr ⟨hm, h, h⟩
theorem lot_none {ps : List (List Int)} {n : Nat} {m : Int} (h : ¬ Rch ps m m) : lotOf ps n m = [] := by
  refine List.eq_nil_iff_forall_not_mem.mpr fun j hj => ?_
  obtain ⟨_, h1, h2⟩ := mem_lot.mp hj
  exact h (h1.trans h2)
theorem lot_some {ps : List (List Int)} {n : Nat} {m j : Int} (h : j ∈ lotOf ps n m) : Rch ps m m := by
  obtain ⟨_, h1, h2⟩ := mem_lot.mp h
  exact h1.trans h2
/-! ### the parts -/
noncomputable def isHead (ps : List (List Int)) (n : Nat) (m : Int) : Bool := decide ((lotOf ps n m).head? = some m)
noncomputable def partsOf (ps : List (List Int)) (n : Nat) : List (List Int) := ((upN n).filter (isHead ps n)).map (lotOf ps n)
theorem mem_parts {ps : List (List Int)} {n : Nat} {p : List Int} : p ∈ partsOf ps n ↔ ∃ m : Int, (0 ≤ m ∧ m < (n : Int)) ∧ (lotOf ps n m).head? = some m ∧ p = lotOf ps n m := by
  unfold partsOf isHead
  rw [List.mem_map]
  constructor
  · rintro ⟨m, hm, rfl⟩
    obtain ⟨h1, h2⟩ := List.mem_filter.mp hm
    exact ⟨m, mem_upN.mp h1, of_decide_eq_true h2, rfl⟩
  · rintro ⟨m, h1, h2, rfl⟩
    exact ⟨m, List.mem_filter.mpr ⟨mem_upN.mpr h1, decide_eq_true h2⟩, rfl⟩
theorem lot_part {ps : List (List Int)} {n : Nat} {m j : Int} (h : j ∈ lotOf ps n m) : lotOf ps n m ∈ partsOf ps n := by
  cases e : lotOf ps n m with
  | nil => rw [e] at h; cases h
  | cons x r =>
    have hx : x ∈ lotOf ps n m := by rw [e]; exact List.mem_cons_self ..
    have ex := lot_eq hx
    refine mem_parts.mpr ⟨x, (mem_lot.mp hx).1, ?_, ?_⟩
    · rw [ex, e]; rfl
    · rw [ex, e]
theorem part_ne {ps : List (List Int)} {n : Nat} {p : List Int} (h : p ∈ partsOf ps n) : p ≠ [] := by
  obtain ⟨m, _, h2, rfl⟩ := mem_parts.mp h
  intro e
  rw [e] at h2; cases h2
theorem part_lot {ps : List (List Int)} {n : Nat} {p : List Int} {x : Int} (h : p ∈ partsOf ps n) (hx : x ∈ p) : lotOf ps n x = p := by
  obtain ⟨m, _, _, rfl⟩ := mem_parts.mp h
  exact lot_eq hx
def hd0 (l : List Int) : Int := l.headD 0
theorem parts_rise (ps : List (List Int)) (n : Nat) : (partsOf ps n).Pairwise fun p q => hd0 p < hd0 q := by
  unfold partsOf
  rw [List.pairwise_map]
  refine List.Pairwise.imp_of_mem (fun {a b} ha hb (h : a < b) => ?_) ((upN_rise n).filter _)
  have ea : (lotOf ps n a).head? = some a := of_decide_eq_true (List.mem_filter.mp ha).2
  have eb : (lotOf ps n b).head? = some b := of_decide_eq_true (List.mem_filter.mp hb).2
  unfold hd0
  rw [List.headD_eq_head?_getD, List.headD_eq_head?_getD, ea, eb]
  exact h
theorem parts_nodup (ps : List (List Int)) (n : Nat) : (partsOf ps n).Nodup := (parts_rise ps n).imp fun {a b} h e => by rw [e] at h; omega
theorem parts_len (ps : List (List Int)) (n : Nat) : (partsOf ps n).length ≤ n := by
  unfold partsOf
  rw [List.length_map]
  have := List.length_filter_le (isHead ps n) (upN n)
  rw [upN_len] at this
  exact this
/-- of two lots unlike heads tell which is ahead -/
theorem part_hd {ps : List (List Int)} {n : Nat} {p q : List Int} (hp : p ∈ partsOf ps n) (hq : q ∈ partsOf ps n) (h : hd0 p = hd0 q) : p = q := by
  obtain ⟨a, _, ea, rfl⟩ := mem_parts.mp hp
  obtain ⟨b, _, eb, rfl⟩ := mem_parts.mp hq
  unfold hd0 at h
  rw [List.headD_eq_head?_getD, List.headD_eq_head?_getD, ea, eb] at h
  have h' : a = b := h
  rw [h']
/-! ### the table that is gone on with, mark by mark -/
def Wsh (ps : List (List Int)) : Nat → Int → Int → Prop
  | 0, i, j => [i, j] ∈ ps
  | k + 1, i, j => Wsh ps k i j ∨ (Wsh ps k i (k : Int) ∧ Wsh ps k (k : Int) j)
theorem Wsh.up {ps : List (List Int)} {i j : Int} (h : [i, j] ∈ ps) : ∀ k, Wsh ps k i j
  | 0 => h
  | k + 1 => .inl (Wsh.up h k)
theorem Wsh.rch {ps : List (List Int)} : ∀ {k : Nat} {i j : Int}, Wsh ps k i j → Rch ps i j
  | 0, _, _, h => .one h
  | k + 1, _, _, .inl h => Wsh.rch h
  | k + 1, _, _, .inr h => (Wsh.rch h.1).trans (Wsh.rch h.2)
theorem Wsh.amid {ps : List (List Int)} : ∀ (k : Nat) (m : Nat) (i j : Int), m < k → Wsh ps k i (m : Int) → Wsh ps k (m : Int) j → Wsh ps k i j
  | 0, _, _, _, h, _, _ => absurd h (Nat.not_lt_zero _)
  | k + 1, m, i, j, h, h1, h2 => by
    by_cases e : m = k
    · subst e
      have a1 : Wsh ps m i (m : Int) := h1.elim id fun z => z.1
      have a2 : Wsh ps m (m : Int) j := h2.elim id fun z => z.2
      exact .inr ⟨a1, a2⟩
    · have hm : m < k := by omega
      have T := fun i j => Wsh.amid (ps := ps) k m i j hm
      rcases h1 with h1 | ⟨p1, p2⟩
      · rcases h2 with h2 | ⟨q1, q2⟩
        · exact .inl (T _ _ h1 h2)
        · exact .inr ⟨T _ _ h1 q1, q2⟩
      · rcases h2 with h2 | ⟨q1, q2⟩
        · exact .inr ⟨p1, T _ _ p2 h2⟩
        · exact .inr ⟨p1, q2⟩
theorem rch_wsh {ps : List (List Int)} {n : Nat} (hb : ∀ p ∈ ps, Pr (n : Int) p) {i j : Int} (h : Rch ps i j) : Wsh ps n i j := by
  induction h with
  | one e => exact Wsh.up e n
  | @more j k _ e ih =>
    have b := (Rch.bound hb (.one e)).1
    have ej : j = ((j.toNat : Nat) : Int) := by omega
    rw [ej] at ih e
    exact Wsh.amid n j.toNat _ _ (by omega) ih (Wsh.up e n)
end RV
set_option maxHeartbeats 4000000
namespace RV
open PySem PySem.Spec PyProof.Rows L2
section
variable {K : PySem.W.Frag} {tt : TT} {te : TE} {f : Int → Bool} {σ : L2.St} {H1 : Hp} {D : Addr} {v n : Nat} {Qd : Hp → Prop}
/-- [x for x in range(n) if ..] -/
theorem lc_filtR (hl : n ≤ 1000) (nD : H1 D = none)
    (htest : ∀ x : Int, 0 ≤ x → x < (n : Int) → ∀ H', Same H1 H' → ∀ A B : Hp → Prop, (∀ H2, Same H' H2 → if f x = true then A H2 else B H2) → tt ((wipe σ [v]).set v (some (.int x))) H' (fun b H3 => if b = true then A H3 else B H3))
    (hte : ∀ (x : Int) (H' : Hp) (Q : VK), Q (.int x) H' → te ((wipe σ [v]).set v (some (.int x))) H' Q)
    (hd : ∀ H', Same H1 H' → H' D = some (.lst (((upN n).filter f).map V.int)) → Qd H') :
    ∃ W : Nat → Nat → Hp → Prop, (∃ m, W 0 m (upd H1 D (.lst []))) ∧ ∀ i m H, W i m H →
      ((Itr 0 n).stop i H ∧ Qd H) ∨ ((Itr 0 n).go i H ∧ ∃ Nx : Hp → Prop, (∀ H', Nx H' → ∃ m', m' < m ∧ W (i + 1) m' H') ∧ ∀ x H', (Itr 0 n).yld i H x H' → gName v x (wipe σ [v]) H' fun σ2 H2 => wipe σ2 [v] = wipe σ [v] ∧ tt σ2 H2 fun b H3 =>
        if b = true then te σ2 H3 fun y H4 => ∃ acc, H4 D = some (.lst acc) ∧ acc.length < sizeLine ∧ Nx (upd H4 D (.lst (acc ++ [y]))) else Nx H3) := by
  refine lc_range (lo := 0) (n := n) (fun i H' => Same H1 H' ∧ H' D = some (.lst ((((upN n).take i).filter f).map V.int))) ⟨same_upd nD, upd_same⟩ (fun i H' hi p => ?_) fun H' p => ?_
  · have g : (upN n)[i]? = some (i : Int) := upN_get hi
    rw [Int.zero_add]
    refine ⟨by simp [wipe, List.set_set], htest (i : Int) (by omega) (by omega) H' p.1 _ _ fun H2 s2 => ?_⟩
    have s12 := p.1.trans s2
    have e2 := s2 _ _ p.2
    by_cases e : f (i : Int) = true
    · rw [if_pos e]
      refine hte _ H2 _ ⟨_, e2, ?_, fun b o z => ?_, ?_⟩
      · rw [List.length_map]
        exact few1 (Nat.le_trans (List.length_filter_le _ _) (by rw [List.length_take, upN_len]; omega))
      · rw [upd_ne (ne_of_none z nD)]; exact s12 b o z
      · rw [upd_same, take_filt g, if_pos e, List.map_append]; rfl
    · rw [if_neg e]
      exact ⟨s12, by rw [take_filt g, if_neg e, List.append_nil]; exact e2⟩
  · rw [List.take_of_length_le (by rw [upN_len]; exact Nat.le_refl _)] at p
    exact hd H' p.1 p.2
end
end RV
set_option maxHeartbeats 4000000
namespace RV
open PySem PySem.Spec PyProof.Rows L2
def fromN (lo : Int) (n : Nat) : List Int := (List.range n).map fun (i : Nat) => lo + (i : Int)
theorem fromN_get {lo : Int} {n k : Nat} (h : k < n) : (fromN lo n)[k]? = some (lo + (k : Int)) := by
  unfold fromN
  rw [List.getElem?_map, List.getElem?_range h]; rfl
theorem fromN_len (lo : Int) (n : Nat) : (fromN lo n).length = n := by unfold fromN; rw [List.length_map, List.length_range]
theorem mem_fromN {lo : Int} {n : Nat} {x : Int} : x ∈ fromN lo n ↔ lo ≤ x ∧ x < lo + (n : Int) := by
  unfold fromN
  rw [List.mem_map]
  constructor
  · rintro ⟨k, hk, rfl⟩
    have := List.mem_range.mp hk
    omega
  · rintro ⟨h0, h1⟩
    exact ⟨(x - lo).toNat, List.mem_range.mpr (by omega), by omega⟩
theorem pe_weakR {X : Cx} {e : Expr} {t t' : TE} (h : PE X e t) (imp : ∀ σ H Q, t' σ H Q → t σ H Q) : PE X e t' := ⟨fun pins s σ H Q I q => h.run pins s σ H Q I (imp σ H Q q)⟩
section
variable {X : Cx} {K : PySem.W.Frag}
theorem cr_allK (h : X.K = K) (hc : X.calm = true) : CallR X (.builtin "all") (rAll K) := h ▸ cr_all hc
theorem pi_listK {tg l : Expr} {tl : TE} (h : X.K = K) (hl : PE X l tl) : PI X tg l (iList K tl) := h ▸ pi_list hl
theorem pi_tupK {tg l : Expr} {tl : TE} (h : X.K = K) (hl : PE X l tl) : PI X tg l (iTup K tl) := h ▸ pi_tup hl
end
section
variable {K : PySem.W.Frag} {tt : TT} {te : TE} {f : Int → Bool} {h : Int → Int} {σ : L2.St} {H1 : Hp} {D : Addr} {v n : Nat} {lo : Int} {Qd : Hp → Prop}
/-- [h(x) for x in range(lo, ..) if f(x)] -/
theorem lc_mapR (hl : n ≤ 1000) (nD : H1 D = none)
    (htest : ∀ x ∈ fromN lo n, ∀ H', Same H1 H' → ∀ A B : Hp → Prop, (∀ H2, Same H' H2 → if f x = true then A H2 else B H2) → tt ((wipe σ [v]).set v (some (.int x))) H' (fun b H3 => if b = true then A H3 else B H3))
    (hte : ∀ x ∈ fromN lo n, ∀ (H' : Hp) (Q : VK), Same H1 H' → f x = true → (∀ H2, Same H' H2 → Q (.int (h x)) H2) → te ((wipe σ [v]).set v (some (.int x))) H' Q)
    (hd : ∀ H', Same H1 H' → H' D = some (.lst ((((fromN lo n).filter f).map h).map V.int)) → Qd H') :
    ∃ W : Nat → Nat → Hp → Prop, (∃ m, W 0 m (upd H1 D (.lst []))) ∧ ∀ i m H, W i m H →
      ((Itr lo n).stop i H ∧ Qd H) ∨ ((Itr lo n).go i H ∧ ∃ Nx : Hp → Prop, (∀ H', Nx H' → ∃ m', m' < m ∧ W (i + 1) m' H') ∧ ∀ x H', (Itr lo n).yld i H x H' → gName v x (wipe σ [v]) H' fun σ2 H2 => wipe σ2 [v] = wipe σ [v] ∧ tt σ2 H2 fun b H3 =>
        if b = true then te σ2 H3 fun y H4 => ∃ acc, H4 D = some (.lst acc) ∧ acc.length < sizeLine ∧ Nx (upd H4 D (.lst (acc ++ [y]))) else Nx H3) := by
  refine lc_range (lo := lo) (n := n) (fun i H' => Same H1 H' ∧ H' D = some (.lst (((((fromN lo n).take i).filter f).map h).map V.int))) ⟨same_upd nD, upd_same⟩ (fun i H' hi p => ?_) fun H' p => ?_
  · have g : (fromN lo n)[i]? = some (lo + (i : Int)) := fromN_get hi
    have hm := List.mem_of_getElem? g
    refine ⟨by simp [wipe, List.set_set], htest _ hm H' p.1 _ _ fun H2 s2 => ?_⟩
    have s12 := p.1.trans s2
    have e2 := s2 _ _ p.2
    by_cases e : f (lo + (i : Int)) = true
    · rw [if_pos e]
      refine hte _ hm H2 _ s12 e fun H3 s3 => ⟨_, s3 _ _ e2, ?_, fun b o z => ?_, ?_⟩
      · rw [List.length_map, List.length_map]
        exact few1 (Nat.le_trans (List.length_filter_le _ _) (by rw [List.length_take, fromN_len]; omega))
      · rw [upd_ne (ne_of_none z nD)]; exact s3 _ _ (s12 b o z)
      · rw [upd_same, take_filt g, if_pos e, List.map_append, List.map_append]; rfl
    · rw [if_neg e]
      exact ⟨s12, by rw [take_filt g, if_neg e, List.append_nil]; exact e2⟩
  · rw [List.take_of_length_le (by rw [fromN_len]; exact Nat.le_refl _)] at p
    exact hd H' p.1 p.2
end
/-- [c(x) for x in l] of truths, l a list of ints -/
theorem lc_blL {K : PySem.W.Frag} {te : TE} {c : Int → Bool} {σ : L2.St} {H1 : Hp} {a D : Addr} {v : Nat} {ns : List Int} {Qd : Hp → Prop} (hT : SqL K H1 a (ns.map V.int)) (hl : ns.length ≤ 1000) (nD : H1 D = none)
    (hte : ∀ x ∈ ns, ∀ (H' : Hp) (Q : VK), Same H1 H' → Q (.bl (c x)) H' → te ((wipe σ [v]).set v (some (.int x))) H' Q)
    (hd : ∀ H', Same H1 H' → H' D = some (.lst ((ns.map c).map V.bl)) → Qd H') :
    ∃ W : Nat → Nat → Hp → Prop, (∃ m, W 0 m (upd H1 D (.lst []))) ∧ ∀ i m H, W i m H →
      ((Itl K a).stop i H ∧ Qd H) ∨ ((Itl K a).go i H ∧ ∃ Nx : Hp → Prop, (∀ H', Nx H' → ∃ m', m' < m ∧ W (i + 1) m' H') ∧ ∀ x H', (Itl K a).yld i H x H' → gName v x (wipe σ [v]) H' fun σ2 H2 => wipe σ2 [v] = wipe σ [v] ∧ tYes σ2 H2 fun b H3 =>
        if b = true then te σ2 H3 fun y H4 => ∃ acc, H4 D = some (.lst acc) ∧ acc.length < sizeLine ∧ Nx (upd H4 D (.lst (acc ++ [y]))) else Nx H3) := by
  refine lc_list (K := K) (a := a) (xs := ns.map V.int) (fun i H' => Same H1 H' ∧ H' D = some (.lst (((ns.take i).map c).map V.bl))) ⟨same_upd nD, upd_same⟩ (fun i H' _ p => sqL_same p.1 hT) (fun i x H' hx p => ?_) fun H' p => ?_
  · obtain ⟨k, g, rfl⟩ := map_at hx
    refine ⟨by simp [wipe, List.set_set], tt_yes (hte k (List.mem_of_getElem? g) H' _ p.1 ⟨_, p.2, ?_, fun b o z => ?_, ?_⟩)⟩
    · rw [List.length_map, List.length_map, List.length_take]; exact few1 (by omega)
    · rw [upd_ne (ne_of_none z nD)]; exact p.1 b o z
    · rw [upd_same, List.take_add_one, g, List.map_append, List.map_append]; rfl
  · rw [List.length_map, List.take_of_length_le (Nat.le_refl _)] at p
    exact hd H' p.1 p.2
end RV
set_option maxHeartbeats 4000000
namespace RV
open PySem PySem.Spec PyProof.Rows L2
section
variable {X : Cx} {K : PySem.W.Frag}
/-- t + u of any two tuples, wherever the sum stands -/
def rCatW (K : PySem.W.Frag) : R2 := fun x y H Q => ∃ a b xs ys, x = .ref a ∧ y = .ref b ∧ SqT K H a xs ∧ SqT K H b ys ∧ xs.length + ys.length ≤ sizeLine ∧ ∀ (p : Addr) (H' : Hp), Same H H' → SqT K H' p (xs ++ ys) → Q (.ref p) H'
theorem op_catW : OpR X (binaryOp .Add) (rCatW X.K) := by
  intro pins s σ H x y v u Q I rx ry h
  obtain ⟨a, b, xs, ys, e1, e2, h1, h2, hl, q⟩ := h
  refine op_catA pins s σ H x y v u Q I rx ry ⟨a, b, xs, ys, e1, e2, h1, h2, hl, fun z => ?_, fun _ z => ?_, fun _ _ p np => ?_⟩
  · exact q b H (fun _ _ e => e) (by rw [z]; exact h2)
  · exact q a H (fun _ _ e => e) (by rw [z, List.append_nil]; exact h1)
  · exact q p _ (same_upd np) (tupNew upd_same)
theorem op_catWK (h : X.K = K) : OpR X (binaryOp .Add) (rCatW K) := h ▸ op_catW
/-- t[lo:hi], wherever the slice stands -/
def rSlW (K : PySem.W.Frag) : V → Option Int → Option Int → Hp → VK → Prop := fun x lo hi H Q => ∃ a xs, x = .ref a ∧ SqT K H a xs ∧ ∀ (p : Addr) (H' : Hp), Same H H' → SqT K H' p (cutV xs lo hi) → Q (.ref p) H'
theorem sl_tupW : SlR X (rSlW X.K) := by
  intro pins s σ H x v vl vu lo hi sl Q I rx hs pl pu h
  obtain ⟨a, xs, e, h1, q⟩ := h
  refine sl_tupA pins s σ H x v vl vu lo hi sl Q I rx hs pl pu ⟨a, xs, e, h1, fun z => ?_, fun _ p np => ?_⟩
  · refine q a H (fun _ _ e => e) ?_
    unfold cutV
    rw [z.1, z.2, List.drop_zero, Nat.sub_zero, List.take_of_length_le (Nat.le_refl _)]
    exact h1
  · exact q p _ (same_upd np) (tupNew upd_same)
theorem sl_tupWK (h : X.K = K) : SlR X (rSlW K) := h ▸ sl_tupW
theorem cut_from (xs : List V) (k : Nat) : cutV xs (some (k : Int)) none = xs.drop k := by
  unfold cutV
  rw [HT.sIx_nat, HT.sIx_none]
  rcases Nat.le_total k xs.length with h | h
  · rw [Nat.min_eq_left h, List.take_of_length_le (by rw [List.length_drop]; exact Nat.le_refl _)]
  · rw [Nat.min_eq_right h, Nat.sub_self, List.take_zero, List.drop_eq_nil_of_le h]
theorem cut_to (xs : List V) (k : Nat) : cutV xs none (some (k : Int)) = xs.take k := by
  unfold cutV
  rw [HT.sIx_nat, HT.sIx_none, List.drop_zero, Nat.sub_zero]
  rcases Nat.le_total k xs.length with h | h
  · rw [Nat.min_eq_left h]
  · rw [Nat.min_eq_right h, List.take_of_length_le (Nat.le_refl _), List.take_of_length_le h]
theorem tuple_mul1 (l : Addr) (items : Array Value) (n : Nat) (dd : Option Addr) (sl : Array (Option Value)) (x : Int) (u : Tok) (c0 : (decide (x < -(2 ^ 63)) || decide (x ≥ 2 ^ 63)) = false) (c1 : (items.isEmpty || x == 1) = true) :
    Meets (Builtin.«tuple.__mul__» ⟨[.ref l, .int x u], []⟩) (fun _ R s => s.heap.get? l = some { cls := .type "tuple", dict := dd, data := .seq items n, slots := sl } ∧ R (.ok (.ret (Value.ref l))) s) :=
  .of_wp fun prog w A R s h => by
    obtain ⟨hp, g, d, tk, os⟩ := s
    obtain ⟨hl, h⟩ := h
    have f1 := AutoSeq1.idx_int
    wp_walk using wpAny_loadPart' hl
    repeat (first
      | (refine wpAny_ite_false (decide_eq_false (by rw [c0]; exact Bool.false_ne_true)) ?_; wp_walk using wpAny_loadPart' hl)
      | (refine wpAny_ite_true (decide_eq_true (by rw [c1])) ?_; wp_walk using wpAny_loadPart' hl))
    exact ⟨_, rfl, h⟩
theorem tuple_mul0 (l : Addr) (items : Array Value) (n : Nat) (dd : Option Addr) (sl : Array (Option Value)) (x : Int) (u : Tok) (c0 : (decide (x < -(2 ^ 63)) || decide (x ≥ 2 ^ 63)) = false) (c1 : (items.isEmpty || x == 1) = false) (c2 : (decide (x ≤ 0) || items.isEmpty) = true) :
    Meets (Builtin.«tuple.__mul__» ⟨[.ref l, .int x u], []⟩) (fun _ R s => s.heap.get? l = some { cls := .type "tuple", dict := dd, data := .seq items n, slots := sl } ∧ R (.ok (.ret (Value.ref s.heap.objs.size))) { s with heap := s.heap.push { cls := Value.type "tuple", data := Data.seq #[] }, toks := s.toks }) :=
  .of_wp fun prog w A R s h => by
    obtain ⟨hp, g, d, tk, os⟩ := s
    obtain ⟨hl, h⟩ := h
    have f1 := AutoSeq1.idx_int
    wp_walk using wpAny_loadPart' hl
    repeat (first
      | (refine wpAny_ite_false (decide_eq_false (by rw [c0]; exact Bool.false_ne_true)) ?_; wp_walk using wpAny_loadPart' hl)
      | (refine wpAny_ite_false (decide_eq_false (by rw [c1]; exact Bool.false_ne_true)) ?_; wp_walk using wpAny_loadPart' hl)
      | (refine wpAny_ite_true (decide_eq_true (by rw [c2])) ?_; wp_walk using wpAny_loadPart' hl))
    exact ⟨_, rfl, h⟩
/-- t * k, k from 0 on -/
def rRepW (K : PySem.W.Frag) : R2 := fun x y H Q => ∃ l k xs, x = .ref l ∧ y = .int k ∧ SqT K H l xs ∧ 0 ≤ k ∧ k ≤ 1000 ∧ xs.length ≤ 1000 ∧ ∀ (p : Addr) (H' : Hp), Same H H' → SqT K H' p (List.replicate k.toNat xs).flatten → Q (.ref p) H'
theorem flat_nil : ∀ m : Nat, (List.replicate m ([] : List V)).flatten = []
  | 0 => rfl
  | m + 1 => by rw [List.replicate_succ, List.flatten_cons, flat_nil m]; rfl
theorem op_repW : OpR X (binaryOp .Mult) (rRepW X.K) := by
  intro pins s σ H x y v u Q I rx ry h
  obtain ⟨l, k, xs, rfl, rfl, hT, h0, h1, hz, q⟩ := h
  by_cases hbig : xs ≠ [] ∧ 2 ≤ k
  · exact op_repT pins s σ H _ _ v u Q I rx ry ⟨l, k, xs, rfl, rfl, hT, hbig.1, hbig.2, h1, hz, fun p np => q p _ (same_upd np) (tupNew upd_same)⟩
  cases rx
  obtain ⟨t, rfl⟩ := ry
  obtain ⟨its, r, ⟨⟨cls, dd, data, sl⟩, ho, hc, n, hd⟩, hs⟩ := I.tuple hT
  simp only at hc hd
  subst hc hd
  have hle : its.length = xs.length := r.length.symm
  have c0 : (decide (k < -(2 ^ 63)) || decide (k ≥ 2 ^ 63)) = false := by
    rw [decide_eq_false (by omega), decide_eq_false (by omega)] <;> rfl
  by_cases e1 : xs = [] ∨ k = 1
  · have c1 : (its.toArray.isEmpty || k == 1) = true := by
      rcases e1 with e | e
      · have : its = [] := List.eq_nil_of_length_eq_zero (by rw [hle, e]; rfl)
        rw [this]; rfl
      · rw [e]; simp
    refine wpAny_binaryOp_repeat_ref (T := "tuple") (U := "int") (by decide) ⟨_, ho, rfl⟩ (fun s' => typeIs_int s' k t) noFill_tuple_mul F.fills_int_mul F.slot_int_rmul repeat_tuple F.slot_int_index.lookup
      (call_meets F.slot_int_rmul (typeIs_int s k t) F.entry_int_rmul (F.args_int_rmul_2 _ _) (int_rmul_tuple k t l its.toArray n dd sl)
        ⟨ho, rfl, ⟨_, ho, rfl⟩, call_meets F.slot_tuple_mul ⟨_, ho, rfl⟩ F.entry_tuple_mul (F.args_tuple_mul_2 _ _) (tuple_mul1 l its.toArray n dd sl k t c0 c1) ⟨ho, ?_⟩⟩)
    refine ⟨.ref l, H, I, rfl, q l H (fun _ _ e => e) ?_⟩
    rcases e1 with e | e
    · subst e; rw [flat_nil]; exact hT
    · subst e
      show SqT X.K H l ([xs].flatten)
      rw [List.flatten_cons, List.flatten_nil, List.append_nil]; exact hT
  · have e2 : xs ≠ [] := fun e => e1 (.inl e)
    have e3 : k = 0 := by
      rcases Int.lt_or_le k 2 with z | z
      · have : k ≠ 1 := fun e => e1 (.inr e)
        omega
      · exact absurd ⟨e2, z⟩ hbig
    have hi : its.toArray.isEmpty = false := by
      cases its with
      | nil => exact absurd (List.eq_nil_of_length_eq_zero hle.symm) e2
      | cons a b => rfl
    have c1 : (its.toArray.isEmpty || k == 1) = false := by
      rw [hi, e3]; rfl
    have c2 : (decide (k ≤ 0) || its.toArray.isEmpty) = true := by
      rw [e3]; rfl
    refine wpAny_binaryOp_repeat_ref (T := "tuple") (U := "int") (by decide) ⟨_, ho, rfl⟩ (fun s' => typeIs_int s' k t) noFill_tuple_mul F.fills_int_mul F.slot_int_rmul repeat_tuple F.slot_int_index.lookup
      (call_meets F.slot_int_rmul (typeIs_int s k t) F.entry_int_rmul (F.args_int_rmul_2 _ _) (int_rmul_tuple k t l its.toArray n dd sl)
        ⟨ho, rfl, ⟨_, ho, rfl⟩, call_meets F.slot_tuple_mul ⟨_, ho, rfl⟩ F.entry_tuple_mul (F.args_tuple_mul_2 _ _) (tuple_mul0 l its.toArray n dd sl k t c0 c1 c2) ⟨ho, ?_⟩⟩)
    refine ⟨.ref s.heap.objs.size, _, I.laid (t' := s.toks) (o := .tup []) (fun b ob q => Heap.get?_push_of_some _ q) (Nat.le_refl _) ?_, rfl, q _ _ (same_upd (I.hok.fresh (Nat.le_refl _))) (by rw [e3]; exact tupNew upd_same)⟩
    exact ⟨Nat.zero_le _, [], .nil, IsTup.new _ _⟩
theorem op_eqI1K (h : X.K = K) (hu : X.A.units + 64 < cLine) : OpR X (compareOp .Eq) (rEqI1 K) := h ▸ op_eqI1 hu
theorem op_repWK (h : X.K = K) : OpR X (binaryOp .Mult) (rRepW K) := h ▸ op_repW
end
/-- [h(x) for x in t], t a tuple of ints -/
theorem lc_mapT {K : PySem.W.Frag} {te : TE} {h : Int → Int} {σ : L2.St} {H1 : Hp} {a D : Addr} {v : Nat} {ns : List Int} {Qd : Hp → Prop} (hT : SqT K H1 a (ns.map V.int)) (hl : ns.length ≤ 1000) (nD : H1 D = none)
    (hte : ∀ x ∈ ns, ∀ (H' : Hp) (Q : VK), Same H1 H' → (∀ H2, Same H' H2 → Q (.int (h x)) H2) → te ((wipe σ [v]).set v (some (.int x))) H' Q)
    (hd : ∀ H', Same H1 H' → H' D = some (.lst ((ns.map h).map V.int)) → Qd H') :
    ∃ W : Nat → Nat → Hp → Prop, (∃ m, W 0 m (upd H1 D (.lst []))) ∧ ∀ i m H, W i m H →
      ((Itt K a).stop i H ∧ Qd H) ∨ ((Itt K a).go i H ∧ ∃ Nx : Hp → Prop, (∀ H', Nx H' → ∃ m', m' < m ∧ W (i + 1) m' H') ∧ ∀ x H', (Itt K a).yld i H x H' → gName v x (wipe σ [v]) H' fun σ2 H2 => wipe σ2 [v] = wipe σ [v] ∧ tYes σ2 H2 fun b H3 =>
        if b = true then te σ2 H3 fun y H4 => ∃ acc, H4 D = some (.lst acc) ∧ acc.length < sizeLine ∧ Nx (upd H4 D (.lst (acc ++ [y]))) else Nx H3) := by
  refine lc_tup (K := K) (a := a) (xs := ns.map V.int) (fun i H' => Same H1 H' ∧ H' D = some (.lst (((ns.take i).map h).map V.int))) ⟨same_upd nD, upd_same⟩ (fun i H' _ p => sqT_same p.1 hT) (fun i x H' hx p => ?_) fun H' p => ?_
  · obtain ⟨k, g, rfl⟩ := map_at hx
    refine ⟨by simp [wipe, List.set_set], tt_yes (hte k (List.mem_of_getElem? g) H' _ p.1 fun H2 s2 => ⟨_, s2 _ _ p.2, ?_, fun b o z => ?_, ?_⟩)⟩
    · rw [List.length_map, List.length_map, List.length_take]; exact few1 (by omega)
    · rw [upd_ne (ne_of_none z nD)]; exact s2 _ _ (p.1 b o z)
    · rw [upd_same, List.take_add_one, g, List.map_append, List.map_append]; rfl
  · rw [List.length_map, List.take_of_length_le (Nat.le_refl _)] at p
    exact hd H' p.1 p.2
end RV
set_option maxHeartbeats 4000000
namespace RV
open PySem PySem.Spec PyProof.Rows L2
/-- [h(x) for x in l], l a list of ints -/
theorem lc_mapL {K : PySem.W.Frag} {te : TE} {h : Int → Int} {σ : L2.St} {H1 : Hp} {a D : Addr} {v : Nat} {ns : List Int} {Qd : Hp → Prop} (hT : SqL K H1 a (ns.map V.int)) (hl : ns.length ≤ 100000) (nD : H1 D = none)
    (hte : ∀ x ∈ ns, ∀ (H' : Hp) (Q : VK), Same H1 H' → (∀ H2, Same H' H2 → Q (.int (h x)) H2) → te ((wipe σ [v]).set v (some (.int x))) H' Q)
    (hd : ∀ H', Same H1 H' → H' D = some (.lst ((ns.map h).map V.int)) → Qd H') :
    ∃ W : Nat → Nat → Hp → Prop, (∃ m, W 0 m (upd H1 D (.lst []))) ∧ ∀ i m H, W i m H →
      ((Itl K a).stop i H ∧ Qd H) ∨ ((Itl K a).go i H ∧ ∃ Nx : Hp → Prop, (∀ H', Nx H' → ∃ m', m' < m ∧ W (i + 1) m' H') ∧ ∀ x H', (Itl K a).yld i H x H' → gName v x (wipe σ [v]) H' fun σ2 H2 => wipe σ2 [v] = wipe σ [v] ∧ tYes σ2 H2 fun b H3 =>
        if b = true then te σ2 H3 fun y H4 => ∃ acc, H4 D = some (.lst acc) ∧ acc.length < sizeLine ∧ Nx (upd H4 D (.lst (acc ++ [y]))) else Nx H3) := by
  refine lc_list (K := K) (a := a) (xs := ns.map V.int) (fun i H' => Same H1 H' ∧ H' D = some (.lst (((ns.take i).map h).map V.int))) ⟨same_upd nD, upd_same⟩ (fun i H' _ p => sqL_same p.1 hT) (fun i x H' hx p => ?_) fun H' p => ?_
  · obtain ⟨k, g, rfl⟩ := map_at hx
    refine ⟨by simp [wipe, List.set_set], tt_yes (hte k (List.mem_of_getElem? g) H' _ p.1 fun H2 s2 => ⟨_, s2 _ _ p.2, ?_, fun b o z => ?_, ?_⟩)⟩
    · rw [List.length_map, List.length_map, List.length_take, sizeLine_eq]; omega
    · rw [upd_ne (ne_of_none z nD)]; exact s2 _ _ (p.1 b o z)
    · rw [upd_same, List.take_add_one, g, List.map_append, List.map_append]; rfl
  · rw [List.length_map, List.take_of_length_le (Nat.le_refl _)] at p
    exact hd H' p.1 p.2
/-- [h(i) for i in range(lo, lo + n)] -/
theorem lc_mapG {te : TE} {h : Int → Int} {σ : L2.St} {H1 : Hp} {D : Addr} {v n : Nat} {lo : Int} {Qd : Hp → Prop} (hl : n ≤ 100000) (nD : H1 D = none)
    (hte : ∀ i, i < n → ∀ (H' : Hp) (Q : VK), Same H1 H' → (∀ H2, Same H' H2 → Q (.int (h (lo + (i : Int)))) H2) → te ((wipe σ [v]).set v (some (.int (lo + (i : Int))))) H' Q)
    (hd : ∀ H', Same H1 H' → H' D = some (.lst (((List.range n).map fun (i : Nat) => h (lo + (i : Int))).map V.int)) → Qd H') :
    ∃ W : Nat → Nat → Hp → Prop, (∃ m, W 0 m (upd H1 D (.lst []))) ∧ ∀ i m H, W i m H →
      ((Itr lo n).stop i H ∧ Qd H) ∨ ((Itr lo n).go i H ∧ ∃ Nx : Hp → Prop, (∀ H', Nx H' → ∃ m', m' < m ∧ W (i + 1) m' H') ∧ ∀ x H', (Itr lo n).yld i H x H' → gName v x (wipe σ [v]) H' fun σ2 H2 => wipe σ2 [v] = wipe σ [v] ∧ tYes σ2 H2 fun b H3 =>
        if b = true then te σ2 H3 fun y H4 => ∃ acc, H4 D = some (.lst acc) ∧ acc.length < sizeLine ∧ Nx (upd H4 D (.lst (acc ++ [y]))) else Nx H3) := by
  refine lc_range (lo := lo) (n := n) (fun i H' => Same H1 H' ∧ H' D = some (.lst (((List.range i).map fun (i : Nat) => h (lo + (i : Int))).map V.int))) ⟨same_upd nD, upd_same⟩ (fun i H' hi p => ?_) fun H' p => hd H' p.1 p.2
  refine ⟨by simp [wipe, List.set_set], tt_yes (hte i hi H' _ p.1 fun H2 s2 => ⟨_, s2 _ _ p.2, ?_, fun b o z => ?_, ?_⟩)⟩
  · rw [List.length_map, List.length_map, List.length_range, sizeLine_eq]; omega
  · rw [upd_ne (ne_of_none z nD)]; exact s2 _ _ (p.1 b o z)
  · rw [upd_same, List.range_succ, List.map_append, List.map_append]; rfl
end RV
set_option maxHeartbeats 4000000
namespace RV
open PySem PySem.Spec PyProof.Rows L2 TL
/-- [.. for x in l], l a list of any values xs, which gives the values ys -/
theorem lc_mapV {K : PySem.W.Frag} {te : TE} {ys : List V} {σ : L2.St} {H1 : Hp} {a D : Addr} {v : Nat} {xs : List V} {Qd : Hp → Prop} (hT : SqL K H1 a xs) (hl : xs.length ≤ 100000) (hy : ys.length = xs.length) (nD : H1 D = none)
    (hte : ∀ (i : Nat) (x y : V), xs[i]? = some x → ys[i]? = some y → ∀ (H' : Hp) (Q : VK), Same H1 H' → (∀ H2, Same H' H2 → Q y H2) → te ((wipe σ [v]).set v (some x)) H' Q)
    (hd : ∀ H', Same H1 H' → H' D = some (.lst ys) → Qd H') :
    ∃ W : Nat → Nat → Hp → Prop, (∃ m, W 0 m (upd H1 D (.lst []))) ∧ ∀ i m H, W i m H →
      ((Itl K a).stop i H ∧ Qd H) ∨ ((Itl K a).go i H ∧ ∃ Nx : Hp → Prop, (∀ H', Nx H' → ∃ m', m' < m ∧ W (i + 1) m' H') ∧ ∀ x H', (Itl K a).yld i H x H' → gName v x (wipe σ [v]) H' fun σ2 H2 => wipe σ2 [v] = wipe σ [v] ∧ tYes σ2 H2 fun b H3 =>
        if b = true then te σ2 H3 fun y H4 => ∃ acc, H4 D = some (.lst acc) ∧ acc.length < sizeLine ∧ Nx (upd H4 D (.lst (acc ++ [y]))) else Nx H3) := by
  refine lc_list (K := K) (a := a) (xs := xs) (fun i H' => Same H1 H' ∧ H' D = some (.lst (ys.take i))) ⟨same_upd nD, upd_same⟩ (fun i H' _ p => sqL_same p.1 hT) (fun i x H' hx p => ?_) fun H' p => ?_
  · have hi : i < xs.length := (List.getElem?_eq_some_iff.mp hx).1
    obtain ⟨y, ey⟩ : ∃ y, ys[i]? = some y := ⟨_, List.getElem?_eq_getElem (by omega)⟩
    refine ⟨by simp [wipe, List.set_set], tt_yes (hte i x y hx ey H' _ p.1 fun H2 s2 => ⟨_, s2 _ _ p.2, ?_, fun b o z => ?_, ?_⟩)⟩
    · rw [List.length_take, sizeLine_eq]; omega
    · rw [upd_ne (ne_of_none z nD)]; exact s2 _ _ (p.1 b o z)
    · rw [upd_same, List.take_add_one, ey]; rfl
  · rw [← hy, List.take_of_length_le (Nat.le_refl _)] at p
    exact hd H' p.1 p.2
/-- [.. for sign in text], all true -/
theorem lc_signs {te : TE} {σ : L2.St} {H1 : Hp} {D : Addr} {v : Nat} {z : Str} {Qd : Hp → Prop} (hl : z.length ≤ 100000) (nD : H1 D = none)
    (hte : ∀ c ∈ tl z, ∀ (H' : Hp) (Q : VK), Same H1 H' → (∀ H2, Same H' H2 → Q (.bl true) H2) → te ((wipe σ [v]).set v (some (.str ⟨#[c]⟩))) H' Q)
    (hd : ∀ H', Same H1 H' → H' D = some (.lst (List.replicate z.length (V.bl true))) → Qd H') :
    ∃ W : Nat → Nat → Hp → Prop, (∃ m, W 0 m (upd H1 D (.lst []))) ∧ ∀ i m H, W i m H →
      ((Its z).stop i H ∧ Qd H) ∨ ((Its z).go i H ∧ ∃ Nx : Hp → Prop, (∀ H', Nx H' → ∃ m', m' < m ∧ W (i + 1) m' H') ∧ ∀ x H', (Its z).yld i H x H' → gName v x (wipe σ [v]) H' fun σ2 H2 => wipe σ2 [v] = wipe σ [v] ∧ tYes σ2 H2 fun b H3 =>
        if b = true then te σ2 H3 fun y H4 => ∃ acc, H4 D = some (.lst acc) ∧ acc.length < sizeLine ∧ Nx (upd H4 D (.lst (acc ++ [y]))) else Nx H3) := by
  have ez : z.cps.size = z.length := rfl
  refine ⟨fun i m H' => i ≤ z.length ∧ m = z.length - i ∧ Same H1 H' ∧ H' D = some (.lst (List.replicate i (V.bl true))), ⟨_, Nat.zero_le _, rfl, same_upd nD, upd_same⟩, fun i m H' p => ?_⟩
  obtain ⟨p1, p2, p3, p4⟩ := p
  by_cases e : i < z.length
  · refine Or.inr ⟨e, fun H' => i + 1 ≤ z.length ∧ Same H1 H' ∧ H' D = some (.lst (List.replicate (i + 1) (V.bl true))), fun H2 q => ⟨z.length - (i + 1), by omega, q.1, rfl, q.2⟩, fun x H2 y => ?_⟩
    obtain ⟨rfl, c, hc, rfl⟩ := y
    refine nx_step ?_
    refine ⟨by simp [wipe, List.set_set], tt_yes (hte c ?_ _ _ p3 fun H3 s3 => ⟨_, s3 _ _ p4, ?_, e, fun b o w => ?_, ?_⟩)⟩
    · exact List.mem_of_getElem? (by rw [Array.getElem?_toList]; exact hc)
    · rw [List.length_replicate, sizeLine_eq]; omega
    · rw [upd_ne (ne_of_none w nD)]; exact s3 _ _ (p3 b o w)
    · rw [upd_same, List.replicate_succ']
  · refine Or.inl ⟨by show z.cps.size ≤ i; rw [ez]; omega, hd H' p3 ?_⟩
    rw [show z.length = i by omega]
    exact p4
end RV
set_option maxHeartbeats 4000000
namespace K52
open PySem PySem.Spec PyProof.Rows L2 RV
/-! ### the text by places -/
def topS (i : Nat) : Stmt := PySem.Challenge.pw_ringvouch_k52_rings_plans_reasons_writte.main.body.getD i (.Pass ⟨0, 0, 0, 0⟩)
abbrev sShowM : Stmt := topS 2
abbrev sShowR : Stmt := topS 3
abbrev sShowP : Stmt := topS 4
abbrev sShowW : Stmt := topS 5
abbrev sWhole : Stmt := topS 10
abbrev sMark : Stmt := topS 11
abbrev sMarks : Stmt := topS 12
abbrev sNumIn : Stmt := topS 17
abbrev sNumsIn : Stmt := topS 18
abbrev sMarksIn : Stmt := topS 19
abbrev sReadRing : Stmt := topS 20
abbrev sRunIn : Stmt := topS 21
abbrev sReadPlan : Stmt := topS 22
abbrev sPail : Stmt := topS 24
abbrev sDraw : Stmt := topS 25
abbrev sOf : Stmt := topS 26
abbrev sLNumber : Stmt := topS 27
abbrev sLMarks : Stmt := topS 28
abbrev sLMText : Stmt := topS 29
abbrev sLRing : Stmt := topS 30
abbrev sLPlan : Stmt := topS 31
abbrev sLReason : Stmt := topS 32
abbrev sLaw : Stmt := topS 33
/-- a def of the text as the top has left it -/
structure DefAt (K : PySem.W.Frag) (mg : Str → Option Value) (x : Str) (st : Stmt) (ps : List Str) (f : Addr) (fd : FuncData) : Prop where
  fn : Fun K x x st f fd
  bi : Binds K fd ps []
  mg : mg x = some (.ref f)
/-- the names that are the interpreter's own -/
structure Bare (mg : Str → Option Value) : Prop where
  len : mg "len" = none
  isinstance : mg "isinstance" = none
  int : mg "int" = none
  bool : mg "bool" = none
  tuple : mg "tuple" = none
  all : mg "all" = none
  enumerate : mg "enumerate" = none
  zip : mg "zip" = none
  range : mg "range" = none
  list : mg "list" = none
  set : mg "set" = none
  sorted : mg "sorted" = none
  abs : mg "abs" = none
  max : mg "max" = none
  min : mg "min" = none
  repr : mg "repr" = none
  dict : mg "dict" = none
  any : mg "any" = none
  str : mg "str" = none
section
variable {P : Program} {w : World} {K : PySem.W.Frag} {mg : Str → Option Value} {base : Heap}
/-! ### is_whole -/
theorem scWhole : FnScope ["thing"] ["thing"] (defScope sWhole) := ⟨rfl, rfl, rfl, by decide +kernel, rfl, by decide +kernel, by decide +kernel⟩
def spWhole : Sp := fun vs H Q _ => ∃ i : Int, vs = [.int i] ∧ Q (.bl true) H
theorem ok_whole {f : Addr} {fd : FuncData} (F : Fun K "is_whole" "is_whole" sWhole f fd) (B : Bare mg) : FnOk P w K mg base CX0 1 f fd ["thing"] spWhole := by
  refine F.ok scWhole (fun vs H Q E h => ?_) (fun cdv A outer s H vs Q E hr h => ?_)
  · obtain ⟨i, rfl, _⟩ := h
    rfl
  · obtain ⟨i, rfl, q⟩ := h
    refine ⟨_, pss_one (ps_ret (pe_and (pe_callB call_isi (by rfl) B.isinstance (by decide +kernel) (pa_cons (pv 0) (pa_cons (pe_bltn (v := .ty "int") (by rfl) B.int boot_int rfl) pa_nil)))
      (pe_one (pe_not (pe_callB call_isi (by rfl) B.isinstance (by decide +kernel) (pa_cons (pv 0) (pa_cons (pe_bltn (v := .ty "bool") (by rfl) B.bool (by decide +kernel) rfl) pa_nil))))))), ?_⟩
    refine ⟨.int i, rfl, .int i, .ty "int", _, _, true, rfl, .ty "int", .base (.int i), kit_ty (by decide +kernel), true, rfl, iteT ?_⟩
    exact ⟨.int i, rfl, .int i, .ty "bool", _, _, false, rfl, .ty "bool", .base (.int i), kit_ty (by decide +kernel), false, rfl, q⟩
/-! ### is_below -/
theorem scMark : FnScope ["thing", "many"] ["thing", "many"] (defScope sMark) := ⟨rfl, rfl, rfl, by decide +kernel, rfl, by decide +kernel, by decide +kernel⟩
def spMark : Sp := fun vs H Q _ => ∃ i n : Int, vs = [.int i, .int n] ∧ 0 ≤ i ∧ i < n ∧ Q (.bl true) H
theorem ok_mark {f fW : Addr} {fd fdW : FuncData} (F : Fun K "is_below" "is_below" sMark f fd) (D : DefAt K mg "is_whole" sWhole ["thing"] fW fdW) (B : Bare mg) : FnOk P w K mg base CX0 2 f fd ["thing", "many"] spMark := by
  have GW : FnOk P w K mg base CX0 1 fW fdW ["thing"] spWhole := ok_whole D.fn B
  refine F.ok scMark (fun vs H Q E h => ?_) (fun cdv A outer s H vs Q E hr h => ?_)
  · obtain ⟨i, n, rfl, _⟩ := h
    rfl
  · obtain ⟨i, n, rfl, h1, h2, q⟩ := h
    refine ⟨_, pss_one (ps_ret (pe_and (pe_call GW hr (by rfl) D.mg D.fn.kp D.bi .nil pass0 (pa_cons (pv 0) pa_nil)) (pe_one (pe_chain op_le op_lt pe_int (pv 0) (pv 1))))), ?_⟩
    refine ⟨.int i, rfl, i, rfl, true, rfl, iteT ?_⟩
    refine ⟨.int i, rfl, 0, i, rfl, rfl, _, rfl, ?_⟩
    rw [decide_eq_true h1]
    refine iteT ⟨.int n, rfl, i, n, rfl, rfl, ?_⟩
    show Q (.bl (decide (i < n))) H
    rw [decide_eq_true h2]
    exact q
/-! ### are_marks -/
theorem scMarks : FnScope ["thing", "many", "mark"] ["thing", "many"] (defScope sMarks) := ⟨rfl, rfl, rfl, by decide +kernel, rfl, by decide +kernel, by decide +kernel⟩
def spMarks (K : PySem.W.Frag) : Sp := fun vs H Q _ => ∃ (a : Addr) (ns : List Int) (n : Int), vs = [.ref a, .int n] ∧ SqT K H a (ns.map V.int) ∧ 0 < ns.length ∧ ns.length ≤ 1000 ∧ (∀ i ∈ ns, 0 ≤ i ∧ i < n) ∧ ∀ H', Same H H' → Q (.bl true) H'
theorem ok_marks {f fM fW : Addr} {fd fdM fdW : FuncData} (F : Fun K "are_marks" "are_marks" sMarks f fd) (DM : DefAt K mg "is_below" sMark ["thing", "many"] fM fdM) (DW : DefAt K mg "is_whole" sWhole ["thing"] fW fdW) (B : Bare mg) :
    FnOk P w K mg base CX0 3 f fd ["thing", "many"] (spMarks K) := by
  have GM : FnOk P w K mg base CX0 2 fM fdM ["thing", "many"] spMark := ok_mark DM.fn DW B
  refine F.ok scMarks (fun vs H Q E h => ?_) (fun cdv A outer s H vs Q E hr h => ?_)
  · obtain ⟨a, ns, n, rfl, _⟩ := h
    rfl
  · obtain ⟨a, ns, n, rfl, hT, h0, hm, hin, q⟩ := h
    refine ⟨_, pss_one (ps_ret (pe_and (pe_callB call_isi (by rfl) B.isinstance (by decide +kernel) (pa_cons (pv 0) (pa_cons (pe_bltn (v := .ty "tuple") (by rfl) B.tuple (by decide +kernel) rfl) pa_nil)))
      (pe_and (pe_cmpR op_gt (pe_callB call_len_seq (by rfl) B.len PySem.boot_len (pa_cons (pv 0) pa_nil)) pe_int (nomark _))
      (pe_one (pe_callB (cr_all rfl) (by rfl) B.all (by decide +kernel) (pa_cons
        (pe_lc (own := [("mark", 2)]) (g := gName 2) (tt := tYes) rfl scMarks.nd (pi_tup (pv 0)) (blkOk_by (N := ["thing", "many", "mark"]) (sc := defScope sMarks) (by decide +kernel)) (fun _ _ _ _ _ => pg_name (i := 2) scMarks.nd rfl (Or.inl rfl)) (fun _ _ _ _ _ => pts_nil)
          (fun _ _ _ _ _ => pe_call GM hr (by rfl) DM.mg DM.fn.kp DM.bi .nil pass0 (pa_cons (pv 2) (pa_cons (pv 1) pa_nil)))) pa_nil)))))), ?_⟩
    refine ⟨.ref a, rfl, .ref a, .ty "tuple", _, _, true, rfl, .ty "tuple", tyT hT, kit_ty (by decide +kernel), true, rfl, iteT ?_⟩
    refine ⟨.ref a, rfl, a, _, rfl, .inr hT, _, _, rfl, rfl, decide (((ns.map V.int).length : Int) > 0), rfl, ?_⟩
    rw [decide_eq_true (show ((ns.map V.int).length : Int) > 0 by rw [List.length_map]; omega)]
    refine iteT ⟨.ref a, rfl, a, rfl, ⟨_, hT⟩, fun D nD => ?_⟩
    refine lc_tup (K := K) (a := a) (xs := ns.map V.int) (fun i H' => Same H H' ∧ H' D = some (.lst (List.replicate i (V.bl true)))) ⟨same_upd nD, upd_same⟩ (fun i H' _ p => sqT_same p.1 hT) (fun i x H' hx p => ?_) fun H' p => ?_
    · obtain ⟨m, hm', rfl⟩ := map_at hx
      have hi : i < ns.length := (List.getElem?_eq_some_iff.mp hm').1
      have hr' := hin m (List.mem_of_getElem? hm')
      refine ⟨rfl, tt_yes ⟨.int m, rfl, .int n, rfl, m, n, rfl, hr'.1, hr'.2, _, p.2, ?_, ?_, ?_⟩⟩
      · rw [List.length_replicate]; exact few1 (by omega)
      · exact fun b o e => by rw [upd_ne (ne_of_none e nD)]; exact p.1 b o e
      · rw [upd_same, rep_next]
    · rw [List.length_map, rep_bl] at p
      refine ⟨D, _, rfl, lstNew p.2, ?_⟩
      rw [all_true]
      exact q H' p.1
end
end K52
set_option maxHeartbeats 4000000
namespace K52
open PySem PySem.Spec PyProof.Rows L2 RV
/-- a pail of numbers stands at p, t have been mixed -/
def PailAt (H : Hp) (p : Addr) (t : Nat) : Prop := ∃ x y : Int, H p = some (.lst [.int x, .int y, .int (t : Int)]) ∧ 0 ≤ x ∧ 0 ≤ y ∧ y < 2147483629
/-- all stands but what is at p -/
def But (p : Addr) (H H' : Hp) : Prop := ∀ c o, H c = some o → c ≠ p → H' c = some o
theorem But.refl (p : Addr) (H : Hp) : But p H H := fun _ _ e _ => e
theorem But.trans {p : Addr} {H H1 H2 : Hp} (a : But p H H1) (b : But p H1 H2) : But p H H2 := fun c o e z => b c o (a c o e z) z
theorem But.of {p : Addr} {H H' : Hp} (s : Same H H') : But p H H' := fun c o e _ => s c o e
section
variable {P : Program} {w : World} {K : PySem.W.Frag} {mg : Str → Option Value} {base : Heap}
/-! ### _law_pail -/
theorem scPail : FnScope ["_law_script", "_law_at", "_law_cell", "_law_own"] ["_law_script", "_law_at"] (defScope sPail) := ⟨rfl, rfl, rfl, by decide +kernel, rfl, by decide +kernel, by decide +kernel⟩
def spPail (K : PySem.W.Frag) : Sp := fun vs H Q _ => ∃ (a : Addr) (ns : List Int) (k : Nat), vs = [.ref a, .int (k : Int)] ∧ SqL K H a (ns.map V.int) ∧ k < 64 ∧ ∀ H' p, Same H H' → H p = none → PailAt H' p 0 → Q (.ref p) H'
theorem flag01 (b : Bool) : -(2 ^ 64) < (if b = true then (1 : Int) else 0) ∧ (if b = true then (1 : Int) else 0) < 2 ^ 64 := by cases b <;> decide
theorem mul_flag {x : Int} (h : 0 ≤ x) (b : Bool) : 0 ≤ x * (if b = true then (1 : Int) else 0) := by
  cases b
  · show 0 ≤ x * 0
    rw [Int.mul_zero]; exact Int.le_refl _
  · show 0 ≤ x * 1
    rw [Int.mul_one]; exact h
theorem pow60 : ((10 : Int) ^ (60 : Int).toNat).natAbs < 2 ^ 200 := by decide +kernel
theorem pow120 : ((10 : Int) ^ (60 : Int).toNat * (10 : Int) ^ (60 : Int).toNat).natAbs < 2 ^ 400 := by decide +kernel
theorem pow180 : (0 : Int) < (10 : Int) ^ (60 : Int).toNat * (10 : Int) ^ (60 : Int).toNat * (10 : Int) ^ (60 : Int).toNat := by decide +kernel
theorem ok_pail {f : Addr} {fd : FuncData} (F : Fun K "_law_pail" "_law_pail" sPail f fd) (B : Bare mg) : FnOk P w K mg base CX0 1 f fd ["_law_script", "_law_at"] (spPail K) := by
  refine F.ok scPail (fun vs H Q E h => ?_) (fun cdv A outer s H vs Q E hr h => ?_)
  · obtain ⟨a, ns, k, rfl, _⟩ := h
    rfl
  · obtain ⟨a, ns, k, rfl, hS, hk, q⟩ := h
    refine ⟨_, pss_cons (ps_set (i := 2) scPail.nd rfl (Or.inl rfl) (pe_ifExp (pt_cmpR op_lt (pv 1) (pe_callB call_len_seq (by rfl) B.len PySem.boot_len (pa_cons (pv 0) pa_nil)) (nomark _)) (pe_ix ix_list (pv 0) (pv 1) (fun _ _ => rfl)) (pe_op op_add (pe_op op_mul pe_int (pv 1)) pe_int)))
      (pss_cons (ps_set (i := 3) scPail.nd rfl (Or.inl rfl) (pe_op op_mod (pe_callB call_abs (by rfl) B.abs (by decide +kernel) (pa_cons (pv 2) pa_nil)) (pe_op op_mulW (pe_op op_mulW (pe_op op_pow pe_int pe_int) (pe_op op_pow pe_int pe_int)) (pe_op op_pow pe_int pe_int))))
      (pss_one (ps_ret (pe_lst (pa_cons (pe_op op_mul (pv 3) (pe_callTy call_int1 (by rfl) B.int boot_int (pa_cons (pe_cmpR op_ge (pe_callB call_abs (by rfl) B.abs (by decide +kernel) (pa_cons (pv 2) pa_nil)) (pe_op op_pow pe_int pe_int) (nomark _)) pa_nil)))
        (pa_cons (pe_op op_mod (pe_op op_mul (pe_op op_add (pe_op op_add (pe_op op_mod (pv 2) pe_int) (pe_op op_mul pe_int (pv 1))) pe_int) pe_int) pe_int) (pa_cons pe_int pa_nil))))))), ?_⟩
    refine ⟨.int (k : Int), rfl, .ref a, rfl, a, _, rfl, .inl hS, (k : Int), _, rfl, rfl, _, rfl, ?_⟩
    refine ite2 (fun hlt => ?_) (fun _ => ?_)
    · have hkl : k < ns.length := by
        have z := of_decide_eq_true hlt
        rw [List.length_map] at z; omega
      refine ⟨.ref a, rfl, .int (k : Int), rfl, a, _, (k : Int), .int ns[k], rfl, rfl, hS, atI_nat (by rw [List.getElem?_map, List.getElem?_eq_getElem hkl]; rfl), ?_⟩
      refine ⟨_, rfl, ns[k], rfl, 10, 60, rfl, rfl, ⟨by decide, by decide, by decide⟩, 10, 60, rfl, rfl, ⟨by decide, by decide, by decide⟩, _, _, rfl, rfl, wide_mul pow60 pow60 (by decide) (by decide) (by decide), 10, 60, rfl, rfl, ⟨by decide, by decide, by decide⟩, _, _, rfl, rfl, wide_mul pow120 pow60 (by decide) (by decide) (by decide), _, _, rfl, rfl, pow180, ?_⟩
      have own0 := Int.emod_nonneg (if ns[k] < 0 then -ns[k] else ns[k]) (Int.ne_of_gt pow180)
      refine ⟨_, rfl, _, rfl, ns[k], rfl, 10, 18, rfl, rfl, ⟨by decide, by decide, by decide⟩, _, _, rfl, rfl, .inr ⟨_, rfl, _, _, rfl, rfl, .inr ?_, _, rfl, ns[k], 2305843009213693951, rfl, rfl, (show (0 : Int) < 2305843009213693951 by decide), .int (k : Int), rfl, 7877, (k : Int), rfl, rfl, .inl ⟨by decide, by decide⟩, _, _, rfl, rfl, _, 29, rfl, rfl, _, 39373, rfl, rfl, .inr ⟨by decide, by decide⟩, _, 2147483629, rfl, rfl, (show (0 : Int) < 2147483629 by decide), ?_, fun p np => ?_⟩⟩
      · exact flag01 _
      · show 3 ≤ sizeLine; decide
      · refine q _ p (same_upd np) np ⟨_, _, upd_same, ?_, Int.emod_nonneg _ (by decide), Int.emod_lt_of_pos _ (by decide)⟩
        exact mul_flag own0 _
    · refine ⟨.int (k : Int), rfl, 11, (k : Int), rfl, rfl, .inl ⟨by decide, by decide⟩, _, 5, rfl, rfl, ?_⟩
      refine ⟨_, rfl, (11 * (k : Int) + 5), rfl, 10, 60, rfl, rfl, ⟨by decide, by decide, by decide⟩, 10, 60, rfl, rfl, ⟨by decide, by decide, by decide⟩, _, _, rfl, rfl, wide_mul pow60 pow60 (by decide) (by decide) (by decide), 10, 60, rfl, rfl, ⟨by decide, by decide, by decide⟩, _, _, rfl, rfl, wide_mul pow120 pow60 (by decide) (by decide) (by decide), _, _, rfl, rfl, pow180, ?_⟩
      have own0 := Int.emod_nonneg (if (11 * (k : Int) + 5) < 0 then -(11 * (k : Int) + 5) else (11 * (k : Int) + 5)) (Int.ne_of_gt pow180)
      refine ⟨_, rfl, _, rfl, (11 * (k : Int) + 5), rfl, 10, 18, rfl, rfl, ⟨by decide, by decide, by decide⟩, _, _, rfl, rfl, .inr ⟨_, rfl, _, _, rfl, rfl, .inr ?_, _, rfl, (11 * (k : Int) + 5), 2305843009213693951, rfl, rfl, (show (0 : Int) < 2305843009213693951 by decide), .int (k : Int), rfl, 7877, (k : Int), rfl, rfl, .inl ⟨by decide, by decide⟩, _, _, rfl, rfl, _, 29, rfl, rfl, _, 39373, rfl, rfl, .inr ⟨by decide, by decide⟩, _, 2147483629, rfl, rfl, (show (0 : Int) < 2147483629 by decide), ?_, fun p np => ?_⟩⟩
      · exact flag01 _
      · show 3 ≤ sizeLine; decide
      · refine q _ p (same_upd np) np ⟨_, _, upd_same, ?_, Int.emod_nonneg _ (by decide), Int.emod_lt_of_pos _ (by decide)⟩
        exact mul_flag own0 _
end
end K52
set_option maxHeartbeats 4000000
namespace K52
open PySem PySem.Spec PyProof.Rows L2 RV
section
variable {P : Program} {w : World} {K : PySem.W.Frag} {mg : Str → Option Value} {base : Heap}
/-! ### _law_draw -/
theorem scDraw : FnScope ["_law_pail_here", "_law_many", "_law_told", "_law_turn", "_law_prime", "_law_mixed"] ["_law_pail_here", "_law_many"] (defScope sDraw) := ⟨rfl, rfl, rfl, by decide +kernel, rfl, by decide +kernel, by decide +kernel⟩
def spDraw : Sp := fun vs H Q _ => ∃ (p : Addr) (t : Nat) (m : Int), vs = [.ref p, .int m] ∧ PailAt H p t ∧ t ≤ 2000 ∧ 1 ≤ m ∧ m ≤ 1000000000 ∧
  ∀ (r : Int) (t' : Nat) (H' : Hp), 0 ≤ r → r < m → t' ≤ t + 1 → PailAt H' p t' → But p H H' → Q (.int r) H'
theorem primes_at (t : Int) (h : 0 ≤ t) : ∃ v : Int, atI [V.int 2147483587, V.int 2147483579, V.int 2147483563, V.int 2147483549, V.int 2147483543] (t % 5) = some (.int v) ∧ 0 < v ∧ v < 2147483648 := by
  have h5 : t % 5 = 0 ∨ t % 5 = 1 ∨ t % 5 = 2 ∨ t % 5 = 3 ∨ t % 5 = 4 := by omega
  rcases h5 with e | e | e | e | e <;> rw [e] <;> exact ⟨_, rfl, by decide, by decide⟩
theorem ix3 (j : Nat) (h : j < 3) : ixN 3 (j : Int) = some j := by
  rcases (show j = 0 ∨ j = 1 ∨ j = 2 by omega) with e | e | e <;> subst e <;> rfl
theorem ok_draw {f : Addr} {fd : FuncData} (F : Fun K "_law_draw" "_law_draw" sDraw f fd) : FnOk P w K mg base CX0 1 f fd ["_law_pail_here", "_law_many"] spDraw := by
  refine F.ok scDraw (fun vs H Q E h => ?_) (fun cdv A outer s H vs Q E hr h => ?_)
  · obtain ⟨p, t, m, rfl, _⟩ := h
    rfl
  · obtain ⟨p, t, m, rfl, ⟨x, y, hp, hx, hy0, hy1⟩, ht, hm1, hm2, q⟩ := h
    refine ⟨_, pss_cons (ps_if (pt_cmpR op_gt (pe_ix ix_list (pv 0) pe_int (fun _ _ => rfl)) pe_int (nomark _))
        (pss_cons (ps_set (i := 2) scDraw.nd rfl (Or.inl rfl) (pe_op op_mod (pe_ix ix_list (pv 0) pe_int (fun _ _ => rfl)) (pv 1)))
        (pss_cons (ps_asg (pe_op op_fdiv (pe_ix ix_list (pv 0) pe_int (fun _ _ => rfl)) (pv 1)) (pg_sub (pv 0) pe_int set_list))
        (pss_one (ps_ret (pv 2))))) pss_nil)
      (pss_cons (ps_asg (pe_op op_add (pe_ix ix_list (pv 0) pe_int (fun _ _ => rfl)) pe_int) (pg_sub (pv 0) pe_int set_list))
      (pss_cons (ps_set (i := 3) scDraw.nd rfl (Or.inl rfl) (pe_ix ix_list (pv 0) pe_int (fun _ _ => rfl)))
      (pss_cons (ps_set (i := 4) scDraw.nd rfl (Or.inl rfl) (pe_ix ix_list (pe_lst (pa_cons pe_int (pa_cons pe_int (pa_cons pe_int (pa_cons pe_int (pa_cons pe_int pa_nil)))))) (pe_op op_mod (pv 3) pe_int) (fun _ _ => rfl)))
      (pss_cons (ps_set (i := 5) scDraw.nd rfl (Or.inl rfl) (pe_op op_mod (pe_op op_pow (pe_op op_add (pe_op op_add (pe_ix ix_list (pv 0) pe_int (fun _ _ => rfl)) (pe_op op_mul (pe_op op_mul pe_int (pv 3)) (pv 3))) (pe_op op_mul pe_int (pv 3))) pe_int) (pv 4)))
      (pss_one (ps_ret (pe_op op_mod (pe_op op_fdiv (pe_op op_mod (pe_op op_mul (pv 5) (pe_op op_add (pe_op op_add (pe_op op_mod (pv 5) pe_int) (pv 3)) pe_int)) (pv 4)) pe_int) (pv 1)))))))), ?_⟩
    refine ⟨.ref p, rfl, p, _, 0, .int x, rfl, rfl, lstNew hp, rfl, x, 0, rfl, rfl, _, rfl, ite2 (fun hx0 => ?_) (fun _ => ?_)⟩
    · refine ⟨.ref p, rfl, p, _, 0, .int x, rfl, rfl, lstNew hp, rfl, .int m, rfl, x, m, rfl, rfl, (show 0 < m by omega), ?_⟩
      refine ⟨.ref p, rfl, p, _, 0, .int x, rfl, rfl, lstNew hp, rfl, .int m, rfl, x, m, rfl, rfl, ⟨by omega, by omega⟩, .ref p, rfl, p, _, 0, 0, rfl, rfl, hp, rfl, ?_⟩
      refine ⟨_, rfl, ?_⟩
      exact q (x % m) t _ (Int.emod_nonneg _ (by omega)) (Int.emod_lt_of_pos _ (by omega)) (by omega) ⟨x / m, y, upd_same, Int.ediv_nonneg hx (by omega), hy0, hy1⟩ fun c o e z => by rw [upd_ne z]; exact e
    · refine ⟨.ref p, rfl, p, _, 2, .int (t : Int), rfl, rfl, lstNew hp, rfl, (t : Int), 1, rfl, rfl, .ref p, rfl, p, _, 2, 2, rfl, rfl, hp, rfl, ?_⟩
      have hp1 : (upd H p (.lst [.int x, .int y, .int ((t : Int) + 1)])) p = some (.lst [.int x, .int y, .int ((t : Int) + 1)]) := upd_same
      have b1 : But p H (upd H p (.lst [.int x, .int y, .int ((t : Int) + 1)])) := fun c o e z => by rw [upd_ne z]; exact e
      refine ⟨.ref p, rfl, p, _, 2, .int ((t : Int) + 1), rfl, rfl, lstNew upd_same, rfl, ?_⟩
      obtain ⟨v, hv, v0, v1⟩ := primes_at ((t : Int) + 1) (by omega)
      refine ⟨(by show 5 ≤ sizeLine; decide), fun l nl => ⟨.int ((t : Int) + 1), rfl, (t : Int) + 1, 5, rfl, rfl, (show (0 : Int) < 5 by decide), l, _, _, .int v, rfl, rfl, lstNew upd_same, hv, ?_⟩⟩
      have s2 := same_upd (H := upd H p (.lst [.int x, .int y, .int ((t : Int) + 1)])) (o := .lst [.int 2147483587, .int 2147483579, .int 2147483563, .int 2147483549, .int 2147483543]) nl
      have hp2 := s2 _ _ hp1
      have tt : 0 ≤ ((t : Int) + 1) ∧ ((t : Int) + 1) ≤ 2001 := by omega
      have sq : 6151 * ((t : Int) + 1) * ((t : Int) + 1) ≤ 6151 * 2001 * 2001 := by
        have h1 : 6151 * ((t : Int) + 1) ≤ 6151 * 2001 := by omega
        exact Int.mul_le_mul h1 tt.2 tt.1 (by decide)
      have sq0 : 0 ≤ 6151 * ((t : Int) + 1) * ((t : Int) + 1) := Int.mul_nonneg (by omega) tt.1
      refine ⟨.ref p, rfl, p, _, 1, .int y, rfl, rfl, lstNew hp2, rfl, .int ((t : Int) + 1), rfl, 6151, _, rfl, rfl, .inl ⟨by decide, by decide⟩, .int ((t : Int) + 1), rfl, _, _, rfl, rfl, .inl ⟨by omega, by omega⟩, y, _, rfl, rfl, .int ((t : Int) + 1), rfl, 17, _, rfl, rfl, .inl ⟨by decide, by decide⟩, _, _, rfl, rfl, _, 3, rfl, rfl, ⟨by decide, by decide, ?_⟩, .int v, rfl, _, v, rfl, rfl, v0, ?_⟩
      · show (y + 6151 * ((t : Int) + 1) * ((t : Int) + 1) + 17 * ((t : Int) + 1)).natAbs < 2 ^ 64
        omega
      have z0 := Int.emod_nonneg ((y + 6151 * ((t : Int) + 1) * ((t : Int) + 1) + 17 * ((t : Int) + 1)) ^ (3 : Int).toNat) (show v ≠ 0 by omega)
      have z1 := Int.emod_lt_of_pos ((y + 6151 * ((t : Int) + 1) * ((t : Int) + 1) + 17 * ((t : Int) + 1)) ^ (3 : Int).toNat) v0
      refine ⟨_, rfl, _, rfl, _, 1009, rfl, rfl, (show (0 : Int) < 1009 by decide), .int ((t : Int) + 1), rfl, _, _, rfl, rfl, _, 1, rfl, rfl, _, _, rfl, rfl, .inl ?_, .int v, rfl, _, v, rfl, rfl, v0, _, 19, rfl, rfl, ⟨by decide, by decide⟩, .int m, rfl, _, m, rfl, rfl, (show 0 < m by omega), ?_⟩
      · exact ⟨by omega, by omega⟩
      · exact q _ (t + 1) _ (Int.emod_nonneg _ (by omega)) (Int.emod_lt_of_pos _ (by omega)) (Nat.le_refl _) ⟨x, y, hp2, hx, hy0, hy1⟩ (b1.trans (But.of s2))
end
end K52
set_option maxHeartbeats 4000000
namespace K52
open PySem PySem.Spec PyProof.Rows L2 RV
/-! ### what a draw leaves -/
theorem sqT_pail {K : PySem.W.Frag} {H H' : Hp} {p : Addr} {t : Nat} (hp : PailAt H p t) (b : But p H H') {a : Addr} {xs : List V} (h : SqT K H a xs) : SqT K H' a xs := by
  obtain ⟨x, y, e, _⟩ := hp
  rcases h with (h | ⟨o, h⟩) | h
  · exact .inl (.inl (b _ _ h fun z => by rw [z, e] at h; cases h))
  · exact .inl (.inr ⟨o, b _ _ h fun z => by rw [z, e] at h; cases h⟩)
  · exact .inr h
theorem sqL_but {K : PySem.W.Frag} {H H' : Hp} {p a : Addr} (b : But p H H') (n : a ≠ p) {xs : List V} (h : SqL K H a xs) : SqL K H' a xs := by
  rcases h with (h | ⟨o, h⟩) | h
  · exact .inl (.inl (b _ _ h n))
  · exact .inl (.inr ⟨o, b _ _ h n⟩)
  · exact .inr h
theorem tups_pail {K : PySem.W.Frag} {H H' : Hp} {p : Addr} {t : Nat} (hp : PailAt H p t) (b : But p H H') {a : Addr} {ps : List (List Int)} (h : Tups K H a ps) : Tups K H' a ps := by
  obtain ⟨ks, h1, h2, h3⟩ := h
  exact ⟨ks, h1, sqT_pail hp b h2, fun q hq => sqT_pail hp b (h3 q hq)⟩
theorem same_but {p : Addr} {H H1 H2 : Hp} (s : Same H H1) (n : H p = none) (b : But p H1 H2) : Same H H2 := fun c o e => b c o (s c o e) (ne_of_none e n)
theorem pail_same {p : Addr} {H H' : Hp} {t : Nat} (h : PailAt H p t) (s : Same H H') : PailAt H' p t := by
  obtain ⟨x, y, e, r⟩ := h
  exact ⟨x, y, s _ _ e, r⟩
theorem pail_new {p a : Addr} {H : Hp} {o : HO} {t : Nat} (h : PailAt H p t) (n : H a = none) : PailAt (upd H a o) p t := pail_same h (same_upd n)
theorem pail_set {p l : Addr} {H : Hp} {o : HO} {t : Nat} (h : PailAt H p t) (n : l ≠ p) : PailAt (upd H l o) p t := by
  obtain ⟨x, y, e, r⟩ := h
  exact ⟨x, y, by rw [upd_ne n.symm]; exact e, r⟩
theorem pail_ne {p a : Addr} {H : Hp} {t : Nat} (h : PailAt H p t) (n : H a = none) : a ≠ p := by
  obtain ⟨x, y, e, r⟩ := h
  exact (ne_of_none e n).symm
section
variable {P : Program} {w : World} {K : PySem.W.Frag} {mg : Str → Option Value} {base : Heap}
/-! ### _law_of -/
theorem scOf : FnScope ["_law_pail_here", "_law_some"] ["_law_pail_here", "_law_some"] (defScope sOf) := ⟨rfl, rfl, rfl, by decide +kernel, rfl, by decide +kernel, by decide +kernel⟩
def spOf (K : PySem.W.Frag) : Sp := fun vs H Q _ => ∃ (p a : Addr) (t : Nat) (xs : List V), vs = [.ref p, .ref a] ∧ PailAt H p t ∧ t ≤ 2000 ∧ SqL K H a xs ∧ a ≠ p ∧ 0 < xs.length ∧ xs.length ≤ 1000 ∧
  ∀ (j : Nat) (v : V) (t' : Nat) (H' : Hp), xs[j]? = some v → t' ≤ t + 1 → PailAt H' p t' → But p H H' → Q v H'
theorem ok_of {f fD : Addr} {fd fdD : FuncData} (F : Fun K "_law_of" "_law_of" sOf f fd) (DD : DefAt K mg "_law_draw" sDraw ["_law_pail_here", "_law_many"] fD fdD) (B : Bare mg) : FnOk P w K mg base CX0 2 f fd ["_law_pail_here", "_law_some"] (spOf K) := by
  have GD : FnOk P w K mg base CX0 1 fD fdD ["_law_pail_here", "_law_many"] spDraw := ok_draw DD.fn
  refine F.ok scOf (fun vs H Q E h => ?_) (fun cdv A outer s H vs Q E hr h => ?_)
  · obtain ⟨p, a, t, xs, rfl, _⟩ := h
    rfl
  · obtain ⟨p, a, t, xs, rfl, hp, ht, hS, hne, h0, h1, q⟩ := h
    refine ⟨_, pss_one (ps_ret (pe_ix ix_list (pv 1) (pe_call GD hr (by rfl) DD.mg DD.fn.kp DD.bi .nil pass0 (pa_cons (pv 0) (pa_cons (pe_callB call_len_seq (by rfl) B.len PySem.boot_len (pa_cons (pv 1) pa_nil)) pa_nil))) (fun _ _ => rfl))), ?_⟩
    refine ⟨.ref a, rfl, .ref p, rfl, .ref a, rfl, a, xs, rfl, .inl hS, p, t, (xs.length : Int), rfl, hp, ht, by omega, by omega, fun r t1 H1 r0 r1 ht1 hp1 b1 => ?_⟩
    obtain ⟨v, hv⟩ : ∃ v, xs[r.toNat]? = some v := ⟨_, List.getElem?_eq_getElem (by omega)⟩
    refine ⟨a, xs, r, v, rfl, rfl, sqL_but b1 hne hS, ?_, q r.toNat v t1 H1 hv ht1 hp1 b1⟩
    rw [show r = ((r.toNat : Nat) : Int) by omega]
    exact atI_nat hv
end
end K52
set_option maxHeartbeats 4000000
namespace K52
open PySem PySem.Spec PyProof.Rows L2 RV TL
def sFig : Str := Str.ofString "0123456789"
theorem atI_0 {α : Type} {c : α} {r : List α} : atI (c :: r) 0 = some c := atI_nat (xs := c :: r) (j := 0) rfl
section
variable {P : Program} {w : World} {K : PySem.W.Frag} {mg : Str → Option Value} {base : Heap} {t1 t2 : Tok}
/-! ### number_in -/
theorem scNI : FnScope ["word", "sign"] ["word"] (defScope sNumIn) := ⟨rfl, rfl, rfl, by decide +kernel, rfl, by decide +kernel, by decide +kernel⟩
def spNI : Sp := fun vs H Q _ => ∃ n : Nat, vs = [.str (num n)] ∧ n < 10 ^ 30 ∧ ∀ H', Same H H' → Q (.int (n : Int)) H'
theorem ok_ni {f : Addr} {fd : FuncData} (F : Fun K "number_in" "number_in" sNumIn f fd) (B : Bare mg) (mS : mg "FIGURES" = some (.str sFig t1)) (mF : mg "MOST_FIGURES" = some (.int 30 t2)) : FnOk P w K mg base CX0 1 f fd ["word"] spNI := by
  refine F.ok scNI (fun vs H Q E h => ?_) (fun cdv A outer s H vs Q E hr h => ?_)
  · obtain ⟨n, rfl, _⟩ := h
    rfl
  · obtain ⟨n, rfl, hn, q⟩ := h
    refine ⟨_, pss_cons (ps_if (PW.pt (pw_or (pt_not (pt_chain op_lt op_le pe_int (pe_callB call_len_str (by rfl) B.len PySem.boot_len (pa_cons (pv 0) pa_nil)) (pe_glob (v := .int 30) rfl mF ⟨_, rfl⟩)))
        (pw_or1 (pt_not (pt_val (pe_callB (cr_all rfl) (by rfl) B.all (by decide +kernel) (pa_cons (pe_lc (own := [("sign", 1)]) (g := gName 1) (tt := tYes) rfl scNI.nd (pi_str (pv 0)) (blkOk_by (N := ["word", "sign"]) (sc := defScope sNumIn) (by decide +kernel)) (fun _ _ _ _ _ => pg_name (i := 1) scNI.nd rfl (Or.inl rfl)) (fun _ _ _ _ _ => pts_nil)
          (fun _ _ _ _ _ => pe_cmpR op_in_sign (pv 1) (pe_glob (v := .str sFig) rfl mS ⟨_, rfl⟩) (by rfl))) pa_nil))))))) (pss_one (ps_ret pe_non)) pss_nil)
      (pss_cons (ps_if (PW.pt (pw_and (pt_cmpR op_gt (pe_callB call_len_str (by rfl) B.len PySem.boot_len (pa_cons (pv 0) pa_nil)) pe_int (nomark _)) (pw_and1 (pt_cmpR op_eq (pe_ix ix_str (pv 0) pe_int (fun _ _ => rfl)) pe_str (nomark _))))) (pss_one (ps_ret pe_non)) pss_nil)
      (pss_one (ps_ret (pe_callTy call_int_str (by rfl) B.int (by decide +kernel) (pa_cons (pv 0) pa_nil))))), ?_⟩
    have hl := num_len hn
    have h0 := num_pos n
    refine ⟨.str (num n), rfl, num n, rfl, by rw [sizeLine_eq]; omega, 0, _, rfl, rfl, _, rfl, ?_⟩
    rw [decide_eq_true (show (0 : Int) < ((num n).length : Int) by omega)]
    refine iteT ⟨_, _, rfl, rfl, decide (((num n).length : Int) ≤ 30), rfl, ?_⟩
    rw [decide_eq_true (show ((num n).length : Int) ≤ 30 by omega)]
    refine iteF ⟨.str (num n), rfl, num n, rfl, fun D nD => lc_signs (by omega) nD (fun c hc H' Q' s1 q1 => ?_) fun H1 s1 e1 => ?_⟩
    · exact ⟨_, rfl, c, sFig, rfl, rfl, by rw [show decide (c ∈ sFig.cps.toList) = true from decide_eq_true (num_sign hc)]; exact q1 H' (Same.refl H')⟩
    refine ⟨D, List.replicate (num n).length true, rfl, lstNew (by rw [e1, rep_bl]), ?_⟩
    rw [all_true]
    refine ⟨true, rfl, iteF ?_⟩
    unfold tNext
    dsimp only
    refine ⟨.str (num n), rfl, num n, rfl, by rw [sizeLine_eq]; omega, _, 1, rfl, rfl, decide (((num n).length : Int) > 1), rfl, ?_⟩
    have last : Q (.int (n : Int)) H1 := q H1 s1
    by_cases e : 1 < (num n).length
    · rw [decide_eq_true (show ((num n).length : Int) > 1 by omega)]
      obtain ⟨c, r, e2, e3⟩ := numL_head n (by have := num_two e; omega)
      refine iteT ⟨.str (num n), rfl, num n, 0, c, rfl, rfl, by rw [sizeLine_eq]; omega, ?_, rfl, false, ?_, iteF ?_⟩
      · have : tl (num n) = c :: r := by rw [tl_nm, e2]
        show atI (tl (num n)) 0 = some c
        rw [this]; exact atI_0
      · refine congrArg V.bl (decide_eq_false fun z => e3 ?_)
        have z1 : tl (⟨#[c]⟩ : Str) = tl (Str.ofString "0") := by
          have := V.str.inj z
          rw [this]
        rw [tl_ofString] at z1
        exact (List.cons.inj z1).1
      · exact ⟨.str (num n), rfl, num n, (n : Int), rfl, num_int hn, by omega, last⟩
    · rw [decide_eq_false (show ¬ ((num n).length : Int) > 1 by omega)]
      refine iteF (iteF ?_)
      exact ⟨.str (num n), rfl, num n, (n : Int), rfl, num_int hn, by omega, last⟩
/-! ### numbers_in -/
theorem scNs : FnScope ["words", "numbers", "word", "number"] ["words"] (defScope sNumsIn) := ⟨rfl, rfl, rfl, by decide +kernel, rfl, by decide +kernel, by decide +kernel⟩
def spNs (K : PySem.W.Frag) : Sp := fun vs H Q _ => ∃ (a : Addr) (ns : List Nat), vs = [.ref a] ∧ SqL K H a (ns.map fun n => V.str (num n)) ∧ ns.length ≤ 1000 ∧ (∀ n ∈ ns, n < 10 ^ 30) ∧ ∀ (b : Addr) H', Same H H' → SqT K H' b ((ns.map fun (n : Nat) => (n : Int)).map V.int) → Q (.ref b) H'
theorem ok_ns {f fN : Addr} {fd fdN : FuncData} (F : Fun K "numbers_in" "numbers_in" sNumsIn f fd) (DN : DefAt K mg "number_in" sNumIn ["word"] fN fdN) (B : Bare mg) (mS : mg "FIGURES" = some (.str sFig t1)) (mF : mg "MOST_FIGURES" = some (.int 30 t2)) : FnOk P w K mg base CX0 2 f fd ["words"] (spNs K) := by
  have GN : FnOk P w K mg base CX0 1 fN fdN ["word"] spNI := ok_ni DN.fn B mS mF
  refine F.ok scNs (fun vs H Q E h => ?_) (fun cdv A outer s H vs Q E hr h => ?_)
  · obtain ⟨a, ns, rfl, _⟩ := h
    rfl
  · obtain ⟨a, ns, rfl, hS, hl, hn, q⟩ := h
    refine ⟨_, pss_cons (ps_setLc (i := 1) (own := [("word", 2)]) (g := gName 2) (tt := tYes) rfl scNs.nd rfl rfl (by rfl) (pi_list (pv 0)) (blkOk_by (N := ["words", "numbers", "word", "number"]) (sc := defScope sNumsIn) (by decide +kernel)) (fun _ _ _ _ _ => pg_name (i := 2) scNs.nd rfl (Or.inl rfl)) (fun _ _ _ _ _ => pts_nil)
          (fun _ _ _ _ _ => pe_call GN hr (by rfl) DN.mg DN.fn.kp DN.bi .nil pass0 (pa_cons (pv 2) pa_nil)))
      (pss_cons (ps_if (pt_val (pe_callB (cr_any rfl) (by rfl) B.any (by decide +kernel) (pa_cons (pe_lc (own := [("number", 3)]) (g := gName 3) (tt := tYes) rfl scNs.nd (pi_list (pv 1)) (blkOk_by (N := ["words", "numbers", "word", "number"]) (sc := defScope sNumsIn) (by decide +kernel)) (fun _ _ _ _ _ => pg_name (i := 3) scNs.nd rfl (Or.inl rfl)) (fun _ _ _ _ _ => pts_nil)
          (fun _ _ _ _ _ => pe_cmpR op_isN (pv 3) pe_non (nomark _))) pa_nil))) (pss_one (ps_ret pe_non)) pss_nil)
      (pss_one (ps_ret (pe_tupleOf (by rfl) B.tuple (pv 1))))), ?_⟩
    refine ⟨.ref a, rfl, a, rfl, ⟨_, hS⟩, fun D nD => ?_⟩
    refine lc_mapV (ys := ns.map fun (n : Nat) => V.int (n : Int)) hS (by rw [List.length_map]; omega) (by rw [List.length_map, List.length_map]) nD (fun i x y hx hy H' Q' s1 q1 => ?_) fun H1 s1 e1 => ?_
    · obtain ⟨n, g, rfl⟩ := map_at hx
      obtain ⟨n', g', rfl⟩ := map_at hy
      cases g.symm.trans g'
      exact ⟨.str (num n), rfl, n, rfl, hn n (List.mem_of_getElem? g), fun H2 s2 => q1 H2 s2⟩
    refine nx_step ?_
    have L1 : SqL K H1 D (ns.map fun (n : Nat) => V.int (n : Int)) := lstNew e1
    refine ⟨.ref D, rfl, D, rfl, ⟨_, L1⟩, fun D2 nD2 => ?_⟩
    refine lc_mapV (ys := List.replicate ns.length (V.bl false)) L1 (by rw [List.length_map]; omega) (by rw [List.length_replicate, List.length_map]) nD2 (fun i x y hx hy H' Q' s2 q1 => ?_) fun H2 s2 e2 => ?_
    · obtain ⟨n, g, rfl⟩ := map_at hx
      have ey : y = V.bl false := (List.mem_replicate.mp (List.mem_of_getElem? hy)).2
      subst ey
      exact ⟨_, rfl, rfl, q1 H' (Same.refl H')⟩
    refine ⟨D2, List.replicate ns.length false, rfl, lstNew (by rw [e2, List.map_replicate]), ?_⟩
    have e3 : (List.replicate ns.length false).any id = false := by
      rw [List.any_eq_false]
      intro x hx
      rw [(List.mem_replicate.mp hx).2]; decide
    rw [e3]
    refine ⟨false, rfl, iteF ?_⟩
    unfold tNext
    dsimp only
    refine ⟨.ref D, rfl, .inl ⟨D, _, rfl, sqL_same s2 L1, fun b nb => q b _ ((s1.trans s2).trans (same_upd nb)) (tupNew (by rw [upd_same, List.map_map]; rfl))⟩⟩
end
end K52
set_option maxHeartbeats 4000000
/-! texts out of a tuple of pairs; marks with points between -/
namespace RV
open PySem PySem.Spec PyProof.Rows L2 TL
/-- a tuple of pairs of any values -/
def PairsT (K : PySem.W.Frag) (H : Hp) (a : Addr) (ks : List (Addr × V × V)) : Prop := SqT K H a (ks.map fun k => V.ref k.1) ∧ ∀ k ∈ ks, SqT K H k.1 [k.2.1, k.2.2]
theorem PairsT.same {K : PySem.W.Frag} {H H' : Hp} {a : Addr} {ks : List (Addr × V × V)} (h : PairsT K H a ks) (s : Same H H') : PairsT K H' a ks := ⟨sqT_same s h.1, fun k hk => sqT_same s (h.2 k hk)⟩
/-- [.. for x, y in t], texts -/
theorem lc_strsT {K : PySem.W.Frag} {te : TE} {σ : L2.St} {H1 : Hp} {a D : Addr} {va vb : Nat} {ks : List (Addr × V × V)} {zs : List Str} {Qd : Hp → Prop} (hT : PairsT K H1 a ks) (hl : ks.length ≤ 100000) (hz : zs.length = ks.length) (nD : H1 D = none) (ne : va ≠ vb)
    (hte : ∀ (i : Nat) (k : Addr × V × V) (z : Str), ks[i]? = some k → zs[i]? = some z → ∀ (H' : Hp) (Q : VK), Same H1 H' → (∀ H2, Same H' H2 → Q (.str z) H2) → te (((wipe σ [va, vb]).set va (some k.2.1)).set vb (some k.2.2)) H' Q)
    (hd : ∀ H', Same H1 H' → H' D = some (.lst (zs.map V.str)) → Qd H') :
    ∃ W : Nat → Nat → Hp → Prop, (∃ m, W 0 m (upd H1 D (.lst []))) ∧ ∀ i m H, W i m H →
      ((Itt K a).stop i H ∧ Qd H) ∨ ((Itt K a).go i H ∧ ∃ Nx : Hp → Prop, (∀ H', Nx H' → ∃ m', m' < m ∧ W (i + 1) m' H') ∧ ∀ x H', (Itt K a).yld i H x H' → gTup K 2 (gCons (gName va) (gCons (gName vb) gNil)) x (wipe σ [va, vb]) H' fun σ2 H2 => wipe σ2 [va, vb] = wipe σ [va, vb] ∧ tYes σ2 H2 fun b H3 =>
        if b = true then te σ2 H3 fun y H4 => ∃ acc, H4 D = some (.lst acc) ∧ acc.length < sizeLine ∧ Nx (upd H4 D (.lst (acc ++ [y]))) else Nx H3) := by
  refine lc_tup (K := K) (a := a) (xs := ks.map fun k => V.ref k.1) (fun i H' => Same H1 H' ∧ H' D = some (.lst ((zs.take i).map V.str))) ⟨same_upd nD, upd_same⟩ (fun i H' _ p => sqT_same p.1 hT.1) (fun i x H' hx p => ?_) fun H' p => ?_
  · obtain ⟨k, g, rfl⟩ := map_at hx
    have hi : i < ks.length := (List.getElem?_eq_some_iff.mp g).1
    obtain ⟨z, ez⟩ : ∃ z, zs[i]? = some z := ⟨_, List.getElem?_eq_getElem (by omega)⟩
    refine ⟨k.1, _, rfl, sqT_same p.1 (hT.2 k (List.mem_of_getElem? g)), rfl, _, _, rfl, _, _, rfl, rfl, ?_, tt_yes (hte i k z g ez H' _ p.1 fun H2 s2 => ⟨_, s2 _ _ p.2, ?_, fun b o w => ?_, ?_⟩)⟩
    · simp [wipe, List.set_set, List.set_comm, ne, ne.symm]
    · rw [List.length_map, List.length_take, sizeLine_eq]; omega
    · rw [upd_ne (ne_of_none w nD)]; exact s2 _ _ (p.1 b o w)
    · rw [upd_same, List.take_add_one, ez, List.map_append]; rfl
  · rw [List.length_map, ← hz, List.take_of_length_le (Nat.le_refl _)] at p
    exact hd H' p.1 p.2
/-- [.. for x in t], t a tuple of any values xs, which gives the values ys -/
theorem lc_mapVT {K : PySem.W.Frag} {te : TE} {ys : List V} {σ : L2.St} {H1 : Hp} {a D : Addr} {v : Nat} {xs : List V} {Qd : Hp → Prop} (hT : SqT K H1 a xs) (hl : xs.length ≤ 100000) (hy : ys.length = xs.length) (nD : H1 D = none)
    (hte : ∀ (i : Nat) (x y : V), xs[i]? = some x → ys[i]? = some y → ∀ (H' : Hp) (Q : VK), Same H1 H' → (∀ H2, Same H' H2 → Q y H2) → te ((wipe σ [v]).set v (some x)) H' Q)
    (hd : ∀ H', Same H1 H' → H' D = some (.lst ys) → Qd H') :
    ∃ W : Nat → Nat → Hp → Prop, (∃ m, W 0 m (upd H1 D (.lst []))) ∧ ∀ i m H, W i m H →
      ((Itt K a).stop i H ∧ Qd H) ∨ ((Itt K a).go i H ∧ ∃ Nx : Hp → Prop, (∀ H', Nx H' → ∃ m', m' < m ∧ W (i + 1) m' H') ∧ ∀ x H', (Itt K a).yld i H x H' → gName v x (wipe σ [v]) H' fun σ2 H2 => wipe σ2 [v] = wipe σ [v] ∧ tYes σ2 H2 fun b H3 =>
        if b = true then te σ2 H3 fun y H4 => ∃ acc, H4 D = some (.lst acc) ∧ acc.length < sizeLine ∧ Nx (upd H4 D (.lst (acc ++ [y]))) else Nx H3) := by
  refine lc_tup (K := K) (a := a) (xs := xs) (fun i H' => Same H1 H' ∧ H' D = some (.lst (ys.take i))) ⟨same_upd nD, upd_same⟩ (fun i H' _ p => sqT_same p.1 hT) (fun i x H' hx p => ?_) fun H' p => ?_
  · have hi : i < xs.length := (List.getElem?_eq_some_iff.mp hx).1
    obtain ⟨y, ey⟩ : ∃ y, ys[i]? = some y := ⟨_, List.getElem?_eq_getElem (by omega)⟩
    refine ⟨by simp [wipe, List.set_set], tt_yes (hte i x y hx ey H' _ p.1 fun H2 s2 => ⟨_, s2 _ _ p.2, ?_, fun b o z => ?_, ?_⟩)⟩
    · rw [List.length_take, sizeLine_eq]; omega
    · rw [upd_ne (ne_of_none z nD)]; exact s2 _ _ (p.1 b o z)
    · rw [upd_same, List.take_add_one, ey]; rfl
  · rw [← hy, List.take_of_length_le (Nat.le_refl _)] at p
    exact hd H' p.1 p.2
/-! ### marks with points between -/
def pt1 : Str := Str.ofString "."
def dash : Str := Str.ofString "-"
theorem tl_pt : tl pt1 = [46] := by unfold pt1; rw [tl_ofString]; decide
theorem tl_dash : tl dash = [45] := by unfold dash; rw [tl_ofString]; decide
def mt (ms : List Int) : Str := if ms = [] then dash else Str.join pt1 (ms.map fun x => num x.toNat)
theorem mt_ne {ms : List Int} (h : ms ≠ []) : mt ms = Str.join pt1 (ms.map fun x => num x.toNat) := by unfold mt; rw [if_neg h]
/-- the marks, each with a point ahead -/
def ptsL (ms : List Int) : List Nat := (ms.map fun x => 46 :: numL x.toNat).flatten
theorem ptsL_next (ms : List Int) (x : Int) : ptsL (ms ++ [x]) = ptsL ms ++ (46 :: numL x.toNat) := by
  unfold ptsL
  rw [List.map_append, List.flatten_append]; simp
theorem ptsL_join : ∀ {ms : List Int}, ms ≠ [] → ptsL ms = 46 :: joinL [46] (ms.map fun x => numL x.toNat)
  | [], h => (h rfl).elim
  | [x], _ => by simp [ptsL, joinL]
  | x :: y :: r, _ => by
    have h := ptsL_join (ms := y :: r) (by simp)
    have e : ptsL (x :: y :: r) = (46 :: numL x.toNat) ++ ptsL (y :: r) := by simp [ptsL]
    rw [e, h]
    show _ = 46 :: (numL x.toNat ++ ([46] ++ joinL [46] ((y :: r).map fun x => numL x.toNat)))
    simp
theorem tl_mt {ms : List Int} (h : ms ≠ []) : tl (mt ms) = joinL [46] (ms.map fun x => numL x.toNat) := by
  rw [mt_ne h, tl_join, tl_pt, List.map_map]
  congr 1
  exact List.map_congr_left fun x _ => tl_nm x.toNat
theorem mt_of {ms : List Int} (h : ms ≠ []) {z : Str} (e : tl z = (ptsL ms).drop 1) : z = mt ms := by
  refine ext_tl ?_
  rw [e, tl_mt h, ptsL_join h]; rfl
theorem mt_len {ms : List Int} (hm : ∀ x ∈ ms, x.toNat < 10 ^ 30) (hl : ms.length ≤ 1000) : (mt ms).length ≤ 31000 := by
  by_cases h : ms = []
  · subst h
    show dash.length ≤ 31000
    rw [len_tl, tl_dash]; decide
  · rw [mt_ne h]
    have := join_short (y := pt1) (l := ms.map fun x => num x.toNat) (k := 30) (m := 1000) (fun x hx => by
      obtain ⟨n, hn, rfl⟩ := List.mem_map.mp hx
      exact num_len (hm n hn)) (by rw [List.length_map]; exact hl)
    have e : pt1.length = 1 := by rw [len_tl, tl_pt]; rfl
    rw [e] at this
    exact this
theorem mt_split {ms : List Int} (h : ms ≠ []) : Txt.split (mt ms) pt1 = ms.map fun x => num x.toNat := by
  rw [mt_ne h, ← join_eq]
  refine split_join (s := 46) (S := []) tl_pt (by decide +kernel) (by simp [h]) fun p hp => ?_
  obtain ⟨n, _, rfl⟩ := List.mem_map.mp hp
  exact num_free (.inl (by decide))
/-- what is no figure and no point isn't in marks -/
theorem mt_free {ms : List Int} (h : ms ≠ []) {s : Nat} (hs : s < 46 ∨ 57 < s ∨ s = 47) : s ∉ tl (mt ms) := by
  rw [mt_ne h]
  refine mem_join (by rw [tl_pt]; simp; omega) fun x hx => ?_
  obtain ⟨n, _, rfl⟩ := List.mem_map.mp hx
  exact num_free (by omega)
theorem mt_pos {ms : List Int} (h : ms ≠ []) : mt ms ≠ dash := fun e => by
  have := mt_free h (s := 45) (by omega)
  rw [e, tl_dash] at this
  exact this (by simp)
end RV
set_option maxHeartbeats 4000000
namespace K52
open PySem PySem.Spec PyProof.Rows L2 RV TL
theorem num_str {x : Int} (h : 0 ≤ x) : ((toString x : String) : Str) = num x.toNat := V.str.inj (num_of h)
theorem log_small {x : Int} (h0 : 0 ≤ x) (h : x < 10 ^ 30) : x.natAbs.log2 < 1920 := by
  have e : x = ((x.toNat : Nat) : Int) := by omega
  rw [e]
  exact num_log (by have : ((x.toNat : Nat) : Int) < 10 ^ 30 := by omega
                    exact_mod_cast this)
theorem nat_small {x : Int} (h0 : 0 ≤ x) (h : x < 10 ^ 30) : x.toNat < 10 ^ 30 := by
  have : ((x.toNat : Nat) : Int) < 10 ^ 30 := by omega
  exact_mod_cast this
/-- marks that can be written -/
structure Mk8 (ms : List Int) : Prop where
  inn : ∀ x ∈ ms, 0 ≤ x ∧ x < 8
  few : ms.length ≤ 1000
theorem Mk8.big {ms : List Int} (h : Mk8 ms) : ∀ x ∈ ms, x < 10 ^ 30 := fun x hx => by have := (h.inn x hx).2; omega
theorem Mk8.nat {ms : List Int} (h : Mk8 ms) : ∀ x ∈ ms, x.toNat < 10 ^ 30 := fun x hx => nat_small (h.inn x hx).1 (h.big x hx)
theorem ptsL_len : ∀ {ms : List Int}, Mk8 ms → (ptsL ms).length ≤ ms.length * 2
  | [], _ => by simp [ptsL]
  | x :: r, h => by
    have h1 := ptsL_len (ms := r) ⟨fun y hy => h.inn y (List.mem_cons_of_mem _ hy), by have := h.few; simp only [List.length_cons] at this; omega⟩
    have h2 := (h.inn x (List.mem_cons_self ..))
    have e : ptsL (x :: r) = (46 :: numL x.toNat) ++ ptsL r := by simp [ptsL]
    rw [e, numL_lt (show x.toNat < 10 by omega)]
    simp only [List.length_append, List.length_cons, List.length_nil]
    omega
theorem Mk8.take {ms : List Int} (h : Mk8 ms) (i : Nat) : Mk8 (ms.take i) := ⟨fun x hx => h.inn x (List.mem_of_mem_take hx), by have := h.few; rw [List.length_take]; omega⟩
theorem cut_tail (z : Str) : tl (cutS z (some 1) none) = (tl z).drop 1 := by
  show ((tl z).drop (HT.sIx z.length 0 (some 1))).take (HT.sIx z.length z.length none - HT.sIx z.length 0 (some 1)) = _
  rw [show HT.sIx z.length 0 (some 1) = min 1 z.length from HT.sIx_nat z.length 0 1, HT.sIx_none]
  have e : z.length = (tl z).length := len_tl z
  cases h : tl z with
  | nil => rw [h] at e; simp
  | cons c r =>
    rw [h] at e
    rw [show min 1 z.length = 1 by rw [e, List.length_cons]; omega]
    refine List.take_of_length_le ?_
    rw [List.length_drop, e]; exact Nat.le_refl _
section
variable {P : Program} {w : World} {K : PySem.W.Frag} {mg : Str → Option Value} {base : Heap} {t1 t2 t3 : Tok}
/-! ### show_marks -/
theorem scSM : FnScope ["marks", "mark"] ["marks"] (defScope sShowM) := ⟨rfl, rfl, rfl, by decide +kernel, rfl, by decide +kernel, by decide +kernel⟩
def spSM (K : PySem.W.Frag) : Sp := fun vs H Q _ => ∃ (a : Addr) (ms : List Int), vs = [.ref a] ∧ SqT K H a (ms.map V.int) ∧ Mk8 ms ∧ ∀ H', Same H H' → Q (.str (mt ms)) H'
theorem ok_sm {f : Addr} {fd : FuncData} (F : Fun K "show_marks" "show_marks" sShowM f fd) (B : Bare mg) (mN : mg "NOTHING" = some (.str dash t1)) : FnOk P w K mg base CX0 1 f fd ["marks"] (spSM K) := by
  refine F.ok scSM (fun vs H Q E h => ?_) (fun cdv A outer s H vs Q E hr h => ?_)
  · obtain ⟨a, ms, rfl, _⟩ := h
    rfl
  · obtain ⟨a, ms, rfl, hT, hm, q⟩ := h
    refine ⟨_, pss_cons (ps_if (pt_cmpR op_eq (pe_callB call_len_seq (by rfl) B.len PySem.boot_len (pa_cons (pv 0) pa_nil)) pe_int (nomark _)) (pss_one (ps_ret (pe_glob (v := .str dash) rfl mN ⟨_, rfl⟩))) pss_nil)
      (pss_one (ps_ret (pe_join pe_str (pe_lc (own := [("mark", 1)]) (g := gName 1) (tt := tYes) rfl scSM.nd (pi_tup (pv 0)) (blkOk_by (N := ["marks", "mark"]) (sc := defScope sShowM) (by decide +kernel)) (fun _ _ _ _ _ => pg_name (i := 1) scSM.nd rfl (Or.inl rfl)) (fun _ _ _ _ _ => pts_nil)
        (fun _ _ _ _ _ => pe_callTy call_str_int (by rfl) B.str (by decide +kernel) (pa_cons (pv 1) pa_nil)))))), ?_⟩
    refine ⟨.ref a, rfl, a, _, rfl, .inr hT, rfl, _, rfl, ?_⟩
    by_cases e : ms = []
    · subst e
      refine iteT ?_
      exact q H (Same.refl H)
    · rw [decide_eq_false (fun z => e (by
        have z' : (((ms.map V.int).length : Nat) : Int) = 0 := V.int.inj z
        rw [List.length_map] at z'
        exact List.length_eq_zero_iff.mp (by omega)))]
      refine iteF ?_
      unfold tNext
      dsimp only
      refine ⟨⟨_, rfl⟩, .ref a, rfl, a, rfl, ⟨_, hT⟩, fun D nD => ?_⟩
      have hf := hm.few
      refine lc_mapVT (ys := (ms.map fun x => num x.toNat).map V.str) hT (by rw [List.length_map]; omega) (by rw [List.length_map, List.length_map, List.length_map]) nD (fun i x y hx hy H' Q' s' k => ?_) fun H1 s1 e1 => ?_
      · obtain ⟨n, g, rfl⟩ := map_at hx
        obtain ⟨z, g2, rfl⟩ := map_at hy
        obtain ⟨n', g3, rfl⟩ := map_at g2
        cases g.symm.trans g3
        have hn := List.mem_of_getElem? g
        refine ⟨.int n, rfl, n, rfl, log_small (hm.inn n hn).1 (hm.big n hn), ?_⟩
        rw [num_str (hm.inn n hn).1]
        exact k H' (Same.refl H')
      · refine ⟨pt1, D, _, rfl, rfl, .inl (lstNew e1), ?_, ?_⟩
        · refine join_room (k := 30) (m := 1000) (fun x hx => ?_) (by rw [List.length_map]; exact hf) (by rw [show pt1.length = 1 by rw [len_tl, tl_pt]; rfl]; decide)
          obtain ⟨n, hn, rfl⟩ := List.mem_map.mp hx
          exact num_len (hm.nat n hn)
        · rw [join_eq, ← mt_ne e]
          exact q H1 s1
/-! ### _law_marks_text -/
abbrev nMT : List Str := ["_law_marks_here", "_law_text", "_law_mark"]
theorem scMT : FnScope nMT ["_law_marks_here"] (defScope sLMText) := ⟨rfl, rfl, rfl, by decide +kernel, rfl, by decide +kernel, by decide +kernel⟩
theorem ok_mt {f : Addr} {fd : FuncData} (F : Fun K "_law_marks_text" "_law_marks_text" sLMText f fd) (B : Bare mg) : FnOk P w K mg base CX0 1 f fd ["_law_marks_here"] (spSM K) := by
  refine F.ok scMT (fun vs H Q E h => ?_) (fun cdv A outer s H vs Q E hr h => ?_)
  · obtain ⟨a, ms, rfl, _⟩ := h
    rfl
  · obtain ⟨a, ms, rfl, hT, hm, q⟩ := h
    refine ⟨_, pss_cons (ps_set (i := 1) scMT.nd rfl (Or.inl rfl) pe_str)
      (pss_cons (ps_for PassesOwn.never rfl (pi_tup (pv 0)) (pg_name (i := 2) scMT.nd rfl (Or.inl rfl))
        (pss_one (ps_set (i := 1) scMT.nd rfl (Or.inl rfl) (pe_op op_add_str (pe_op op_add_str (pv 1) pe_str) (pe_callTy call_str_int (by rfl) B.str (by decide +kernel) (pa_cons (pv 2) pa_nil))))))
      (pss_one (ps_ret (pe_ifExp (pt_cmpR (op_neD hr.units) (pv 0) (pe_tup pa_nil) (nomark _)) (pe_slice sl_str (pv 1) (po_some pe_int) po_none) pe_str)))), ?_⟩
    have hf := hm.few
    have z : sizeLine ≥ 100000 := by rw [sizeLine_eq]; decide
    refine nx_step ?_
    dsimp only
    refine ⟨.ref a, rfl, a, rfl, ⟨_, hT⟩, ?_⟩
    refine for_tup (K := K) (a := a) (xs := ms.map V.int) (fun i σ H' => H' = H ∧ ∃ (x : Str) (y2 : Option V), σ = [some (.ref a), some (.str x), y2] ∧ tl x = ptsL (ms.take i)) ⟨rfl, Str.ofString "", none, rfl, rfl⟩ (fun i σ H' _ p => by rw [p.1]; exact hT) (fun i x σ H' hx p => ?_) fun σ H' p => ?_
    · obtain ⟨rfl, x0, y2, rfl, ex⟩ := p
      obtain ⟨n, g, rfl⟩ := map_at hx
      have hn := hm.inn n (List.mem_of_getElem? g)
      have lx : x0.length ≤ 2000 := by
        rw [len_tl, ex]
        have := ptsL_len (hm.take i)
        have h3 : (ms.take i).length ≤ 1000 := by rw [List.length_take]; omega
        omega
      have ln := num_len (hm.nat n (List.mem_of_getElem? g))
      have l1 : pt1.length = 1 := by rw [len_tl, tl_pt]; rfl
      have l2 : (x0 ++ pt1).length = x0.length + 1 := by rw [len_tl, tl_append, List.length_append, ← len_tl, tl_pt]; rfl
      refine nx_step ?_
      dsimp only
      refine ⟨.str x0, rfl, x0, pt1, rfl, rfl, by omega, .int n, rfl, n, rfl, log_small hn.1 (hm.big n (List.mem_of_getElem? g)), _, num n.toNat, rfl, by rw [num_str hn.1], by omega, ?_⟩
      refine ⟨rfl, _, _, rfl, ?_⟩
      rw [tl_append, tl_append, ex, tl_pt, tl_nm, List.take_add_one, g]
      show _ = ptsL (ms.take i ++ [n])
      rw [ptsL_next, List.append_assoc]; rfl
    · obtain ⟨rfl, x0, y2, rfl, ex⟩ := p
      rw [List.length_map, List.take_of_length_le (Nat.le_refl _)] at ex
      dsimp only
      refine ⟨.ref a, rfl, by show 0 ≤ sizeLine; omega, fun c nc => ?_⟩
      have sc := same_upd (o := .tup []) nc
      have ec : SqT K (upd H' c (.tup [])) c ([] : List V) := tupNew upd_same
      refine ⟨dI ms, dI [], dpT (sqT_same sc hT), .tup ec .nil, shapedI _, shapedI _, _, rfl, ?_⟩
      rw [eqvI]
      have lx : x0.length ≤ 2000 := by
        rw [len_tl, ex]
        have := ptsL_len hm
        omega
      by_cases e : ms = []
      · rw [decide_eq_true e]
        refine iteF ?_
        subst e
        exact q _ sc
      · rw [decide_eq_false e]
        refine iteT ⟨.str x0, rfl, 1, rfl, x0, rfl, by omega, ?_⟩
        rw [mt_of e (z := cutS x0 (some 1) none) (by rw [cut_tail, ex])]
        exact q _ sc
end
end K52
set_option maxHeartbeats 4000000
namespace K52
open PySem PySem.Spec PyProof.Rows L2 RV TL
abbrev Rk := Addr × Addr × Int × List Int
def valR (k : Rk) : Int × List Int := (k.2.2.1, k.2.2.2)
def RunOk (K : PySem.W.Frag) (H : Hp) (k : Rk) : Prop := SqT K H k.1 [.int k.2.2.1, .ref k.2.1] ∧ SqT K H k.2.1 (k.2.2.2.map V.int)
def RingAt (K : PySem.W.Frag) (H : Hp) (a : Addr) (rs : List (Int × List Int)) : Prop := ∃ ks : List Rk, ks.map valR = rs ∧ SqT K H a (ks.map fun k => V.ref k.1) ∧ ∀ k ∈ ks, RunOk K H k
theorem RingAt.same {K : PySem.W.Frag} {H H' : Hp} {a : Addr} {rs : List (Int × List Int)} (h : RingAt K H a rs) (s : Same H H') : RingAt K H' a rs := by
  obtain ⟨ks, h1, h2, h3⟩ := h
  exact ⟨ks, h1, sqT_same s h2, fun k hk => ⟨sqT_same s (h3 k hk).1, sqT_same s (h3 k hk).2⟩⟩
/-- axes: marks ahead of the number -/
def AxOk (K : PySem.W.Frag) (H : Hp) (k : Rk) : Prop := SqT K H k.1 [.ref k.2.1, .int k.2.2.1] ∧ SqT K H k.2.1 (k.2.2.2.map V.int)
def AxAt (K : PySem.W.Frag) (H : Hp) (a : Addr) (rs : List (Int × List Int)) : Prop := ∃ ks : List Rk, ks.map valR = rs ∧ SqT K H a (ks.map fun k => V.ref k.1) ∧ ∀ k ∈ ks, AxOk K H k
theorem AxAt.same {K : PySem.W.Frag} {H H' : Hp} {a : Addr} {rs : List (Int × List Int)} (h : AxAt K H a rs) (s : Same H H') : AxAt K H' a rs := by
  obtain ⟨ks, h1, h2, h3⟩ := h
  exact ⟨ks, h1, sqT_same s h2, fun k hk => ⟨sqT_same s (h3 k hk).1, sqT_same s (h3 k hk).2⟩⟩
structure Rz (rs : List (Int × List Int)) : Prop where
  num : ∀ r ∈ rs, 0 ≤ r.1 ∧ r.1 < 10 ^ 30
  mks : ∀ r ∈ rs, Mk8 r.2
  few : rs.length ≤ 100
structure Pz (ps : List (List Int)) : Prop where
  pr : ∀ p ∈ ps, ∃ x y : Int, p = [x, y] ∧ (0 ≤ x ∧ x < 10 ^ 30) ∧ (0 ≤ y ∧ y < 10 ^ 30)
  few : ps.length ≤ 100
def star : Str := Str.ofString "*"
def slash : Str := Str.ofString "/"
theorem tl_star : tl star = [42] := by unfold star; rw [tl_ofString]; decide
theorem tl_slash : tl slash = [47] := by unfold slash; rw [tl_ofString]; decide
theorem len1s : star.length = 1 := by rw [len_tl, tl_star]; rfl
theorem len1l : slash.length = 1 := by rw [len_tl, tl_slash]; rfl
theorem len1b : sp1.length = 1 := by rw [len_tl, tl_sp]; rfl
def runS (r : Int × List Int) : Str := num r.1.toNat ++ star ++ mt r.2
def axS (r : Int × List Int) : Str := mt r.2 ++ slash ++ num r.1.toNat
def pairS (p : List Int) : Str := num (p.getD 0 0).toNat ++ slash ++ num (p.getD 1 0).toNat
def ringS (rs : List (Int × List Int)) : Str := Str.join sp1 (rs.map runS)
def planS (ps : List (List Int)) : Str := if ps = [] then dash else Str.join sp1 (ps.map pairS)
theorem len_app (x y : Str) : (x ++ y).length = x.length + y.length := by rw [len_tl, len_tl, len_tl, tl_append, List.length_append]
theorem emp_app (x : Str) : Str.empty ++ x = x := by
  refine ext_tl ?_
  rw [tl_append]; rfl
theorem runS_len {r : Int × List Int} (h1 : 0 ≤ r.1 ∧ r.1 < 10 ^ 30) (h2 : Mk8 r.2) : (runS r).length ≤ 31100 := by
  have a := num_len (nat_small h1.1 h1.2)
  have b := mt_len h2.nat h2.few
  unfold runS
  rw [len_app, len_app, len1s]; omega
theorem axS_len {r : Int × List Int} (h1 : 0 ≤ r.1 ∧ r.1 < 10 ^ 30) (h2 : Mk8 r.2) : (axS r).length ≤ 31100 := by
  have a := num_len (nat_small h1.1 h1.2)
  have b := mt_len h2.nat h2.few
  unfold axS
  rw [len_app, len_app, len1l]; omega
theorem pairS_len {x y : Int} (h1 : 0 ≤ x ∧ x < 10 ^ 30) (h2 : 0 ≤ y ∧ y < 10 ^ 30) : (pairS [x, y]).length ≤ 31100 := by
  have a := num_len (nat_small h1.1 h1.2)
  have b := num_len (nat_small h2.1 h2.2)
  show (num x.toNat ++ slash ++ num y.toNat).length ≤ _
  rw [len_app, len_app, len1l]; omega
section
variable {P : Program} {w : World} {K : PySem.W.Frag} {mg : Str → Option Value} {base : Heap} {t1 t2 t3 : Tok}
theorem RingAt.pairs {H : Hp} {a : Addr} {ks : List Rk} (h2 : SqT K H a (ks.map fun k => V.ref k.1)) (h3 : ∀ k ∈ ks, RunOk K H k) : PairsT K H a (ks.map fun k => (k.1, V.int k.2.2.1, V.ref k.2.1)) := by
  refine ⟨by rw [List.map_map]; exact h2, fun q hq => ?_⟩
  obtain ⟨k, hk, rfl⟩ := List.mem_map.mp hq
  exact (h3 k hk).1
theorem AxAt.pairs {H : Hp} {a : Addr} {ks : List Rk} (h2 : SqT K H a (ks.map fun k => V.ref k.1)) (h3 : ∀ k ∈ ks, AxOk K H k) : PairsT K H a (ks.map fun k => (k.1, V.ref k.2.1, V.int k.2.2.1)) := by
  refine ⟨by rw [List.map_map]; exact h2, fun q hq => ?_⟩
  obtain ⟨k, hk, rfl⟩ := List.mem_map.mp hq
  exact (h3 k hk).1
/-! ### show_ring -/
theorem scSR : FnScope ["ring", "times", "marks"] ["ring"] (defScope sShowR) := ⟨rfl, rfl, rfl, by decide +kernel, rfl, by decide +kernel, by decide +kernel⟩
def spSR (K : PySem.W.Frag) : Sp := fun vs H Q _ => ∃ (a : Addr) (rs : List (Int × List Int)), vs = [.ref a] ∧ RingAt K H a rs ∧ Rz rs ∧ ∀ H', Same H H' → Q (.str (ringS rs)) H'
def teRun (K : PySem.W.Frag) : TE := fun σ H Q => tJs [tFmt (tVar 1), tC (.str star), tFmt (tCall (spSM K) [] E0 (tCons (tVar 2) tNil))] Str.empty σ H fun out H1 => Q (.str out) H1
theorem ok_sr {f fM : Addr} {fd dM : FuncData} (F : Fun K "show_ring" "show_ring" sShowR f fd) (DM : DefAt K mg "show_marks" sShowM ["marks"] fM dM) (B : Bare mg) (mN : mg "NOTHING" = some (.str dash t1)) : FnOk P w K mg base CX0 2 f fd ["ring"] (spSR K) := by
  have GM : FnOk P w K mg base CX0 1 fM dM ["marks"] (spSM K) := ok_sm DM.fn B mN
  refine F.ok scSR (fun vs H Q E h => ?_) (fun cdv A outer s H vs Q E hr h => ?_)
  · obtain ⟨a, rs, rfl, _⟩ := h
    rfl
  · obtain ⟨a, rs, rfl, hR, hz, q⟩ := h
    refine ⟨_, pss_one (ps_ret (pe_join pe_str (pe_lc (own := [("times", 1), ("marks", 2)]) (g := gTup K 2 (gCons (gName 1) (gCons (gName 2) gNil))) (tt := tYes) rfl scSR.nd (pi_tup (pv 0)) (blkOk_by (N := ["ring", "times", "marks"]) (sc := defScope sShowR) (by decide +kernel))
        (fun _ _ _ _ _ => pg_tupK rfl rfl (pgs_cons (pg_name (i := 1) scSR.nd rfl (Or.inl rfl)) (pgs_cons (pg_name (i := 2) scSR.nd rfl (Or.inl rfl)) pgs_nil))) (fun _ _ _ _ _ => pts_nil)
        (fun _ _ _ _ _ => pe_joined (.cons (pe_fmt (pv 1)) (.cons pe_str (.cons (pe_fmt (pe_call GM hr (by rfl) DM.mg DM.fn.kp DM.bi .nil pass0 (pa_cons (pv 2) pa_nil))) .nil))))))), ?_⟩
    have z : sizeLine ≥ 100000 := by rw [sizeLine_eq]; decide
    obtain ⟨ks, ek, h2, h3⟩ := hR
    have hf := hz.few
    have lk : ks.length = rs.length := by rw [← ek, List.length_map]
    refine ⟨⟨_, rfl⟩, .ref a, rfl, a, rfl, ⟨_, h2⟩, fun D nD => ?_⟩
    refine lc_strsT (te := teRun K) (zs := rs.map runS) (RingAt.pairs h2 h3) (by rw [List.length_map]; omega) (by rw [List.length_map, List.length_map]; omega) nD (by decide) (fun i k y hk hy H' Q' s' kq => ?_) fun H1 s1 e1 => ?_
    · rw [List.getElem?_map] at hk hy
      cases g : ks[i]? with
      | none => rw [g] at hk; cases hk
      | some k0 =>
        rw [g] at hk
        cases hk
        rw [← ek, List.getElem?_map, g] at hy
        cases hy
        have hin : valR k0 ∈ rs := by rw [← ek]; exact List.mem_map_of_mem (List.mem_of_getElem? g)
        have n0 : 0 ≤ k0.2.2.1 ∧ k0.2.2.1 < 10 ^ 30 := hz.num _ hin
        have m0 : Mk8 k0.2.2.2 := hz.mks _ hin
        have ln := num_len (nat_small n0.1 n0.2)
        have lm := mt_len m0.nat m0.few
        refine ⟨.int k0.2.2.1, rfl, .inr ⟨_, rfl, log_small n0.1 n0.2, num k0.2.2.1.toNat, by rw [num_str n0.1], by rw [emp_app]; exact Nat.le_trans ln (by omega), ?_⟩⟩
        rw [emp_app]
        refine ⟨star, rfl, by rw [len_app, len1s]; exact Nat.le_trans (Nat.add_le_add_right ln 1) (by omega), .ref k0.2.1, rfl, k0.2.1, k0.2.2.2, rfl, sqT_same s' (h3 k0 (List.mem_of_getElem? g)).2, m0, fun H2 s2 => .inl ⟨mt k0.2.2.2, rfl, Nat.le_trans lm (by omega), mt k0.2.2.2, rfl, Nat.le_trans (runS_len (r := valR k0) n0 m0) (by omega), ?_⟩⟩
        exact kq H2 s2
    · refine ⟨sp1, D, _, rfl, rfl, .inl (lstNew e1), ?_, ?_⟩
      · refine join_room (k := 31100) (m := 100) (fun x hx => ?_) (by rw [List.length_map]; exact hf) (by rw [len1b]; decide)
        obtain ⟨r, hr', rfl⟩ := List.mem_map.mp hx
        exact runS_len (hz.num r hr') (hz.mks r hr')
      · rw [join_eq]
        exact q H1 s1
/-! ### show_plan -/
theorem scSP : FnScope ["plan", "its", "shift"] ["plan"] (defScope sShowP) := ⟨rfl, rfl, rfl, by decide +kernel, rfl, by decide +kernel, by decide +kernel⟩
def spSP (K : PySem.W.Frag) : Sp := fun vs H Q _ => ∃ (a : Addr) (ps : List (List Int)), vs = [.ref a] ∧ Tups K H a ps ∧ Pz ps ∧ ∀ H', Same H H' → Q (.str (planS ps)) H'
def tePair : TE := fun σ H Q => tJs [tFmt (tVar 1), tC (.str slash), tFmt (tVar 2)] Str.empty σ H fun out H1 => Q (.str out) H1
theorem ok_sp {f : Addr} {fd : FuncData} (F : Fun K "show_plan" "show_plan" sShowP f fd) (B : Bare mg) (mN : mg "NOTHING" = some (.str dash t1)) : FnOk P w K mg base CX0 2 f fd ["plan"] (spSP K) := by
  refine F.ok scSP (fun vs H Q E h => ?_) (fun cdv A outer s H vs Q E hr h => ?_)
  · obtain ⟨a, ps, rfl, _⟩ := h
    rfl
  · obtain ⟨a, ps, rfl, hR, hz, q⟩ := h
    refine ⟨_, pss_cons (ps_if (pt_cmpR op_eq (pe_callB call_len_seq (by rfl) B.len PySem.boot_len (pa_cons (pv 0) pa_nil)) pe_int (nomark _)) (pss_one (ps_ret (pe_glob (v := .str dash) rfl mN ⟨_, rfl⟩))) pss_nil)
      (pss_one (ps_ret (pe_join pe_str (pe_lc (own := [("its", 1), ("shift", 2)]) (g := gTup K 2 (gCons (gName 1) (gCons (gName 2) gNil))) (tt := tYes) rfl scSP.nd (pi_tup (pv 0)) (blkOk_by (N := ["plan", "its", "shift"]) (sc := defScope sShowP) (by decide +kernel))
        (fun _ _ _ _ _ => pg_tupK rfl rfl (pgs_cons (pg_name (i := 1) scSP.nd rfl (Or.inl rfl)) (pgs_cons (pg_name (i := 2) scSP.nd rfl (Or.inl rfl)) pgs_nil))) (fun _ _ _ _ _ => pts_nil)
        (fun _ _ _ _ _ => pe_joined (.cons (pe_fmt (pv 1)) (.cons pe_str (.cons (pe_fmt (pv 2)) .nil)))))))), ?_⟩
    have z : sizeLine ≥ 100000 := by rw [sizeLine_eq]; decide
    obtain ⟨ks, ek, h2, h3⟩ := hR
    have hf := hz.few
    have lk : ks.length = ps.length := by rw [← ek, List.length_map]
    refine ⟨.ref a, rfl, a, _, rfl, .inr h2, rfl, _, rfl, ?_⟩
    by_cases e : ps = []
    · subst e
      have e0 : ks = [] := List.length_eq_zero_iff.mp lk
      subst e0
      refine iteT ?_
      exact q H (Same.refl H)
    · rw [decide_eq_false (fun w => e (by
        have z' : (((ks.map fun q => V.ref q.1).length : Nat) : Int) = 0 := V.int.inj w
        rw [List.length_map] at z'
        exact List.length_eq_zero_iff.mp (by omega)))]
      refine iteF ?_
      unfold tNext
      dsimp only
      refine ⟨⟨_, rfl⟩, .ref a, rfl, a, rfl, ⟨_, h2⟩, fun D nD => ?_⟩
      have hP : PairsT K H a (ks.map fun k => (k.1, V.int (k.2.getD 0 0), V.int (k.2.getD 1 0))) := by
        refine ⟨by rw [List.map_map]; exact h2, fun q hq => ?_⟩
        obtain ⟨k, hk, rfl⟩ := List.mem_map.mp hq
        obtain ⟨x, y, e2, _⟩ := hz.pr k.2 (by rw [← ek]; exact List.mem_map_of_mem hk)
        have := h3 k hk
        rw [e2] at this
        show SqT K H k.1 [V.int (k.2.getD 0 0), V.int (k.2.getD 1 0)]
        rw [e2]; exact this
      refine lc_strsT (te := tePair) (zs := ps.map pairS) hP (by rw [List.length_map]; omega) (by rw [List.length_map, List.length_map]; omega) nD (by decide) (fun i k y hk hy H' Q' s' kq => ?_) fun H1 s1 e1 => ?_
      · rw [List.getElem?_map] at hk hy
        cases g : ks[i]? with
        | none => rw [g] at hk; cases hk
        | some k0 =>
          rw [g] at hk
          cases hk
          rw [← ek, List.getElem?_map, g] at hy
          cases hy
          obtain ⟨x, y, e2, x0, y0⟩ := hz.pr k0.2 (by rw [← ek]; exact List.mem_map_of_mem (List.mem_of_getElem? g))
          have lx := num_len (nat_small x0.1 x0.2)
          have ly := num_len (nat_small y0.1 y0.2)
          refine ⟨.int x, by show some (some (V.int (k0.2.getD 0 0))) = some (some (V.int x)); rw [e2]; rfl, .inr ⟨_, rfl, log_small x0.1 x0.2, num x.toNat, by rw [num_str x0.1], by rw [emp_app]; exact Nat.le_trans lx (by omega), ?_⟩⟩
          rw [emp_app]
          refine ⟨slash, rfl, by rw [len_app, len1l]; exact Nat.le_trans (Nat.add_le_add_right lx 1) (by omega), .int y, by show some (some (V.int (k0.2.getD 1 0))) = some (some (V.int y)); rw [e2]; rfl, .inr ⟨_, rfl, log_small y0.1 y0.2, num y.toNat, by rw [num_str y0.1], Nat.le_trans (pairS_len x0 y0) (by omega), ?_⟩⟩
          have kq' : ∀ H2, Same H' H2 → Q' (.str (pairS k0.2)) H2 := kq
          rw [e2] at kq'
          exact kq' H' (Same.refl H')
      · refine ⟨sp1, D, _, rfl, rfl, .inl (lstNew e1), ?_, ?_⟩
        · refine join_room (k := 31100) (m := 100) (fun x hx => ?_) (by rw [List.length_map]; exact hf) (by rw [len1b]; decide)
          obtain ⟨r, hr', rfl⟩ := List.mem_map.mp hx
          obtain ⟨x, y, rfl, x0, y0⟩ := hz.pr r hr'
          exact pairS_len x0 y0
        · rw [join_eq]
          have eq : planS ps = Str.join sp1 (ps.map pairS) := by unfold planS; rw [if_neg e]
          rw [← eq]
          exact q H1 s1
end
end K52
set_option maxHeartbeats 4000000
namespace K52
open PySem PySem.Spec PyProof.Rows L2 RV TL
def wSide : Str := Str.ofString "side"
def wAxes : Str := Str.ofString "axes"
def wSize : Str := Str.ofString "size"
def wWay : Str := Str.ofString "way"
inductive Rsn
  | side
  | axes (rs : List (Int × List Int))
  | word (w : Str) (ms : List Int)
def ReasonAt (K : PySem.W.Frag) (H : Hp) (r : Addr) : Rsn → Prop
  | .side => SqT K H r [.str wSide]
  | .axes rs => ∃ a, SqT K H r [.str wAxes, .ref a] ∧ AxAt K H a rs
  | .word w ms => ∃ u, SqT K H r [.str w, .ref u] ∧ SqT K H u (ms.map V.int)
def RsnOk : Rsn → Prop
  | .side => True
  | .axes rs => Rz rs
  | .word w ms => (w = wSize ∨ w = wWay) ∧ Mk8 ms
def reasonS : Rsn → Str
  | .side => wSide
  | .axes rs => Str.join sp1 (wAxes :: rs.map axS)
  | .word w ms => w ++ sp1 ++ mt ms
theorem ReasonAt.same {K : PySem.W.Frag} {H H' : Hp} {r : Addr} {d : Rsn} (h : ReasonAt K H r d) (s : Same H H') : ReasonAt K H' r d := by
  cases d with
  | side => exact sqT_same s h
  | axes rs =>
    obtain ⟨a, h1, h2⟩ := h
    exact ⟨a, sqT_same s h1, h2.same s⟩
  | word w ms =>
    obtain ⟨u, h1, h2⟩ := h
    exact ⟨u, sqT_same s h1, sqT_same s h2⟩
theorem w_len : wSide.length ≤ 10 ∧ wAxes.length ≤ 10 ∧ wSize.length ≤ 10 ∧ wWay.length ≤ 10 := by
  unfold wSide wAxes wSize wWay
  refine ⟨?_, ?_, ?_, ?_⟩ <;> rw [len_tl, tl_ofString] <;> decide
section
variable {P : Program} {w : World} {K : PySem.W.Frag} {mg : Str → Option Value} {base : Heap} {t1 t2 t3 : Tok}
/-! ### show_reason -/
abbrev nSW : List Str := ["reason", "word", "marks", "s"]
theorem scSW : FnScope nSW ["reason"] (defScope sShowW) := ⟨rfl, rfl, rfl, by decide +kernel, rfl, by decide +kernel, by decide +kernel⟩
def spSW (K : PySem.W.Frag) : Sp := fun vs H Q _ => ∃ (a : Addr) (d : Rsn), vs = [.ref a] ∧ ReasonAt K H a d ∧ RsnOk d ∧ ∀ H', Same H H' → Q (.str (reasonS d)) H'
def teAx (K : PySem.W.Frag) : TE := fun σ H Q => tJs [tFmt (tCall (spSM K) [] E0 (tCons (tVar 2) tNil)), tC (.str slash), tFmt (tVar 3)] Str.empty σ H fun out H1 => Q (.str out) H1
theorem ok_sw {f fM : Addr} {fd dM : FuncData} (F : Fun K "show_reason" "show_reason" sShowW f fd) (DM : DefAt K mg "show_marks" sShowM ["marks"] fM dM) (B : Bare mg) (mN : mg "NOTHING" = some (.str dash t1)) : FnOk P w K mg base CX0 2 f fd ["reason"] (spSW K) := by
  have GM : FnOk P w K mg base CX0 1 fM dM ["marks"] (spSM K) := ok_sm DM.fn B mN
  refine F.ok scSW (fun vs H Q E h => ?_) (fun cdv A outer s H vs Q E hr h => ?_)
  · obtain ⟨a, d, rfl, _⟩ := h
    rfl
  · obtain ⟨a, d, rfl, hR, hz, q⟩ := h
    refine ⟨_, pss_cons (ps_set (i := 1) scSW.nd rfl (Or.inl rfl) (pe_ix ix_tup (pv 0) pe_int (fun _ _ => rfl)))
      (pss_cons (ps_if (pt_cmpR op_eq (pv 1) pe_str (nomark _)) (pss_one (ps_ret (pv 1))) pss_nil)
      (pss_cons (ps_if (pt_cmpR op_eq (pv 1) pe_str (nomark _)) (pss_one (ps_ret (pe_join pe_str (pe_op op_cat (pe_lst (pa_cons (pv 1) pa_nil)) (pe_lc (own := [("marks", 2), ("s", 3)]) (g := gTup K 2 (gCons (gName 2) (gCons (gName 3) gNil))) (tt := tYes) rfl scSW.nd (pi_tup (pe_ix ix_tup (pv 0) pe_int (fun _ _ => rfl))) (blkOk_by (N := nSW) (sc := defScope sShowW) (by decide +kernel))
        (fun _ _ _ _ _ => pg_tupK rfl rfl (pgs_cons (pg_name (i := 2) scSW.nd rfl (Or.inl rfl)) (pgs_cons (pg_name (i := 3) scSW.nd rfl (Or.inl rfl)) pgs_nil))) (fun _ _ _ _ _ => pts_nil)
        (fun _ _ _ _ _ => pe_joined (.cons (pe_fmt (pe_call GM hr (by rfl) DM.mg DM.fn.kp DM.bi .nil pass0 (pa_cons (pv 2) pa_nil))) (.cons pe_str (.cons (pe_fmt (pv 3)) .nil))))))))) pss_nil)
      (pss_one (ps_ret (pe_joined (.cons (pe_fmt (pv 1)) (.cons pe_str (.cons (pe_fmt (pe_call GM hr (by rfl) DM.mg DM.fn.kp DM.bi .nil pass0 (pa_cons (pe_ix ix_tup (pv 0) pe_int (fun _ _ => rfl)) pa_nil))) .nil)))))))), ?_⟩
    have z : sizeLine ≥ 100000 := by rw [sizeLine_eq]; decide
    obtain ⟨w1, w2, w3, w4⟩ := w_len
    cases d with
    | side =>
      have hS : SqT K H a [.str wSide] := hR
      refine ⟨.ref a, rfl, a, _, 0, .str wSide, rfl, rfl, hS, atI_0, ?_⟩
      refine nx_step ?_
      dsimp only
      refine ⟨.str wSide, rfl, rfl, true, by decide +kernel, iteT ?_⟩
      exact ⟨.str wSide, rfl, q H (Same.refl H)⟩
    | axes rs =>
      obtain ⟨u, h1, ks, ek, h2, h3⟩ := hR
      have hz : Rz rs := hz
      have hf := hz.few
      have lk : ks.length = rs.length := by rw [← ek, List.length_map]
      have at1 : atI [V.str wAxes, V.ref u] 1 = some (.ref u) := atI_nat (xs := [V.str wAxes, V.ref u]) (j := 1) rfl
      refine ⟨.ref a, rfl, a, _, 0, .str wAxes, rfl, rfl, h1, atI_0, ?_⟩
      refine nx_step ?_
      dsimp only
      refine ⟨.str wAxes, rfl, rfl, false, by decide +kernel, iteF ?_⟩
      unfold tNext
      dsimp only
      refine ⟨.str wAxes, rfl, rfl, true, by decide +kernel, iteT ?_⟩
      refine ⟨⟨_, rfl⟩, .str wAxes, rfl, by show 1 ≤ sizeLine; omega, fun l nl => ?_⟩
      have sl := same_upd (o := .lst [V.str wAxes]) nl
      have el : (upd H l (.lst [V.str wAxes])) l = some (.lst [V.str wAxes]) := upd_same
      generalize upd H l (.lst [V.str wAxes]) = H1 at sl el ⊢
      refine ⟨.ref a, rfl, a, _, 1, .ref u, rfl, rfl, sqT_same sl h1, at1, u, rfl, ⟨_, sqT_same sl h2⟩, fun D nD => ?_⟩
      refine lc_strsT (te := teAx K) (zs := rs.map axS) ((AxAt.pairs h2 h3).same sl) (by rw [List.length_map]; omega) (by rw [List.length_map, List.length_map]; omega) nD (by decide) (fun i k y hk hy H' Q' s' kq => ?_) fun H2 s2 e2 => ?_
      · rw [List.getElem?_map] at hk hy
        cases g : ks[i]? with
        | none => rw [g] at hk; cases hk
        | some k0 =>
          rw [g] at hk
          cases hk
          rw [← ek, List.getElem?_map, g] at hy
          cases hy
          have hin : valR k0 ∈ rs := by rw [← ek]; exact List.mem_map_of_mem (List.mem_of_getElem? g)
          have n0 : 0 ≤ k0.2.2.1 ∧ k0.2.2.1 < 10 ^ 30 := hz.num _ hin
          have m0 : Mk8 k0.2.2.2 := hz.mks _ hin
          have ln := num_len (nat_small n0.1 n0.2)
          have lm := mt_len m0.nat m0.few
          refine ⟨.ref k0.2.1, rfl, k0.2.1, k0.2.2.2, rfl, sqT_same (sl.trans s') (h3 k0 (List.mem_of_getElem? g)).2, m0, fun H3 s3 => .inl ⟨mt k0.2.2.2, rfl, Nat.le_trans lm (by omega), mt k0.2.2.2, rfl, by rw [emp_app]; exact Nat.le_trans lm (by omega), ?_⟩⟩
          rw [emp_app]
          refine ⟨slash, rfl, by rw [len_app, len1l]; exact Nat.le_trans (Nat.add_le_add_right lm 1) (by omega), .int k0.2.2.1, rfl, .inr ⟨_, rfl, log_small n0.1 n0.2, num k0.2.2.1.toNat, by rw [num_str n0.1], Nat.le_trans (axS_len (r := valR k0) n0 m0) (by omega), ?_⟩⟩
          exact kq H3 s3
      · have el2 := s2 _ _ el
        refine ⟨l, D, _, _, rfl, rfl, el2, e2, by rw [List.length_map, List.length_map]; simp only [List.length_cons, List.length_nil]; omega, fun o no => ?_⟩
        have so := same_upd (o := .lst ([V.str wAxes] ++ (rs.map axS).map V.str)) no
        refine ⟨sp1, o, wAxes :: rs.map axS, rfl, rfl, .inl (lstNew upd_same), ?_, ?_⟩
        · refine join_room (k := 31100) (m := 101) (fun x hx => ?_) (by rw [List.length_cons, List.length_map]; omega) (by rw [len1b]; decide)
          rcases List.mem_cons.mp hx with rfl | hx
          · omega
          · obtain ⟨r, hr', rfl⟩ := List.mem_map.mp hx
            exact axS_len (hz.num r hr') (hz.mks r hr')
        · rw [join_eq]
          exact q _ ((sl.trans s2).trans so)
    | word wd ms =>
      obtain ⟨u, h1, h2⟩ := hR
      obtain ⟨hw, hm⟩ := hz
      have lm := mt_len hm.nat hm.few
      have lw : wd.length ≤ 10 := by rcases hw with rfl | rfl <;> omega
      have at1 : atI [V.str wd, V.ref u] 1 = some (.ref u) := atI_nat (xs := [V.str wd, V.ref u]) (j := 1) rfl
      refine ⟨.ref a, rfl, a, _, 0, .str wd, rfl, rfl, h1, atI_0, ?_⟩
      refine nx_step ?_
      dsimp only
      refine ⟨.str wd, rfl, rfl, false, by rcases hw with rfl | rfl <;> decide +kernel, iteF ?_⟩
      unfold tNext
      dsimp only
      refine ⟨.str wd, rfl, rfl, false, by rcases hw with rfl | rfl <;> decide +kernel, iteF ?_⟩
      dsimp only
      refine ⟨.str wd, rfl, .inl ⟨wd, rfl, by omega, wd, rfl, by rw [emp_app]; omega, ?_⟩⟩
      rw [emp_app]
      refine ⟨sp1, rfl, by rw [len_app, len1b]; omega, .ref a, rfl, a, _, 1, .ref u, rfl, rfl, h1, at1, u, ms, rfl, h2, hm, fun H1 s1 => .inl ⟨mt ms, rfl, Nat.le_trans lm (by omega), mt ms, rfl, by rw [len_app, len_app, len1b]; omega, ?_⟩⟩
      exact q H1 s1
end
end K52
set_option maxHeartbeats 4000000
namespace K52
open PySem PySem.Spec PyProof.Rows L2 RV TL
structure RzR (rs : List (Int × List Int)) : Prop where
  z : Rz rs
  one : ∀ r ∈ rs, 1 ≤ r.1
  full : ∀ r ∈ rs, r.2 ≠ []
  few : ∀ r ∈ rs, r.2.length ≤ 100
  ne : rs ≠ []
theorem run_free {r : Int × List Int} (h : r.2 ≠ []) : 32 ∉ tl (runS r) := by
  unfold runS
  rw [tl_append, tl_append, List.mem_append, List.mem_append, tl_star]
  rintro ((h1 | h1) | h1)
  · exact num_free (.inl (by decide)) h1
  · simp at h1
  · exact mt_free h (.inl (by decide)) h1
theorem run_part (r : Int × List Int) : Txt.partition (runS r) star = (num r.1.toNat, star, mt r.2) := partition_app (s := 42) (S := []) tl_star (num_free (.inl (by decide)))
theorem ring_split {rs : List (Int × List Int)} (h : RzR rs) : Txt.split (ringS rs) sp1 = rs.map runS := by
  unfold ringS
  rw [← join_eq]
  refine split_join (s := 32) (S := []) tl_sp (by decide +kernel) (by simp [h.ne]) fun p hp => ?_
  obtain ⟨r, hr, rfl⟩ := List.mem_map.mp hp
  exact run_free (h.full r hr)
theorem ring_len {rs : List (Int × List Int)} (h : Rz rs) : (ringS rs).length ≤ 3110100 := by
  have := join_short (y := sp1) (l := rs.map runS) (k := 31100) (m := 100) (fun x hx => by
    obtain ⟨r, hr', rfl⟩ := List.mem_map.mp hx
    exact runS_len (h.num r hr') (h.mks r hr')) (by rw [List.length_map]; exact h.few)
  rw [len1b] at this
  exact this
theorem pair_free {p : List Int} : 32 ∉ tl (pairS p) ∧ 45 ∉ tl (pairS p) := by
  unfold pairS
  rw [tl_append, tl_append, tl_slash]
  constructor <;> rw [List.mem_append, List.mem_append] <;> rintro ((h1 | h1) | h1)
  · exact num_free (.inl (by decide)) h1
  · simp at h1
  · exact num_free (.inl (by decide)) h1
  · exact num_free (.inl (by decide)) h1
  · simp at h1
  · exact num_free (.inl (by decide)) h1
theorem plan_ne {ps : List (List Int)} (h : ps ≠ []) : planS ps = Str.join sp1 (ps.map pairS) := by unfold planS; rw [if_neg h]
theorem plan_dash {ps : List (List Int)} (h : ps ≠ []) : planS ps ≠ dash := fun e => by
  rw [plan_ne h] at e
  have : 45 ∉ tl (Str.join sp1 (ps.map pairS)) := mem_join (by rw [tl_sp]; decide) fun x hx => by
    obtain ⟨p, _, rfl⟩ := List.mem_map.mp hx
    exact pair_free.2
  rw [e, tl_dash] at this
  exact this (by simp)
theorem plan_split {ps : List (List Int)} (h : ps ≠ []) : Txt.split (planS ps) sp1 = ps.map pairS := by
  rw [plan_ne h, ← join_eq]
  refine split_join (s := 32) (S := []) tl_sp (by decide +kernel) (by simp [h]) fun p hp => ?_
  obtain ⟨r, hr, rfl⟩ := List.mem_map.mp hp
  exact pair_free.1
theorem pair_split (x y : Int) : Txt.split (pairS [x, y]) slash = [num x.toNat, num y.toNat] := by
  have e : pairS [x, y] = Txt.join slash [num x.toNat, num y.toNat] := by
    rw [join_eq]
    refine ext_tl ?_
    rw [tl_join, tl_slash]
    show tl (num x.toNat ++ slash ++ num y.toNat) = tl (num x.toNat) ++ ([47] ++ tl (num y.toNat))
    rw [tl_append, tl_append, tl_slash, List.append_assoc]
  rw [e]
  refine split_join (s := 47) (S := []) tl_slash (by decide +kernel) (by simp) fun p hp => ?_
  simp only [List.mem_cons, List.mem_nil_iff, or_false, List.not_mem_nil] at hp
  rcases hp with rfl | rfl
  · exact num_free (.inl (by decide))
  · exact num_free (.inl (by decide))
theorem plan_len {ps : List (List Int)} (h : Pz ps) : (planS ps).length ≤ 3110100 := by
  by_cases e : ps = []
  · subst e
    show dash.length ≤ _
    rw [len_tl, tl_dash]; decide
  · rw [plan_ne e]
    have := join_short (y := sp1) (l := ps.map pairS) (k := 31100) (m := 100) (fun x hx => by
      obtain ⟨r, hr', rfl⟩ := List.mem_map.mp hx
      obtain ⟨x, y, rfl, x0, y0⟩ := h.pr r hr'
      exact pairS_len x0 y0) (by rw [List.length_map]; exact h.few)
    rw [len1b] at this
    exact this
section
variable {P : Program} {w : World} {K : PySem.W.Frag} {mg : Str → Option Value} {base : Heap} {t1 t2 t3 t4 : Tok}
/-! ### marks_in -/
theorem scMI : FnScope ["word"] ["word"] (defScope sMarksIn) := ⟨rfl, rfl, rfl, by decide +kernel, rfl, by decide +kernel, by decide +kernel⟩
def spMI (K : PySem.W.Frag) : Sp := fun vs H Q _ => ∃ (ms : List Int), vs = [.str (mt ms)] ∧ ms ≠ [] ∧ Mk8 ms ∧ ∀ (b : Addr) H', Same H H' → SqT K H' b (ms.map V.int) → Q (.ref b) H'
theorem ok_mi {f fN fN1 : Addr} {fd dN dN1 : FuncData} (F : Fun K "marks_in" "marks_in" sMarksIn f fd) (DN : DefAt K mg "numbers_in" sNumsIn ["words"] fN dN) (DN1 : DefAt K mg "number_in" sNumIn ["word"] fN1 dN1) (B : Bare mg) (mN : mg "NOTHING" = some (.str dash t1)) (mS : mg "FIGURES" = some (.str sFig t2)) (mF : mg "MOST_FIGURES" = some (.int 30 t3)) :
    FnOk P w K mg base CX0 3 f fd ["word"] (spMI K) := by
  have GN : FnOk P w K mg base CX0 2 fN dN ["words"] (spNs K) := ok_ns DN.fn DN1 B mS mF
  refine F.ok scMI (fun vs H Q E h => ?_) (fun cdv A outer s H vs Q E hr h => ?_)
  · obtain ⟨ms, rfl, _⟩ := h
    rfl
  · obtain ⟨ms, rfl, hne, hm, q⟩ := h
    refine ⟨_, pss_cons (ps_if (pt_cmpR op_eq (pv 0) (pe_glob (v := .str dash) rfl mN ⟨_, rfl⟩) (nomark _)) (pss_one (ps_ret (pe_tup pa_nil))) pss_nil)
      (pss_one (ps_ret (pe_call GN hr (by rfl) DN.mg DN.fn.kp DN.bi .nil pass0 (pa_cons (pe_split (pv 0) pe_str) pa_nil)))), ?_⟩
    have z : sizeLine ≥ 100000 := by rw [sizeLine_eq]; decide
    have lm := mt_len hm.nat hm.few
    have hf := hm.few
    refine ⟨.str (mt ms), rfl, rfl, false, ?_, iteF ?_⟩
    · exact congrArg V.bl (decide_eq_false fun w => mt_pos hne (V.str.inj w))
    unfold tNext
    dsimp only
    refine ⟨.str (mt ms), rfl, ⟨_, rfl⟩, mt ms, pt1, rfl, rfl, by decide +kernel, by omega, fun c nc => ?_⟩
    rw [mt_split hne]
    have sc := same_upd (o := .lst ((ms.map fun x => num x.toNat).map V.str)) nc
    refine ⟨c, ms.map Int.toNat, rfl, lstNew ?_, by rw [List.length_map]; exact hf, fun n hn => ?_, fun b H1 s1 hb => ?_⟩
    · rw [upd_same, List.map_map, List.map_map]; rfl
    · obtain ⟨x, hx, rfl⟩ := List.mem_map.mp hn
      exact hm.nat x hx
    · refine q b H1 (sc.trans s1) ?_
      have e : (ms.map Int.toNat).map (fun (n : Nat) => (n : Int)) = ms := by
        rw [List.map_map]
        exact (List.map_congr_left fun x hx => show ((x.toNat : Nat) : Int) = x by have := (hm.inn x hx).1; omega).trans (List.map_id _)
      rw [e] at hb
      exact hb
/-! ### run_in -/
abbrev nRI : List Str := ["word", "first", "star", "rest", "times", "marks"]
theorem scRI : FnScope nRI ["word"] (defScope sRunIn) := ⟨rfl, rfl, rfl, by decide +kernel, rfl, by decide +kernel, by decide +kernel⟩
def spRI (K : PySem.W.Frag) : Sp := fun vs H Q _ => ∃ (r : Int × List Int), vs = [.str (runS r)] ∧ 1 ≤ r.1 ∧ r.1 < 10 ^ 30 ∧ Mk8 r.2 ∧ r.2 ≠ [] ∧ r.2.length ≤ 100 ∧ ∀ (k : Rk) H', Same H H' → valR k = r → RunOk K H' k → H' k.1 ≠ none → Q (.ref k.1) H'
structure RD (K : PySem.W.Frag) (mg : Str → Option Value) (fNI fNs fMI fRI fA : Addr) (dNI dNs dMI dRI dA : FuncData) : Prop where
  ni : DefAt K mg "number_in" sNumIn ["word"] fNI dNI
  ns : DefAt K mg "numbers_in" sNumsIn ["words"] fNs dNs
  mi : DefAt K mg "marks_in" sMarksIn ["word"] fMI dMI
  ri : DefAt K mg "run_in" sRunIn ["word"] fRI dRI
  am : DefAt K mg "are_marks" sMarks ["thing", "many"] fA dA
structure RG (mg : Str → Option Value) (t1 t2 t3 t4 : Tok) : Prop where
  mN : mg "NOTHING" = some (.str dash t1)
  mS : mg "FIGURES" = some (.str sFig t2)
  mF : mg "MOST_FIGURES" = some (.int 30 t3)
  mM : mg "MOST_MARKS" = some (.int 8 t4)
variable {fNI fNs fMI fRI fA : Addr} {dNI dNs dMI dRI dA : FuncData}
theorem ok_ri (R : RD K mg fNI fNs fMI fRI fA dNI dNs dMI dRI dA) (GA : FnOk P w K mg base CX0 3 fA dA ["thing", "many"] (spMarks K)) (B : Bare mg) (G : RG mg t1 t2 t3 t4) : FnOk P w K mg base CX0 4 fRI dRI ["word"] (spRI K) := by
  have GN : FnOk P w K mg base CX0 1 fNI dNI ["word"] spNI := ok_ni R.ni.fn B G.mS G.mF
  have GM : FnOk P w K mg base CX0 3 fMI dMI ["word"] (spMI K) := ok_mi R.mi.fn R.ns R.ni B G.mN G.mS G.mF
  refine R.ri.fn.ok scRI (fun vs H Q E h => ?_) (fun cdv A outer s H vs Q E hr h => ?_)
  · obtain ⟨r, rfl, _⟩ := h
    rfl
  · obtain ⟨r, rfl, h1, h30, hm, hne, h100, q⟩ := h
    refine ⟨_, pss_cons (ps_asg (pe_partition (pv 0) pe_str) (pg_tup rfl (pgs_cons (pg_name (i := 1) scRI.nd rfl (Or.inl rfl)) (pgs_cons (pg_name (i := 2) scRI.nd rfl (Or.inl rfl)) (pgs_cons (pg_name (i := 3) scRI.nd rfl (Or.inl rfl)) pgs_nil)))))
      (pss_cons (ps_set (i := 4) scRI.nd rfl (Or.inl rfl) (pe_call GN (hr.mono (by decide)) (by rfl) R.ni.mg R.ni.fn.kp R.ni.bi .nil pass0 (pa_cons (pv 1) pa_nil)))
      (pss_cons (ps_set (i := 5) scRI.nd rfl (Or.inl rfl) (pe_call GM hr (by rfl) R.mi.mg R.mi.fn.kp R.mi.bi .nil pass0 (pa_cons (pv 3) pa_nil)))
      (pss_cons (ps_if (PW.pt (pw_or (pt_cmpR op_isN (pv 4) pe_non (nomark _)) (pw_or (pt_cmpR op_eq (pv 4) pe_int (nomark _)) (pw_or1 (pt_not (pt_val (pe_call GA hr (by rfl) R.am.mg R.am.fn.kp R.am.bi .nil pass0 (pa_cons (pv 5) (pa_cons (pe_glob (v := .int 8) rfl G.mM ⟨_, rfl⟩) pa_nil))))))))) (pss_one (ps_ret pe_non)) pss_nil)
      (pss_one (ps_ret (pe_tup (pa_cons (pv 4) (pa_cons (pv 5) pa_nil)))))))), ?_⟩
    have z : sizeLine ≥ 100000 := by rw [sizeLine_eq]; decide
    have lr := runS_len ⟨by omega, h30⟩ hm
    have et : ((r.1.toNat : Nat) : Int) = r.1 := by omega
    refine ⟨.str (runS r), rfl, ⟨_, rfl⟩, runS r, star, rfl, rfl, by decide +kernel, by omega, fun p np => ?_⟩
    rw [run_part]
    have sp := same_upd (o := .tup [.str (num r.1.toNat), .str star, .str (mt r.2)]) np
    refine ⟨p, _, rfl, tupNew upd_same, rfl, _, _, rfl, _, _, rfl, _, _, rfl, rfl, ?_⟩
    generalize upd H p (.tup [.str (num r.1.toNat), .str star, .str (mt r.2)]) = H1 at sp ⊢
    dsimp only
    refine ⟨.str (num r.1.toNat), rfl, r.1.toNat, rfl, nat_small (by omega) h30, fun H2 s2 => ?_⟩
    rw [et]
    refine nx_step ?_
    dsimp only
    refine ⟨.str (mt r.2), rfl, r.2, rfl, hne, hm, fun b H3 s3 hb => ?_⟩
    refine nx_step ?_
    dsimp only
    refine ⟨.int r.1, rfl, rfl, false, rfl, iteF ⟨.int r.1, rfl, rfl, false, ?_, iteF ⟨.ref b, rfl, b, r.2, 8, rfl, hb, List.length_pos_iff.mpr hne, by omega, fun i hi => hm.inn i hi, fun H4 s4 => ⟨true, rfl, iteF ?_⟩⟩⟩⟩
    · exact congrArg V.bl (decide_eq_false fun w => by have := V.int.inj w; omega)
    unfold tNext
    dsimp only
    refine ⟨.int r.1, rfl, .ref b, rfl, by show 2 ≤ sizeLine; omega, fun T nT => ?_⟩
    have sT := same_upd (o := .tup [.int r.1, .ref b]) nT
    exact q (T, b, r.1, r.2) _ (((sp.trans s2).trans s3).trans (s4.trans sT)) rfl ⟨tupNew upd_same, sqT_same (s4.trans sT) hb⟩ (by rw [upd_same]; exact fun c => nomatch c)
end
end K52
set_option maxHeartbeats 4000000
namespace RV
open PySem PySem.Spec PyProof.Rows L2
/-- a list of tuples of ints, one that is written -/
def TLp (K : PySem.W.Frag) (H : Hp) (F : Addr) (Ls : List (List Int)) : Prop := ∃ ks : List (Addr × List Int), ks.map (·.2) = Ls ∧ H F = some (.lst (ks.map fun q => V.ref q.1)) ∧ ∀ q ∈ ks, SqT K H q.1 (q.2.map V.int)
theorem sqT_over {K : PySem.W.Frag} {H : Hp} {D : Addr} {vs : List V} {o' : HO} (e : H D = some (.lst vs)) {a : Addr} {xs : List V} (h : SqT K H a xs) : SqT K (upd H D o') a xs := by
  rcases h with (h | ⟨o, h⟩) | h
  · exact .inl (.inl (by rw [upd_ne (fun z => by rw [z, e] at h; cases h)]; exact h))
  · exact .inl (.inr ⟨o, by rw [upd_ne (fun z => by rw [z, e] at h; cases h)]; exact h⟩)
  · exact .inr h
theorem TLp.same {K : PySem.W.Frag} {H H' : Hp} {F : Addr} {Ls : List (List Int)} (h : TLp K H F Ls) (s : Same H H') : TLp K H' F Ls := by
  obtain ⟨ks, h1, h2, h3⟩ := h
  exact ⟨ks, h1, s _ _ h2, fun q hq => sqT_same s (h3 q hq)⟩
theorem TLp.nil {K : PySem.W.Frag} {H : Hp} {F : Addr} (h : H F = some (.lst [])) : TLp K H F [] := ⟨[], rfl, h, fun _ z => nomatch z⟩
theorem TLp.put {K : PySem.W.Frag} {H : Hp} {F t : Addr} {ks : List (Addr × List Int)} {w : List Int} (h2 : H F = some (.lst (ks.map fun q => V.ref q.1))) (h3 : ∀ q ∈ ks, SqT K H q.1 (q.2.map V.int)) (ht : SqT K H t (w.map V.int)) :
    TLp K (upd H F (.lst ((ks.map fun q => V.ref q.1) ++ [.ref t]))) F (ks.map (·.2) ++ [w]) := by
  refine ⟨ks ++ [(t, w)], by rw [List.map_append]; rfl, by rw [upd_same, List.map_append]; rfl, fun q hq => sqT_over h2 ?_⟩
  rcases List.mem_append.mp hq with z | z
  · exact h3 q z
  · rcases List.mem_singleton.mp z with rfl
    exact ht
theorem TLp.over {K : PySem.W.Frag} {H : Hp} {F D : Addr} {vs : List V} {o' : HO} {Ls : List (List Int)} (h : TLp K H F Ls) (e : H D = some (.lst vs)) (ne : F ≠ D) : TLp K (upd H D o') F Ls := by
  obtain ⟨ks, h1, h2, h3⟩ := h
  exact ⟨ks, h1, by rw [upd_ne ne]; exact h2, fun q hq => sqT_over e (h3 q hq)⟩
theorem TLp.len {K : PySem.W.Frag} {H : Hp} {F : Addr} {Ls : List (List Int)} (h : TLp K H F Ls) : ∃ xs : List V, H F = some (.lst xs) ∧ xs.length = Ls.length := by
  obtain ⟨ks, h1, h2, h3⟩ := h
  exact ⟨_, h2, by rw [← h1, List.length_map, List.length_map]⟩
theorem TLp.tups {K : PySem.W.Frag} {H : Hp} {F b : Addr} {Ls : List (List Int)} (h : TLp K H F Ls) (n : H b = none) : ∃ xs : List V, H F = some (.lst xs) ∧ Tups K (upd H b (.tup xs)) b Ls := by
  obtain ⟨ks, h1, h2, h3⟩ := h
  exact ⟨_, h2, ks, h1, tupNew upd_same, fun q hq => sqT_same (same_upd n) (h3 q hq)⟩
theorem dpAll_refs {K : PySem.W.Frag} {H : Hp} : ∀ ks : List (Addr × List Int), (∀ q ∈ ks, SqT K H q.1 (q.2.map V.int)) → DpAll K H (ks.map fun q => V.ref q.1) ((ks.map (·.2)).map dI)
  | [], _ => .nil
  | q :: r, h => .cons (dpT (h q (List.mem_cons_self ..))) (dpAll_refs r fun z hz => h z (List.mem_cons_of_mem _ hz))
theorem TLp.dp {K : PySem.W.Frag} {H : Hp} {F : Addr} {Ls : List (List Int)} (h : TLp K H F Ls) : Dp K H (.ref F) (.list (Ls.map dI)) := by
  obtain ⟨ks, h1, h2, h3⟩ := h
  subst h1
  exact .lst (lstNew h2) (dpAll_refs ks h3)
/-- [x for t in l for x in t] -/
theorem lc_flat {K : PySem.W.Frag} {σ : L2.St} {H1 : Hp} {a D : Addr} {vc vm : Nat} {ps : List (List Int)} {Qd : Hp → Prop} (hT : TLp K H1 a ps) (hl : ps.length ≤ 1000) (hp : ∀ p ∈ ps, p.length ≤ 100) (nD : H1 D = none) (lc : vc < σ.length) (lm : vm < σ.length) (ne : vc ≠ vm)
    (hd : ∀ H', Same H1 H' → H' D = some (.lst (ps.flatten.map V.int)) → Qd H') :
    ∃ W : Nat → Nat → Hp → Prop, (∃ m, W 0 m (upd H1 D (.lst []))) ∧ ∀ i m H, W i m H →
      ((Itl K a).stop i H ∧ Qd H) ∨ ((Itl K a).go i H ∧ ∃ Nx : Hp → Prop, (∀ H', Nx H' → ∃ m', m' < m ∧ W (i + 1) m' H') ∧ ∀ x H', (Itl K a).yld i H x H' → gName vc x (wipe σ [vc, vm]) H' fun σ2 H2 => wipe σ2 [vc, vm] = wipe σ [vc, vm] ∧ tYes σ2 H2 fun b H3 =>
        if b = true then iTup K (tVar vc) σ2 H3 fun J1 H4 => ∃ W1 : Nat → Nat → Hp → Prop, (∃ m, W1 0 m H4) ∧ ∀ j k H, W1 j k H →
          (J1.stop j H ∧ Nx H) ∨ (J1.go j H ∧ ∃ Nx1 : Hp → Prop, (∀ H', Nx1 H' → ∃ k', k' < k ∧ W1 (j + 1) k' H') ∧ ∀ x H', J1.yld j H x H' → gName vm x (wipe σ2 [vm]) H' fun σ3 H5 => wipe σ3 [vm] = wipe σ2 [vm] ∧ tYes σ3 H5 fun b H6 =>
            if b = true then tVar vm σ3 H6 fun y H7 => ∃ acc, H7 D = some (.lst acc) ∧ acc.length < sizeLine ∧ Nx1 (upd H7 D (.lst (acc ++ [y]))) else Nx1 H6)
        else Nx H3) := by
  obtain ⟨ks, rfl, h2, h3⟩ := hT
  rw [List.length_map] at hl
  have short : ∀ l : List (Addr × List Int), (∀ q ∈ l, q.2.length ≤ 100) → ((l.map (·.2)).flatten).length ≤ l.length * 100 := by
    intro l
    induction l with
    | nil => intro _; simp
    | cons q r ih =>
      intro h
      have h1 := h q (List.mem_cons_self ..)
      have h2 := ih fun z hz => h z (List.mem_cons_of_mem _ hz)
      simp only [List.map_cons, List.flatten_cons, List.length_append, List.length_cons]
      omega
  have hq : ∀ q ∈ ks, q.2.length ≤ 100 := fun q z => hp q.2 (List.mem_map.mpr ⟨q, z, rfl⟩)
  have hL : ∀ H', Same H1 H' → SqL K H' a (ks.map fun q => V.ref q.1) := fun H' s => lstNew (s _ _ h2)
  refine ⟨fun i m H => m = ks.length - i ∧ i ≤ ks.length ∧ Same H1 H ∧ H D = some (.lst ((((ks.take i).map (·.2)).flatten).map V.int)), ⟨ks.length, by simp, Nat.zero_le _, same_upd nD, upd_same⟩, ?_⟩
  rintro i m H ⟨rfl, hi, s1, e1⟩
  by_cases hlt : i < ks.length
  · have eg : ks[i]? = some ks[i] := List.getElem?_eq_getElem hlt
    refine .inr ⟨⟨_, V.ref ks[i].1, hL H s1, by rw [List.getElem?_map, eg]; rfl⟩, fun H' => Same H1 H' ∧ H' D = some (.lst ((((ks.take (i + 1)).map (·.2)).flatten).map V.int)), fun H' p => ⟨ks.length - (i + 1), by omega, rfl, hlt, p.1, p.2⟩, fun x H' y => ?_⟩
    obtain ⟨rfl, y⟩ := y
    have ex := y _ (hL _ s1)
    rw [List.getElem?_map, eg] at ex
    cases ex
    refine nx_step ?_
    have hT1 : SqT K H' ks[i].1 (ks[i].2.map V.int) := sqT_same s1 (h3 _ (List.getElem_mem hlt))
    refine ⟨?_, tt_yes ⟨.ref ks[i].1, ?_, ks[i].1, rfl, ⟨_, hT1⟩, ?_⟩⟩
    · simp [wipe, List.set_set, List.set_comm, ne]
    · simp [wipe, lc, lm, ne, ne.symm]
    have e2 : (((ks.take (i + 1)).map (·.2)).flatten) = ((ks.take i).map (·.2)).flatten ++ ks[i].2 := by
      rw [List.take_add_one, eg, List.map_append, List.flatten_append]
      simp
    have hlen : (((ks.take i).map (·.2)).flatten).length ≤ 100000 := by
      have := short (ks.take i) fun q z => hq q (List.mem_of_mem_take z)
      have h4 : (ks.take i).length ≤ 1000 := by rw [List.length_take]; omega
      omega
    have hlen2 := hq _ (List.getElem_mem hlt)
    refine ⟨fun j k H2 => k = ks[i].2.length - j ∧ j ≤ ks[i].2.length ∧ Same H1 H2 ∧ H2 D = some (.lst ((((ks.take i).map (·.2)).flatten ++ ks[i].2.take j).map V.int)), ⟨_, rfl, Nat.zero_le _, s1, by rw [List.take_zero, List.append_nil]; exact e1⟩, ?_⟩
    rintro j k H2 ⟨rfl, hj, s2, f1⟩
    have hT2 : SqT K H2 ks[i].1 (ks[i].2.map V.int) := sqT_same s2 (h3 _ (List.getElem_mem hlt))
    by_cases hjt : j < ks[i].2.length
    · have ej : ks[i].2[j]? = some ks[i].2[j] := List.getElem?_eq_getElem hjt
      refine .inr ⟨⟨_, V.int ks[i].2[j], hT2, by rw [List.getElem?_map, ej]; rfl⟩, fun H' => Same H1 H' ∧ H' D = some (.lst ((((ks.take i).map (·.2)).flatten ++ ks[i].2.take (j + 1)).map V.int)), fun H' p => ⟨_, by omega, rfl, hjt, p.1, p.2⟩, fun x H3 y => ?_⟩
      obtain ⟨rfl, y⟩ := y
      have ex := y _ hT2
      rw [List.getElem?_map, ej] at ex
      cases ex
      refine nx_step ?_
      refine ⟨by simp [wipe, List.set_set], tt_yes ⟨.int ks[i].2[j], ?_, _, f1, ?_, fun b o z => ?_, ?_⟩⟩
      · simp [wipe, lc, lm, ne, ne.symm]
      · rw [List.length_map, List.length_append, List.length_take, sizeLine_eq]; omega
      · rw [upd_ne (ne_of_none z nD)]; exact s2 b o z
      · rw [upd_same, List.take_add_one, ej, ← List.append_assoc, List.map_append (l₁ := _ ++ _)]; rfl
    · have e3 : ks[i].2.take j = ks[i].2 := List.take_of_length_le (Nat.le_of_not_lt hjt)
      refine .inl ⟨⟨_, hT2, by rw [List.length_map]; exact Nat.le_of_not_lt hjt⟩, s2, ?_⟩
      rw [e2, f1, e3]
  · have e : i = ks.length := by omega
    subst e
    refine .inl ⟨⟨_, hL H s1, by rw [List.length_map]; exact Nat.le_refl _⟩, hd H s1 ?_⟩
    rw [e1, List.take_of_length_le (Nat.le_refl _)]
/-! ### tuples of two, compared -/
theorem le_pair {u v x y : Int} (h : HT.lexLt [u, v] [x, y] = true) : Ob.lexAt (fun j => decide ([x, y].getD j 0 = [u, v].getD j 0)) (fun j => decide ([x, y].getD j 0 ≤ [u, v].getD j 0)) (decide ([x, y].length ≤ [u, v].length)) 0 (min [x, y].length [u, v].length) = false := by
  have h1 : (if u = x then (if v = y then false else decide (v < y)) else decide (u < x)) = true := h
  show (if decide (x = u) = true then (if decide (y = v) = true then _ else decide (y ≤ v)) else decide (x ≤ u)) = false
  by_cases e : u = x
  · subst e
    rw [if_pos rfl] at h1
    by_cases e2 : v = y
    · rw [if_pos e2] at h1; cases h1
    · rw [if_neg e2] at h1
      have h2 := of_decide_eq_true h1
      rw [if_pos (by simp), if_neg (by simp; omega)]
      simp; omega
  · rw [if_neg e] at h1
    have h2 := of_decide_eq_true h1
    rw [if_neg (by simp; omega)]
    simp; omega
end RV
set_option maxHeartbeats 4000000
namespace K52
open PySem PySem.Spec PyProof.Rows L2 RV TL
theorem RunOk.same {K : PySem.W.Frag} {H H' : Hp} {k : Rk} (h : RunOk K H k) (s : Same H H') : RunOk K H' k := ⟨sqT_same s h.1, sqT_same s h.2⟩
theorem RunOk.over {K : PySem.W.Frag} {H : Hp} {D : Addr} {vs : List V} {o : HO} {k : Rk} (h : RunOk K H k) (e : H D = some (.lst vs)) : RunOk K (upd H D o) k := ⟨sqT_over e h.1, sqT_over e h.2⟩
section
variable {P : Program} {w : World} {K : PySem.W.Frag} {mg : Str → Option Value} {base : Heap} {t1 t2 t3 t4 : Tok}
variable {fNI fNs fMI fRI fA : Addr} {dNI dNs dMI dRI dA : FuncData}
/-! ### read_ring -/
theorem scRR : FnScope ["text", "runs", "word", "run"] ["text"] (defScope sReadRing) := ⟨rfl, rfl, rfl, by decide +kernel, rfl, by decide +kernel, by decide +kernel⟩
def spRR (K : PySem.W.Frag) : Sp := fun vs H Q _ => ∃ (rs : List (Int × List Int)), vs = [.str (ringS rs)] ∧ RzR rs ∧ ∀ (a : Addr) H', Same H H' → RingAt K H' a rs → Q (.ref a) H'
theorem ok_rr {f : Addr} {fd : FuncData} (F : Fun K "read_ring" "read_ring" sReadRing f fd) (R : RD K mg fNI fNs fMI fRI fA dNI dNs dMI dRI dA) (GA : FnOk P w K mg base CX0 3 fA dA ["thing", "many"] (spMarks K)) (B : Bare mg) (G : RG mg t1 t2 t3 t4) : FnOk P w K mg base CX0 5 f fd ["text"] (spRR K) := by
  have GR : FnOk P w K mg base CX0 4 fRI dRI ["word"] (spRI K) := ok_ri R GA B G
  refine F.ok scRR (fun vs H Q E h => ?_) (fun cdv A outer s H vs Q E hr h => ?_)
  · obtain ⟨rs, rfl, _⟩ := h
    rfl
  · obtain ⟨rs, rfl, hz, q⟩ := h
    refine ⟨_, pss_cons (ps_if (pt_not (pt_val (pe_callB call_isi (by rfl) B.isinstance (by decide +kernel) (pa_cons (pv 0) (pa_cons (pe_bltn (v := .ty "str") (by rfl) B.str (by decide +kernel) rfl) pa_nil))))) (pss_one ps_never) pss_nil)
      (pss_cons (ps_setLc (i := 1) (own := [("word", 2)]) (g := gName 2) (tt := tYes) rfl scRR.nd rfl rfl (by rfl) (pi_list (pe_split (pv 0) pe_str)) (blkOk_by (N := ["text", "runs", "word", "run"]) (sc := defScope sReadRing) (by decide +kernel)) (fun _ _ _ _ _ => pg_name (i := 2) scRR.nd rfl (Or.inl rfl)) (fun _ _ _ _ _ => pts_nil)
          (fun _ _ _ _ _ => pe_call GR hr (by rfl) R.ri.mg R.ri.fn.kp R.ri.bi .nil pass0 (pa_cons (pv 2) pa_nil)))
      (pss_cons (ps_if (pt_val (pe_callB (cr_any rfl) (by rfl) B.any (by decide +kernel) (pa_cons (pe_lc (own := [("run", 3)]) (g := gName 3) (tt := tYes) rfl scRR.nd (pi_list (pv 1)) (blkOk_by (N := ["text", "runs", "word", "run"]) (sc := defScope sReadRing) (by decide +kernel)) (fun _ _ _ _ _ => pg_name (i := 3) scRR.nd rfl (Or.inl rfl)) (fun _ _ _ _ _ => pts_nil)
          (fun _ _ _ _ _ => pe_cmpR op_isN (pv 3) pe_non (nomark _))) pa_nil))) (pss_one ps_never) pss_nil)
      (pss_one (ps_ret (pe_tupleOf (by rfl) B.tuple (pv 1)))))), ?_⟩
    have lt := ring_len hz.z
    have hf := hz.z.few
    have z : sizeLine ≥ 4000000 := by rw [sizeLine_eq]; decide
    refine ⟨.str (ringS rs), rfl, .str (ringS rs), .ty "str", _, _, true, rfl, .ty "str", .base (.str _), kit_ty (by decide +kernel), true, rfl, iteF ?_⟩
    unfold tNext
    dsimp only
    refine ⟨.str (ringS rs), rfl, ⟨_, rfl⟩, ringS rs, sp1, rfl, rfl, by decide +kernel, by omega, fun la nla => ?_⟩
    rw [ring_split hz]
    have ela : (upd H la (.lst ((rs.map runS).map V.str))) la = some (.lst ((rs.map runS).map V.str)) := upd_same
    have sla := same_upd (o := .lst ((rs.map runS).map V.str)) nla
    generalize upd H la (.lst ((rs.map runS).map V.str)) = H1 at ela sla ⊢
    refine ⟨la, rfl, ⟨_, lstNew ela⟩, fun D nD => ?_⟩
    refine lc_list (K := K) (a := la) (xs := (rs.map runS).map V.str) (fun i H' => Same H1 H' ∧ ∃ ks : List Rk, ks.map valR = rs.take i ∧ H' D = some (.lst (ks.map fun k => V.ref k.1)) ∧ ∀ k ∈ ks, RunOk K H' k)
      ⟨same_upd nD, [], rfl, upd_same, fun _ w => nomatch w⟩ (fun i H' _ p => lstNew (p.1 _ _ ela)) (fun i x H' hx p => ?_) fun H2 p => ?_
    · obtain ⟨s1, ks, e1, e2, e3⟩ := p
      obtain ⟨y, g, rfl⟩ := map_at hx
      rw [List.getElem?_map] at g
      cases g2 : rs[i]? with
      | none => rw [g2] at g; cases g
      | some r =>
        rw [g2] at g
        cases g
        have hr' := List.mem_of_getElem? g2
        have hlen : ks.length ≤ 100 := by
          have w := congrArg List.length e1
          rw [List.length_map, List.length_take] at w
          omega
        refine ⟨rfl, tt_yes ⟨.str (runS r), rfl, r, rfl, hz.one r hr', (hz.z.num r hr').2, hz.z.mks r hr', hz.full r hr', hz.few r hr', fun k H3 s3 ek ok _ => ?_⟩⟩
        have e23 := s3 _ _ e2
        refine ⟨_, e23, by rw [List.length_map]; omega, fun b o w => ?_, ks ++ [k], ?_, ?_, fun q hq => RunOk.over ?_ e23⟩
        · rw [upd_ne (ne_of_none w nD)]; exact s3 _ _ (s1 b o w)
        · rw [List.map_append, e1, List.take_add_one, g2]
          show rs.take i ++ [valR k] = _
          rw [ek]; rfl
        · rw [upd_same, List.map_append]; rfl
        · rcases List.mem_append.mp hq with w | w
          · exact (e3 q w).same s3
          · rcases List.mem_singleton.mp w with rfl
            exact ok
    · rw [List.length_map, List.length_map, List.take_of_length_le (Nat.le_refl _)] at p
      obtain ⟨s2, ks, e1, e2, e3⟩ := p
      have lk : ks.length = rs.length := by rw [← e1, List.length_map]
      refine nx_step ?_
      refine ⟨.ref D, rfl, D, rfl, ⟨_, lstNew e2⟩, fun D2 nD2 => ?_⟩
      refine lc_mapV (ys := List.replicate ks.length (V.bl false)) (lstNew e2) (by rw [List.length_map]; omega) (by rw [List.length_replicate, List.length_map]) nD2 (fun i x y hx hy H' Q' s' q1 => ?_) fun H3 s3 e4 => ?_
      · obtain ⟨n, g, rfl⟩ := map_at hx
        have ey : y = V.bl false := (List.mem_replicate.mp (List.mem_of_getElem? hy)).2
        subst ey
        exact ⟨_, rfl, rfl, q1 H' (Same.refl H')⟩
      refine ⟨D2, List.replicate ks.length false, rfl, lstNew (by rw [e4, List.map_replicate]), ?_⟩
      have e5 : (List.replicate ks.length false).any id = false := by
        rw [List.any_eq_false]
        intro x hx
        rw [(List.mem_replicate.mp hx).2]; decide
      rw [e5]
      refine ⟨false, rfl, iteF ?_⟩
      dsimp only
      refine ⟨.ref D, rfl, .inl ⟨D, _, rfl, lstNew (s3 _ _ e2), fun b nb => ?_⟩⟩
      have sb := same_upd (o := .tup (ks.map fun k => V.ref k.1)) nb
      exact q b _ (((sla.trans s2).trans s3).trans sb) ⟨ks, e1, tupNew upd_same, fun k hk => ((e3 k hk).same s3).same sb⟩
/-! ### read_plan -/
theorem scRP : FnScope ["text", "pairs", "word", "pair"] ["text"] (defScope sReadPlan) := ⟨rfl, rfl, rfl, by decide +kernel, rfl, by decide +kernel, by decide +kernel⟩
def spRP (K : PySem.W.Frag) : Sp := fun vs H Q _ => ∃ (ps : List (List Int)), vs = [.str (planS ps)] ∧ Pz ps ∧ ∀ (a : Addr) H', Same H H' → Tups K H' a ps → Q (.ref a) H'
theorem ok_rp {f : Addr} {fd : FuncData} (F : Fun K "read_plan" "read_plan" sReadPlan f fd) (R : RD K mg fNI fNs fMI fRI fA dNI dNs dMI dRI dA) (B : Bare mg) (G : RG mg t1 t2 t3 t4) : FnOk P w K mg base CX0 3 f fd ["text"] (spRP K) := by
  have GN : FnOk P w K mg base CX0 2 fNs dNs ["words"] (spNs K) := ok_ns R.ns.fn R.ni B G.mS G.mF
  refine F.ok scRP (fun vs H Q E h => ?_) (fun cdv A outer s H vs Q E hr h => ?_)
  · obtain ⟨ps, rfl, _⟩ := h
    rfl
  · obtain ⟨ps, rfl, hz, q⟩ := h
    refine ⟨_, pss_cons (ps_if (pt_not (pt_val (pe_callB call_isi (by rfl) B.isinstance (by decide +kernel) (pa_cons (pv 0) (pa_cons (pe_bltn (v := .ty "str") (by rfl) B.str (by decide +kernel) rfl) pa_nil))))) (pss_one ps_never) pss_nil)
      (pss_cons (ps_if (pt_cmpR op_eq (pv 0) (pe_glob (v := .str dash) rfl G.mN ⟨_, rfl⟩) (nomark _)) (pss_one (ps_ret (pe_tup pa_nil))) pss_nil)
      (pss_cons (ps_setLc (i := 1) (own := [("word", 2)]) (g := gName 2) (tt := tYes) rfl scRP.nd rfl rfl (by rfl) (pi_list (pe_split (pv 0) pe_str)) (blkOk_by (N := ["text", "pairs", "word", "pair"]) (sc := defScope sReadPlan) (by decide +kernel)) (fun _ _ _ _ _ => pg_name (i := 2) scRP.nd rfl (Or.inl rfl)) (fun _ _ _ _ _ => pts_nil)
          (fun _ _ _ _ _ => pe_call GN hr (by rfl) R.ns.mg R.ns.fn.kp R.ns.bi .nil pass0 (pa_cons (pe_split (pv 2) pe_str) pa_nil)))
      (pss_cons (ps_if (pt_val (pe_callB (cr_any rfl) (by rfl) B.any (by decide +kernel) (pa_cons (pe_lc (own := [("pair", 3)]) (g := gName 3) (tt := tYes) rfl scRP.nd (pi_list (pv 1)) (blkOk_by (N := ["text", "pairs", "word", "pair"]) (sc := defScope sReadPlan) (by decide +kernel)) (fun _ _ _ _ _ => pg_name (i := 3) scRP.nd rfl (Or.inl rfl)) (fun _ _ _ _ _ => pts_nil)
          (fun _ _ _ _ _ => pe_or (pe_cmpR op_isN (pv 3) pe_non (nomark _)) (pe_one (pe_cmpR op_ne (pe_callB (call_lenK (K := K) rfl) (by rfl) B.len PySem.boot_len (pa_cons (pv 3) pa_nil)) pe_int (nomark _))))) pa_nil))) (pss_one ps_never) pss_nil)
      (pss_one (ps_ret (pe_tupleOf (by rfl) B.tuple (pv 1))))))), ?_⟩
    have lt := plan_len hz
    have hf := hz.few
    have z : sizeLine ≥ 4000000 := by rw [sizeLine_eq]; decide
    refine ⟨.str (planS ps), rfl, .str (planS ps), .ty "str", _, _, true, rfl, .ty "str", .base (.str _), kit_ty (by decide +kernel), true, rfl, iteF ?_⟩
    unfold tNext
    dsimp only
    by_cases e0 : ps = []
    · subst e0
      refine ⟨.str (planS []), rfl, rfl, true, ?_, iteT ?_⟩
      · exact congrArg V.bl (decide_eq_true rfl)
      · refine ⟨by show 0 ≤ sizeLine; omega, fun c nc => ?_⟩
        exact q c _ (same_upd nc) ⟨[], rfl, tupNew upd_same, fun _ w => nomatch w⟩
    refine ⟨.str (planS ps), rfl, rfl, false, ?_, iteF ?_⟩
    · exact congrArg V.bl (decide_eq_false fun w => plan_dash e0 (V.str.inj w))
    dsimp only
    refine ⟨.str (planS ps), rfl, ⟨_, rfl⟩, planS ps, sp1, rfl, rfl, by decide +kernel, by omega, fun la nla => ?_⟩
    rw [plan_split e0]
    have ela : (upd H la (.lst ((ps.map pairS).map V.str))) la = some (.lst ((ps.map pairS).map V.str)) := upd_same
    have sla := same_upd (o := .lst ((ps.map pairS).map V.str)) nla
    generalize upd H la (.lst ((ps.map pairS).map V.str)) = H1 at ela sla ⊢
    refine ⟨la, rfl, ⟨_, lstNew ela⟩, fun D nD => ?_⟩
    refine lc_list (K := K) (a := la) (xs := (ps.map pairS).map V.str) (fun i H' => Same H1 H' ∧ TLp K H' D (ps.take i))
      ⟨same_upd nD, TLp.nil upd_same⟩ (fun i H' _ p => lstNew (p.1 _ _ ela)) (fun i x H' hx p => ?_) fun H2 p => ?_
    · obtain ⟨s1, ks, e1, e2, e3⟩ := p
      obtain ⟨y, g, rfl⟩ := map_at hx
      rw [List.getElem?_map] at g
      cases g2 : ps[i]? with
      | none => rw [g2] at g; cases g
      | some r =>
        rw [g2] at g
        cases g
        obtain ⟨x, y, rfl, x0, y0⟩ := hz.pr r (List.mem_of_getElem? g2)
        have hlen : ks.length ≤ 100 := by
          have w := congrArg List.length e1
          rw [List.length_map, List.length_take] at w
          omega
        refine ⟨rfl, tt_yes ⟨.str (pairS [x, y]), rfl, ⟨_, rfl⟩, pairS [x, y], slash, rfl, rfl, by decide +kernel, by have := pairS_len x0 y0; omega, fun c nc => ?_⟩⟩
        rw [pair_split]
        have sc := same_upd (o := .lst ([num x.toNat, num y.toNat].map V.str)) nc
        refine ⟨c, [x.toNat, y.toNat], rfl, lstNew upd_same, by show 2 ≤ 1000; decide, fun n hn => ?_, fun b H3 s3 hb => ?_⟩
        · simp only [List.mem_cons, List.mem_nil_iff, or_false, List.not_mem_nil] at hn
          rcases hn with rfl | rfl
          · exact nat_small x0.1 x0.2
          · exact nat_small y0.1 y0.2
        have hb' : SqT K H3 b ([x, y].map V.int) := by
          have e : ([x.toNat, y.toNat].map fun (n : Nat) => (n : Int)) = [x, y] := by
            show [((x.toNat : Nat) : Int), ((y.toNat : Nat) : Int)] = [x, y]
            rw [show ((x.toNat : Nat) : Int) = x by omega, show ((y.toNat : Nat) : Int) = y by omega]
          rw [e] at hb
          exact hb
        have s13 := sc.trans s3
        have e23 := s13 _ _ e2
        refine ⟨_, e23, by rw [List.length_map]; omega, fun b' o w => ?_, ?_⟩
        · rw [upd_ne (ne_of_none w nD)]; exact s13 _ _ (s1 b' o w)
        · rw [List.take_add_one, g2, ← e1]
          exact TLp.put e23 (fun q hq => sqT_same s13 (e3 q hq)) hb'
    · rw [List.length_map, List.length_map, List.take_of_length_le (Nat.le_refl _)] at p
      obtain ⟨s2, ks, e1, e2, e3⟩ := p
      have lk : ks.length = ps.length := by rw [← e1, List.length_map]
      refine nx_step ?_
      refine ⟨.ref D, rfl, D, rfl, ⟨_, lstNew e2⟩, fun D2 nD2 => ?_⟩
      refine lc_mapV (ys := List.replicate ks.length (V.bl false)) (lstNew e2) (by rw [List.length_map]; omega) (by rw [List.length_replicate, List.length_map]) nD2 (fun i x y hx hy H' Q' s' q1 => ?_) fun H3 s3 e4 => ?_
      · obtain ⟨k, g, rfl⟩ := map_at hx
        have ey : y = V.bl false := (List.mem_replicate.mp (List.mem_of_getElem? hy)).2
        subst ey
        have hk := List.mem_of_getElem? g
        obtain ⟨x, y, e, _⟩ := hz.pr k.2 (by rw [← e1]; exact List.mem_map_of_mem hk)
        have hkT := sqT_same s' (e3 k hk)
        rw [e] at hkT
        refine ⟨.ref k.1, rfl, rfl, false, rfl, iteF ⟨.ref k.1, rfl, k.1, _, rfl, .inr hkT, rfl, ?_⟩⟩
        exact q1 H' (Same.refl H')
      refine ⟨D2, List.replicate ks.length false, rfl, lstNew (by rw [e4, List.map_replicate]), ?_⟩
      have e5 : (List.replicate ks.length false).any id = false := by
        rw [List.any_eq_false]
        intro x hx
        rw [(List.mem_replicate.mp hx).2]; decide
      rw [e5]
      refine ⟨false, rfl, iteF ?_⟩
      dsimp only
      refine ⟨.ref D, rfl, .inl ⟨D, _, rfl, lstNew (s3 _ _ e2), fun b nb => ?_⟩⟩
      have sb := same_upd (o := .tup (ks.map fun q => V.ref q.1)) nb
      exact q b _ (((sla.trans s2).trans s3).trans sb) ⟨ks, e1, tupNew upd_same, fun k hk => sqT_same (s3.trans sb) (e3 k hk)⟩
end
end K52
set_option maxHeartbeats 4000000
namespace K52
open PySem PySem.Spec PyProof.Rows L2 RV TL
section
variable {P : Program} {w : World} {K : PySem.W.Frag} {mg : Str → Option Value} {base : Heap} {t1 t2 t3 t4 : Tok}
structure LD (K : PySem.W.Frag) (mg : Str → Option Value) (fD fO fNu fMk fMT : Addr) (dD dO dNu dMk dMT : FuncData) : Prop where
  draw : DefAt K mg "_law_draw" sDraw ["_law_pail_here", "_law_many"] fD dD
  of : DefAt K mg "_law_of" sOf ["_law_pail_here", "_law_some"] fO dO
  nu : DefAt K mg "_law_number" sLNumber ["_law_pail_here"] fNu dNu
  mks : DefAt K mg "_law_marks" sLMarks ["_law_pail_here", "_law_least"] fMk dMk
  mtx : DefAt K mg "_law_marks_text" sLMText ["_law_marks_here"] fMT dMT
variable {fD fO fNu fMk fMT : Addr} {dD dO dNu dMk dMT : FuncData}
/-! ### _law_number -/
abbrev nNu : List Str := ["_law_pail_here", "_law_few", "_law_many"]
theorem scNu : FnScope nNu ["_law_pail_here"] (defScope sLNumber) := ⟨rfl, rfl, rfl, by decide +kernel, rfl, by decide +kernel, by decide +kernel⟩
def spNu : Sp := fun vs H Q _ => ∃ (p : Addr) (t : Nat), vs = [.ref p] ∧ PailAt H p t ∧ t ≤ 1500 ∧ ∀ (n : Int) (t' : Nat) (H' : Hp), 0 ≤ n → n < 10 ^ 30 → t' ≤ t + 3 → PailAt H' p t' → But p H H' → Q (.int n) H'
theorem ok_nu (L : LD K mg fD fO fNu fMk fMT dD dO dNu dMk dMT) (B : Bare mg) : FnOk P w K mg base CX0 3 fNu dNu ["_law_pail_here"] spNu := by
  have GD : FnOk P w K mg base CX0 1 fD dD ["_law_pail_here", "_law_many"] spDraw := ok_draw L.draw.fn
  have GO : FnOk P w K mg base CX0 2 fO dO ["_law_pail_here", "_law_some"] (spOf K) := ok_of L.of.fn L.draw B
  refine L.nu.fn.ok scNu (fun vs H Q E h => ?_) (fun cdv A outer s H vs Q E hr h => ?_)
  · obtain ⟨p, t, rfl, _⟩ := h
    rfl
  · obtain ⟨p, t, rfl, hp, ht, q⟩ := h
    have r1 := hr.mono (show 1 ≤ 2 by decide)
    refine ⟨_, pss_cons (ps_par (i := 1) (j := 2) (by rfl) scNu.nd rfl rfl (by decide) rfl rfl (pa_cons (pe_call GD r1 (by rfl) L.draw.mg L.draw.fn.kp L.draw.bi .nil pass0 (pa_cons (pv 0) (pa_cons pe_int pa_nil))) (pa_cons (pe_call GD r1 (by rfl) L.draw.mg L.draw.fn.kp L.draw.bi .nil pass0 (pa_cons (pv 0) (pa_cons (pe_op op_pow pe_int pe_int) pa_nil))) pa_nil)) (by rfl))
      (pss_one (ps_ret (pe_call GO hr (by rfl) L.of.mg L.of.fn.kp L.of.bi .nil pass0 (pa_cons (pv 0) (pa_cons (pe_lst (pa_cons (pv 1) (pa_cons (pv 2) (pa_cons (pe_op op_add (pe_op op_add (pe_op op_pow pe_int pe_int) (pe_op op_mul (pv 2) (pe_op op_pow pe_int pe_int))) (pv 1)) pa_nil)))) pa_nil))))), ?_⟩
    refine ⟨.ref p, rfl, p, t, 12, rfl, hp, by omega, by decide, by decide, fun a ta Ha a0 a1 hta hpa ba => ?_⟩
    refine ⟨.ref p, rfl, 10, 8, rfl, rfl, ⟨by decide, by decide, by decide⟩, p, ta, 100000000, rfl, hpa, by omega, by decide, by decide, fun b tb Hb b0 b1 htb hpb bb => ⟨.int a, .int b, rfl, ?_⟩⟩
    dsimp only
    refine ⟨.ref p, rfl, .int a, rfl, .int b, rfl, 10, 29, rfl, rfl, ⟨by decide, by decide, by decide⟩, .int b, rfl, 10, 9, rfl, rfl, ⟨by decide, by decide, by decide⟩, b, 1000000000, rfl, rfl, ?_, _, _, rfl, rfl, .int a, rfl, _, a, rfl, rfl, by show 3 ≤ sizeLine; decide, fun l nl => ?_⟩
    · exact .inr ⟨by decide, by decide⟩
    have e29 : (10 : Int) ^ (29 : Int).toNat = 100000000000000000000000000000 := by decide
    refine ⟨p, l, tb, _, rfl, pail_new hpb nl, by omega, lstNew upd_same, pail_ne hpb nl, by show 0 < 3; decide, by show 3 ≤ 1000; decide, fun j v t1 H1 hv ht1 hp1 b1 => ?_⟩
    have hv' : ∃ n : Int, v = .int n ∧ 0 ≤ n ∧ n < 10 ^ 30 := by
      match j, hv with
      | 0, hv => exact ⟨a, (Option.some.inj hv).symm, a0, by omega⟩
      | 1, hv => exact ⟨b, (Option.some.inj hv).symm, b0, by omega⟩
      | 2, hv => exact ⟨_, (Option.some.inj hv).symm, by rw [e29]; omega, by rw [e29]; omega⟩
      | j + 3, hv => simp at hv
    obtain ⟨n, rfl, n0, n1⟩ := hv'
    exact q n t1 H1 n0 n1 (by omega) hp1 (((ba.trans bb).trans (But.of (same_upd nl))).trans b1)
/-! ### _law_marks -/
abbrev nMk : List Str := ["_law_pail_here", "_law_least", "_law_at"]
theorem scMk : FnScope nMk ["_law_pail_here", "_law_least"] (defScope sLMarks) := ⟨rfl, rfl, rfl, by decide +kernel, rfl, by decide +kernel, by decide +kernel⟩
def spMk (K : PySem.W.Frag) : Sp := fun vs H Q _ => ∃ (p : Addr) (t : Nat), vs = [.ref p, .int 1] ∧ PailAt H p t ∧ t ≤ 1500 ∧ ∀ (u : Addr) (ms : List Int) (t' : Nat) (H' : Hp), PailAt H' p t' → t' ≤ t + 10 → But p H H' → SqT K H' u (ms.map V.int) → Mk8 ms → ms ≠ [] → ms.length ≤ 8 → Q (.ref u) H'
theorem ok_mk (L : LD K mg fD fO fNu fMk fMT dD dO dNu dMk dMT) (B : Bare mg) : FnOk P w K mg base CX0 2 fMk dMk ["_law_pail_here", "_law_least"] (spMk K) := by
  have GD : FnOk P w K mg base CX0 1 fD dD ["_law_pail_here", "_law_many"] spDraw := ok_draw L.draw.fn
  refine L.mks.fn.ok scMk (fun vs H Q E h => ?_) (fun cdv A outer s H vs Q E hr h => ?_)
  · obtain ⟨p, t, rfl, _⟩ := h
    rfl
  · obtain ⟨p, t, rfl, hp, ht, q⟩ := h
    refine ⟨_, pss_one (ps_ret (pe_tupleOf (by rfl) B.tuple (pe_lc (own := [("_law_at", 2)]) (g := gName 2) (tt := tYes) rfl scMk.nd (pi_range1 (by rfl) B.range (pa_cons (pe_op op_add (pv 1) (pe_call GD hr (by rfl) L.draw.mg L.draw.fn.kp L.draw.bi .nil pass0 (pa_cons (pv 0) (pa_cons pe_int pa_nil)))) pa_nil)) (blkOk_by (N := nMk) (sc := defScope sLMarks) (by decide +kernel)) (fun _ _ _ _ _ => pg_name (i := 2) scMk.nd rfl (Or.inl rfl)) (fun _ _ _ _ _ => pts_nil)
        (fun _ _ _ _ _ => pe_call GD hr (by rfl) L.draw.mg L.draw.fn.kp L.draw.bi .nil pass0 (pa_cons (pv 0) (pa_cons pe_int pa_nil)))))), ?_⟩
    refine ⟨.int 1, rfl, .ref p, rfl, p, t, 7, rfl, hp, by omega, by decide, by decide, fun m0 t1 H1 m00 m01 ht1 hp1 b1 => ⟨1, m0, rfl, rfl, _, rfl, by omega, by omega, fun D nD => ?_⟩⟩
    have hDp : D ≠ p := pail_ne hp1 nD
    refine lc_range (lo := 0) (n := (1 + m0).toNat) (fun i H' => ∃ (ms : List Int) (t' : Nat), But p H1 H' ∧ PailAt H' p t' ∧ t' ≤ t1 + i ∧ H' D = some (.lst (ms.map V.int)) ∧ ms.length = i ∧ ∀ x ∈ ms, 0 ≤ x ∧ x < 8)
      ⟨[], t1, But.of (same_upd nD), pail_new hp1 nD, by omega, upd_same, rfl, fun _ w => nomatch w⟩ (fun i H' hi pp => ?_) fun H2 pp => ?_
    · obtain ⟨ms, t', b2, hp2, ht2, eD, lms, inn⟩ := pp
      refine ⟨rfl, tt_yes ⟨.ref p, rfl, p, t', 8, rfl, hp2, by omega, by decide, by decide, fun x t3 H3 x0 x1 ht3 hp3 b3 => ⟨_, b3 _ _ eD hDp, by rw [List.length_map, sizeLine_eq]; omega, ms ++ [x], t3, fun c o e ne => ?_, pail_set hp3 hDp, by omega, ?_, by rw [List.length_append, lms]; rfl, fun y hy => ?_⟩⟩⟩
      · rw [upd_ne (ne_of_none e nD)]; exact b3 _ _ (b2 c o e ne) ne
      · rw [upd_same, List.map_append]; rfl
      · rcases List.mem_append.mp hy with w | w
        · exact inn y w
        · rcases List.mem_singleton.mp w with rfl
          exact ⟨x0, x1⟩
    · obtain ⟨ms, t', b2, hp2, ht2, eD, lms, inn⟩ := pp
      refine .inl ⟨D, _, rfl, lstNew eD, fun u nu => ?_⟩
      exact q u ms t' _ (pail_new hp2 nu) (by omega) ((b1.trans b2).trans (But.of (same_upd nu))) (tupNew upd_same) ⟨inn, by omega⟩ (fun e => by rw [e] at lms; simp only [List.length_nil] at lms; omega) (by omega)
end
end K52
set_option maxHeartbeats 4000000
namespace K52
open PySem PySem.Spec PyProof.Rows L2 RV TL
/-- runs as the law draws them -/
def RunSm (k : Rk) : Prop := (1 ≤ k.2.2.1 ∧ k.2.2.1 < 10 ^ 30) ∧ Mk8 k.2.2.2 ∧ k.2.2.2 ≠ [] ∧ k.2.2.2.length ≤ 8
theorem RunOk.pail {K : PySem.W.Frag} {H H' : Hp} {p : Addr} {t : Nat} {k : Rk} (h : RunOk K H k) (hp : PailAt H p t) (b : But p H H') : RunOk K H' k := ⟨sqT_pail hp b h.1, sqT_pail hp b h.2⟩
theorem AxOk.pail {K : PySem.W.Frag} {H H' : Hp} {p : Addr} {t : Nat} {k : Rk} (h : AxOk K H k) (hp : PailAt H p t) (b : But p H H') : AxOk K H' k := ⟨sqT_pail hp b h.1, sqT_pail hp b h.2⟩
theorem AxOk.same {K : PySem.W.Frag} {H H' : Hp} {k : Rk} (h : AxOk K H k) (s : Same H H') : AxOk K H' k := ⟨sqT_same s h.1, sqT_same s h.2⟩
theorem AxOk.over {K : PySem.W.Frag} {H : Hp} {D : Addr} {vs : List V} {o : HO} {k : Rk} (h : AxOk K H k) (e : H D = some (.lst vs)) : AxOk K (upd H D o) k := ⟨sqT_over e h.1, sqT_over e h.2⟩
theorem tlp_pail {K : PySem.W.Frag} {H H' : Hp} {p D : Addr} {t : Nat} {ps : List (List Int)} (h : TLp K H D ps) (hp : PailAt H p t) (b : But p H H') (ne : D ≠ p) : TLp K H' D ps := by
  obtain ⟨ks, h1, h2, h3⟩ := h
  exact ⟨ks, h1, b _ _ h2 ne, fun q hq => sqT_pail hp b (h3 q hq)⟩
structure RingSm (rs : List (Int × List Int)) : Prop where
  sm : ∀ r ∈ rs, (1 ≤ r.1 ∧ r.1 < 10 ^ 30) ∧ Mk8 r.2 ∧ r.2 ≠ [] ∧ r.2.length ≤ 8
  few : rs.length ≤ 6
  ne : rs ≠ []
structure PlanSm (ps : List (List Int)) : Prop where
  pr : ∀ p ∈ ps, ∃ x y : Int, p = [x, y] ∧ (0 ≤ x ∧ x < 10 ^ 30) ∧ (0 ≤ y ∧ y < 10 ^ 30)
  few : ps.length ≤ 7
section
variable {P : Program} {w : World} {K : PySem.W.Frag} {mg : Str → Option Value} {base : Heap} {t1 t2 t3 t4 : Tok}
variable {fD fO fNu fMk fMT : Addr} {dD dO dNu dMk dMT : FuncData}
/-! ### _law_ring -/
theorem scLR : FnScope ["_law_pail_here", "_law_turn"] ["_law_pail_here"] (defScope sLRing) := ⟨rfl, rfl, rfl, by decide +kernel, rfl, by decide +kernel, by decide +kernel⟩
def spLR (K : PySem.W.Frag) : Sp := fun vs H Q _ => ∃ (p : Addr) (t : Nat), vs = [.ref p] ∧ PailAt H p t ∧ t ≤ 1000 ∧ ∀ (u : Addr) (rs : List (Int × List Int)) (t' : Nat) (H' : Hp), PailAt H' p t' → t' ≤ t + 130 → But p H H' → RingAt K H' u rs → RingSm rs → Q (.ref u) H'
theorem ok_lr {f : Addr} {fd : FuncData} (F : Fun K "_law_ring" "_law_ring" sLRing f fd) (L : LD K mg fD fO fNu fMk fMT dD dO dNu dMk dMT) (B : Bare mg) : FnOk P w K mg base CX0 4 f fd ["_law_pail_here"] (spLR K) := by
  have GD : FnOk P w K mg base CX0 1 fD dD ["_law_pail_here", "_law_many"] spDraw := ok_draw L.draw.fn
  have GN : FnOk P w K mg base CX0 3 fNu dNu ["_law_pail_here"] spNu := ok_nu L B
  have GM : FnOk P w K mg base CX0 2 fMk dMk ["_law_pail_here", "_law_least"] (spMk K) := ok_mk L B
  refine F.ok scLR (fun vs H Q E h => ?_) (fun cdv A outer s H vs Q E hr h => ?_)
  · obtain ⟨p, t, rfl, _⟩ := h
    rfl
  · obtain ⟨p, t, rfl, hp, ht, q⟩ := h
    have r1 := hr.mono (show 1 ≤ 3 by decide)
    have r2 := hr.mono (show 2 ≤ 3 by decide)
    refine ⟨_, pss_one (ps_ret (pe_tupleOf (by rfl) B.tuple (pe_lc (own := [("_law_turn", 1)]) (g := gName 1) (tt := tYes) rfl scLR.nd (pi_range1 (by rfl) B.range (pa_cons (pe_op op_add pe_int (pe_call GD r1 (by rfl) L.draw.mg L.draw.fn.kp L.draw.bi .nil pass0 (pa_cons (pv 0) (pa_cons pe_int pa_nil)))) pa_nil)) (blkOk_by (N := ["_law_pail_here", "_law_turn"]) (sc := defScope sLRing) (by decide +kernel)) (fun _ _ _ _ _ => pg_name (i := 1) scLR.nd rfl (Or.inl rfl)) (fun _ _ _ _ _ => pts_nil)
        (fun _ _ _ _ _ => pe_tup (pa_cons (pe_callB (call_max2 rfl) (by rfl) B.max (by decide +kernel) (pa_cons pe_int (pa_cons (pe_call GN hr (by rfl) L.nu.mg L.nu.fn.kp L.nu.bi .nil pass0 (pa_cons (pv 0) pa_nil)) pa_nil))) (pa_cons (pe_call GM r2 (by rfl) L.mks.mg L.mks.fn.kp L.mks.bi .nil pass0 (pa_cons (pv 0) (pa_cons pe_int pa_nil))) pa_nil)))))), ?_⟩
    refine ⟨.ref p, rfl, p, t, 5, rfl, hp, by omega, by decide, by decide, fun m0 t1 H1 m00 m01 ht1 hp1 b1 => ⟨1, m0, rfl, rfl, _, rfl, by omega, by omega, fun D nD => ?_⟩⟩
    have hDp : D ≠ p := pail_ne hp1 nD
    refine lc_range (lo := 0) (n := (1 + m0).toNat) (fun i H' => ∃ (ks : List Rk) (t' : Nat), But p H1 H' ∧ PailAt H' p t' ∧ t' ≤ t1 + 20 * i ∧ H' D = some (.lst (ks.map fun k => V.ref k.1)) ∧ ks.length = i ∧ ∀ k ∈ ks, RunOk K H' k ∧ RunSm k)
      ⟨[], t1, But.of (same_upd nD), pail_new hp1 nD, by omega, upd_same, rfl, fun _ w => nomatch w⟩ (fun i H' hi pp => ?_) fun H2 pp => ?_
    · obtain ⟨ks, t', b2, hp2, ht2, eD, lks, inn⟩ := pp
      refine ⟨rfl, tt_yes ⟨.ref p, rfl, p, t', rfl, hp2, by omega, fun n t3 H3 n0 n1 ht3 hp3 b3 => ⟨1, n, rfl, .ref p, rfl, p, t3, rfl, hp3, by omega, fun u ms t4 H4 hp4 ht4 b4 hu hm mne ml => ⟨by show 2 ≤ sizeLine; decide, fun T nT => ?_⟩⟩⟩⟩
      have sT := same_upd (o := .tup [.int (if n > 1 then n else 1), .ref u]) nT
      have e4 := sT _ _ (b4 _ _ (b3 _ _ eD hDp) hDp)
      have hp5 := pail_new (o := .tup [.int (if n > 1 then n else 1), .ref u]) hp4 nT
      refine ⟨_, e4, by rw [List.length_map, sizeLine_eq]; omega, ks ++ [(T, u, if n > 1 then n else 1, ms)], t4, fun c o e ne => ?_, pail_set hp5 hDp, by omega, ?_, by rw [List.length_append, lks]; rfl, fun k hk => ?_⟩
      · rw [upd_ne (ne_of_none e nD)]; exact sT _ _ (b4 _ _ (b3 _ _ (b2 c o e ne) ne) ne)
      · rw [upd_same, List.map_append]; rfl
      · rcases List.mem_append.mp hk with w | w
        · exact ⟨((((inn k w).1.pail hp2 b3).pail hp3 b4).same sT).over e4, (inn k w).2⟩
        · rcases List.mem_singleton.mp w with rfl
          refine ⟨RunOk.over ⟨tupNew upd_same, sqT_same sT hu⟩ e4, ⟨?_, ?_⟩, hm, mne, ml⟩
          · show 1 ≤ (if n > 1 then n else 1)
            split <;> omega
          · show (if n > 1 then n else 1) < 10 ^ 30
            split <;> omega
    · obtain ⟨ks, t', b2, hp2, ht2, eD, lks, inn⟩ := pp
      refine .inl ⟨D, _, rfl, lstNew eD, fun u nu => ?_⟩
      have su := same_upd (o := .tup (ks.map fun k => V.ref k.1)) nu
      refine q u (ks.map valR) t' _ (pail_new hp2 nu) (by omega) ((b1.trans b2).trans (But.of su)) ⟨ks, rfl, tupNew upd_same, fun k hk => (inn k hk).1.same su⟩ ⟨fun r hr' => ?_, by rw [List.length_map]; omega, fun e => ?_⟩
      · obtain ⟨k, hk, rfl⟩ := List.mem_map.mp hr'
        exact (inn k hk).2
      · have z := congrArg List.length e
        rw [List.length_map, lks] at z
        simp only [List.length_nil] at z
        omega
/-! ### _law_plan -/
theorem scLP : FnScope ["_law_pail_here", "_law_turn"] ["_law_pail_here"] (defScope sLPlan) := ⟨rfl, rfl, rfl, by decide +kernel, rfl, by decide +kernel, by decide +kernel⟩
def spLP (K : PySem.W.Frag) : Sp := fun vs H Q _ => ∃ (p : Addr) (t : Nat), vs = [.ref p] ∧ PailAt H p t ∧ t ≤ 1000 ∧ ∀ (u : Addr) (ps : List (List Int)) (t' : Nat) (H' : Hp), PailAt H' p t' → t' ≤ t + 60 → But p H H' → Tups K H' u ps → PlanSm ps → Q (.ref u) H'
theorem ok_lp {f : Addr} {fd : FuncData} (F : Fun K "_law_plan" "_law_plan" sLPlan f fd) (L : LD K mg fD fO fNu fMk fMT dD dO dNu dMk dMT) (B : Bare mg) : FnOk P w K mg base CX0 4 f fd ["_law_pail_here"] (spLP K) := by
  have GD : FnOk P w K mg base CX0 1 fD dD ["_law_pail_here", "_law_many"] spDraw := ok_draw L.draw.fn
  have GN : FnOk P w K mg base CX0 3 fNu dNu ["_law_pail_here"] spNu := ok_nu L B
  refine F.ok scLP (fun vs H Q E h => ?_) (fun cdv A outer s H vs Q E hr h => ?_)
  · obtain ⟨p, t, rfl, _⟩ := h
    rfl
  · obtain ⟨p, t, rfl, hp, ht, q⟩ := h
    have r1 := hr.mono (show 1 ≤ 3 by decide)
    refine ⟨_, pss_one (ps_ret (pe_tupleOf (by rfl) B.tuple (pe_lc (own := [("_law_turn", 1)]) (g := gName 1) (tt := tYes) rfl scLP.nd (pi_range1 (by rfl) B.range (pa_cons (pe_call GD r1 (by rfl) L.draw.mg L.draw.fn.kp L.draw.bi .nil pass0 (pa_cons (pv 0) (pa_cons pe_int pa_nil))) pa_nil)) (blkOk_by (N := ["_law_pail_here", "_law_turn"]) (sc := defScope sLPlan) (by decide +kernel)) (fun _ _ _ _ _ => pg_name (i := 1) scLP.nd rfl (Or.inl rfl)) (fun _ _ _ _ _ => pts_nil)
        (fun _ _ _ _ _ => pe_tup (pa_cons (pe_call GN hr (by rfl) L.nu.mg L.nu.fn.kp L.nu.bi .nil pass0 (pa_cons (pv 0) pa_nil)) (pa_cons (pe_call GN hr (by rfl) L.nu.mg L.nu.fn.kp L.nu.bi .nil pass0 (pa_cons (pv 0) pa_nil)) pa_nil)))))), ?_⟩
    refine ⟨.ref p, rfl, p, t, 7, rfl, hp, by omega, by decide, by decide, fun m0 t1 H1 m00 m01 ht1 hp1 b1 => ⟨_, rfl, by omega, by omega, fun D nD => ?_⟩⟩
    have hDp : D ≠ p := pail_ne hp1 nD
    refine lc_range (lo := 0) (n := m0.toNat) (fun i H' => ∃ (ps : List (List Int)) (t' : Nat), But p H1 H' ∧ PailAt H' p t' ∧ t' ≤ t1 + 6 * i ∧ TLp K H' D ps ∧ ps.length = i ∧ ∀ p ∈ ps, ∃ x y : Int, p = [x, y] ∧ (0 ≤ x ∧ x < 10 ^ 30) ∧ (0 ≤ y ∧ y < 10 ^ 30))
      ⟨[], t1, But.of (same_upd nD), pail_new hp1 nD, by omega, TLp.nil upd_same, rfl, fun _ w => nomatch w⟩ (fun i H' hi pp => ?_) fun H2 pp => ?_
    · obtain ⟨ps, t', b2, hp2, ht2, hL, lps, inn⟩ := pp
      refine ⟨rfl, tt_yes ⟨.ref p, rfl, p, t', rfl, hp2, by omega, fun x t3 H3 x0 x1 ht3 hp3 b3 => ⟨.ref p, rfl, p, t3, rfl, hp3, by omega, fun y t4 H4 y0 y1 ht4 hp4 b4 => ⟨by show 2 ≤ sizeLine; decide, fun T nT => ?_⟩⟩⟩⟩
      have sT := same_upd (o := .tup [.int x, .int y]) nT
      obtain ⟨ks, e1, e2, e3⟩ := (tlp_pail (tlp_pail hL hp2 b3 hDp) hp3 b4 hDp).same sT
      have lks : ks.length = i := by rw [← lps, ← e1, List.length_map]
      have hp5 := pail_new (o := .tup [.int x, .int y]) hp4 nT
      refine ⟨_, e2, by rw [List.length_map, sizeLine_eq]; omega, ps ++ [[x, y]], t4, fun c o e ne => ?_, pail_set hp5 hDp, by omega, ?_, by rw [List.length_append, lps]; rfl, fun k hk => ?_⟩
      · rw [upd_ne (ne_of_none e nD)]; exact sT _ _ (b4 _ _ (b3 _ _ (b2 c o e ne) ne) ne)
      · rw [← e1]; exact TLp.put e2 e3 (tupNew upd_same)
      · rcases List.mem_append.mp hk with w | w
        · exact inn k w
        · rcases List.mem_singleton.mp w with rfl
          exact ⟨x, y, rfl, ⟨x0, x1⟩, ⟨y0, y1⟩⟩
    · obtain ⟨ps, t', b2, hp2, ht2, ⟨ks, e1, e2, e3⟩, lps, inn⟩ := pp
      refine .inl ⟨D, _, rfl, lstNew e2, fun u nu => ?_⟩
      have su := same_upd (o := .tup (ks.map fun q => V.ref q.1)) nu
      exact q u ps t' _ (pail_new hp2 nu) (by omega) ((b1.trans b2).trans (But.of su)) ⟨ks, e1, tupNew upd_same, fun k hk => sqT_same su (e3 k hk)⟩ ⟨inn, by omega⟩
end
end K52
set_option maxHeartbeats 4000000
namespace K52
open PySem PySem.Spec PyProof.Rows L2 RV TL
def RsnSm : Rsn → Prop
  | .side => True
  | .axes rs => (∀ r ∈ rs, (0 ≤ r.1 ∧ r.1 < 600) ∧ Mk8 r.2 ∧ r.2.length ≤ 8) ∧ rs.length ≤ 3
  | .word w ms => (w = wSize ∨ w = wWay) ∧ Mk8 ms ∧ ms.length ≤ 8
theorem RsnSm.ok {d : Rsn} (h : RsnSm d) : RsnOk d := by
  cases d with
  | side => trivial
  | axes rs =>
    refine ⟨fun r hr => ?_, fun r hr => (h.1 r hr).2.1, by have : rs.length ≤ 3 := h.2; omega⟩
    have := (h.1 r hr).1
    omega
  | word w ms => exact ⟨h.1, h.2.1⟩
section
variable {P : Program} {w : World} {K : PySem.W.Frag} {mg : Str → Option Value} {base : Heap} {t1 t2 t3 t4 : Tok}
variable {fD fO fNu fMk fMT : Addr} {dD dO dNu dMk dMT : FuncData}
/-! ### _law_reason -/
abbrev nRe : List Str := ["_law_pail_here", "_law_way", "_law_marks_here", "_law_pairs", "_law_turn", "_law_words", "_law_some", "_law_spot", "_law_word"]
theorem scRe : FnScope nRe ["_law_pail_here"] (defScope sLReason) := ⟨rfl, rfl, rfl, by decide +kernel, rfl, by decide +kernel, by decide +kernel⟩
def spRe (K : PySem.W.Frag) : Sp := fun vs H Q _ => ∃ (p : Addr) (t : Nat), vs = [.ref p] ∧ PailAt H p t ∧ t ≤ 1000 ∧ ∀ (c r : Addr) (d : Rsn) (t' : Nat) (H' : Hp), PailAt H' p t' → t' ≤ t + 60 → But p H H' → SqT K H' c [.ref r, .str (reasonS d)] → ReasonAt K H' r d → RsnSm d → Q (.ref c) H'
def teW (K : PySem.W.Frag) : TE := tOp (fun x y H Q => ∃ i j, x = .str i ∧ y = .str j ∧ i.length + j.length ≤ sizeLine ∧ Q (.str (i ++ j)) H) (tOp (fun x y H Q => ∃ i j, x = .str i ∧ y = .str j ∧ i.length + j.length ≤ sizeLine ∧ Q (.str (i ++ j)) H) (tCall (spSM K) [] E0 (tCons (tVar 6) tNil)) (tC (.str slash))) (tCB (fun xs H Q => ∃ i, xs = [.int i] ∧ i.natAbs.log2 < 1920 ∧ Q (.str (toString i)) H) (tCons (tVar 7) tNil))
theorem ok_re {f : Addr} {fd : FuncData} (F : Fun K "_law_reason" "_law_reason" sLReason f fd) (L : LD K mg fD fO fNu fMk fMT dD dO dNu dMk dMT) (B : Bare mg) : FnOk P w K mg base CX0 3 f fd ["_law_pail_here"] (spRe K) := by
  have GD : FnOk P w K mg base CX0 1 fD dD ["_law_pail_here", "_law_many"] spDraw := ok_draw L.draw.fn
  have GM : FnOk P w K mg base CX0 2 fMk dMk ["_law_pail_here", "_law_least"] (spMk K) := ok_mk L B
  have GT : FnOk P w K mg base CX0 1 fMT dMT ["_law_marks_here"] (spSM K) := ok_mt L.mtx.fn B
  refine F.ok scRe (fun vs H Q E h => ?_) (fun cdv A outer s H vs Q E hr h => ?_)
  · obtain ⟨p, t, rfl, _⟩ := h
    rfl
  · obtain ⟨p, t, rfl, hp, ht, q⟩ := h
    have r1 := hr.mono (show 1 ≤ 2 by decide)
    refine ⟨_, pss_cons (ps_par (i := 1) (j := 2) (by rfl) scRe.nd rfl rfl (by decide) rfl rfl (pa_cons (pe_call GD r1 (by rfl) L.draw.mg L.draw.fn.kp L.draw.bi .nil pass0 (pa_cons (pv 0) (pa_cons pe_int pa_nil))) (pa_cons (pe_call GM hr (by rfl) L.mks.mg L.mks.fn.kp L.mks.bi .nil pass0 (pa_cons (pv 0) (pa_cons pe_int pa_nil))) pa_nil)) (by rfl))
      (pss_cons (ps_if (pt_cmpR op_eq (pv 1) pe_int (nomark _))
        (pss_cons (ps_set (i := 3) scRe.nd rfl (Or.inl rfl) (pe_tupleOf (by rfl) B.tuple (pe_lc (own := [("_law_turn", 4)]) (g := gName 4) (tt := tYes) rfl scRe.nd (pi_range1 (by rfl) B.range (pa_cons (pe_op op_add pe_int (pe_call GD r1 (by rfl) L.draw.mg L.draw.fn.kp L.draw.bi .nil pass0 (pa_cons (pv 0) (pa_cons pe_int pa_nil)))) pa_nil)) (blkOk_by (N := nRe) (sc := defScope sLReason) (by decide +kernel)) (fun _ _ _ _ _ => pg_name (i := 4) scRe.nd rfl (Or.inl rfl)) (fun _ _ _ _ _ => pts_nil)
            (fun _ _ _ _ _ => pe_tup (pa_cons (pe_call GM hr (by rfl) L.mks.mg L.mks.fn.kp L.mks.bi .nil pass0 (pa_cons (pv 0) (pa_cons pe_int pa_nil))) (pa_cons (pe_call GD r1 (by rfl) L.draw.mg L.draw.fn.kp L.draw.bi .nil pass0 (pa_cons (pv 0) (pa_cons pe_int pa_nil))) pa_nil))))))
        (pss_cons (ps_setLc (i := 5) (own := [("_law_some", 6), ("_law_spot", 7)]) (g := gTup K 2 (gCons (gName 6) (gCons (gName 7) gNil))) (tt := tYes) rfl scRe.nd rfl rfl (by rfl) (pi_tup (pv 3)) (blkOk_by (N := nRe) (sc := defScope sLReason) (by decide +kernel))
            (fun _ _ _ _ _ => pg_tupK rfl rfl (pgs_cons (pg_name (i := 6) scRe.nd rfl (Or.inl rfl)) (pgs_cons (pg_name (i := 7) scRe.nd rfl (Or.inl rfl)) pgs_nil))) (fun _ _ _ _ _ => pts_nil)
            (fun _ _ _ _ _ => pe_op op_add_str (pe_op op_add_str (pe_call GT r1 (by rfl) L.mtx.mg L.mtx.fn.kp L.mtx.bi .nil pass0 (pa_cons (pv 6) pa_nil)) pe_str) (pe_callTy call_str_int (by rfl) B.str (by decide +kernel) (pa_cons (pv 7) pa_nil))))
        (pss_one (ps_ret (pe_tup (pa_cons (pe_tup (pa_cons pe_str (pa_cons (pv 3) pa_nil))) (pa_cons (pe_join pe_str (pe_op op_cat (pe_lst (pa_cons pe_str pa_nil)) (pv 5))) pa_nil))))))) pss_nil)
      (pss_cons (ps_if (pt_cmpR op_eq (pv 1) pe_int (nomark _)) (pss_one (ps_ret (pe_tup (pa_cons (pe_tup (pa_cons pe_str pa_nil)) (pa_cons pe_str pa_nil))))) pss_nil)
      (pss_cons (ps_set (i := 8) scRe.nd rfl (Or.inl rfl) (pe_ix ix_list (pe_lst (pa_cons pe_str (pa_cons pe_str pa_nil))) (pv 1) (fun _ _ => rfl)))
      (pss_one (ps_ret (pe_tup (pa_cons (pe_tup (pa_cons (pv 8) (pa_cons (pv 2) pa_nil))) (pa_cons (pe_op op_add_str (pe_op op_add_str (pv 8) pe_str) (pe_call GT r1 (by rfl) L.mtx.mg L.mtx.fn.kp L.mtx.bi .nil pass0 (pa_cons (pv 2) pa_nil))) pa_nil)))))))), ?_⟩
    have z : sizeLine ≥ 4000000 := by rw [sizeLine_eq]; decide
    have two : (2 : Nat) ≤ sizeLine := by decide
    have one : (1 : Nat) ≤ sizeLine := by decide
    obtain ⟨w1, w2, w3, w4⟩ := w_len
    refine ⟨.ref p, rfl, p, t, 4, rfl, hp, by omega, by decide, by decide, fun way ta Ha y0 y1 hta hpa ba => ?_⟩
    refine ⟨.ref p, rfl, p, ta, rfl, hpa, by omega, fun u ms tb Hb hpb htb bb hu hm mne ml => ⟨.int way, .ref u, rfl, ?_⟩⟩
    dsimp only
    have bab := ba.trans bb
    refine ⟨.int way, rfl, rfl, _, rfl, ?_⟩
    by_cases e3 : way = 3
    · rw [decide_eq_true (show V.int way = V.int 3 by rw [e3])]
      refine iteT ?_
      refine ⟨.ref p, rfl, p, tb, 3, rfl, hpb, by omega, by decide, by decide, fun m0 t1 H1 m00 m01 ht1 hp1 b1 => ⟨1, m0, rfl, rfl, _, rfl, by omega, by omega, fun D nD => ?_⟩⟩
      have hDp : D ≠ p := pail_ne hp1 nD
      refine lc_range (lo := 0) (n := (1 + m0).toNat) (fun i H' => ∃ (ks : List Rk) (t' : Nat), But p H1 H' ∧ PailAt H' p t' ∧ t' ≤ t1 + 11 * i ∧ H' D = some (.lst (ks.map fun k => V.ref k.1)) ∧ ks.length = i ∧ ∀ k ∈ ks, AxOk K H' k ∧ ((0 ≤ k.2.2.1 ∧ k.2.2.1 < 600) ∧ Mk8 k.2.2.2 ∧ k.2.2.2.length ≤ 8))
        ⟨[], t1, But.of (same_upd nD), pail_new hp1 nD, by omega, upd_same, rfl, fun _ w => nomatch w⟩ (fun i H' hi pp => ?_) fun H2 pp => ?_
      · obtain ⟨ks, t', b2, hp2, ht2, eD, lks, inn⟩ := pp
        refine ⟨rfl, tt_yes ⟨.ref p, rfl, p, t', rfl, hp2, by omega, fun u ms t4 H4 hp4 ht4 b4 hu hm mne ml => ⟨.ref p, rfl, p, t4, 600, rfl, hp4, by omega, by decide, by decide, fun n t5 H5 n0 n1 ht5 hp5 b5 => ⟨two, fun T nT => ?_⟩⟩⟩⟩
        have sT := same_upd (o := .tup [.ref u, .int n]) nT
        have e4 := sT _ _ (b5 _ _ (b4 _ _ eD hDp) hDp)
        have hp6 := pail_new (o := .tup [.ref u, .int n]) hp5 nT
        refine ⟨_, e4, by rw [List.length_map, sizeLine_eq]; omega, ks ++ [(T, u, n, ms)], t5, fun c o e ne => ?_, pail_set hp6 hDp, by omega, ?_, by rw [List.length_append, lks]; rfl, fun k hk => ?_⟩
        · rw [upd_ne (ne_of_none e nD)]; exact sT _ _ (b5 _ _ (b4 _ _ (b2 c o e ne) ne) ne)
        · rw [upd_same, List.map_append]; rfl
        · rcases List.mem_append.mp hk with w | w
          · exact ⟨((((inn k w).1.pail hp2 b4).pail hp4 b5).same sT).over e4, (inn k w).2⟩
          · rcases List.mem_singleton.mp w with rfl
            exact ⟨AxOk.over ⟨tupNew upd_same, sqT_same sT (sqT_pail hp4 b5 hu)⟩ e4, ⟨n0, n1⟩, hm, ml⟩
      obtain ⟨ks, t', b2, hp2, ht2, eD, lks, inn⟩ := pp
      refine .inl ⟨D, _, rfl, lstNew eD, fun c nc => ?_⟩
      have sc := same_upd (o := .tup (ks.map fun k => V.ref k.1)) nc
      have hA : SqT K (upd H2 c (.tup (ks.map fun k => V.ref k.1))) c (ks.map fun k => V.ref k.1) := tupNew upd_same
      have inn3 : ∀ k ∈ ks, AxOk K (upd H2 c (.tup (ks.map fun k => V.ref k.1))) k := fun k hk => (inn k hk).1.same sc
      have hp3 := pail_same hp2 sc
      generalize upd H2 c (.tup (ks.map fun k => V.ref k.1)) = H3 at sc hA inn3 hp3 ⊢
      refine nx_step ?_
      dsimp only
      have l3 : ks.length ≤ 3 := by omega
      refine ⟨.ref c, rfl, c, rfl, ⟨_, hA⟩, fun D2 nD2 => ?_⟩
      refine lc_strsT (te := teW K) (zs := (ks.map valR).map axS) (AxAt.pairs hA inn3) (by rw [List.length_map]; omega) (by rw [List.length_map, List.length_map, List.length_map]) nD2 (by decide) (fun i k y hk hy H' Q' s' kq => ?_) fun H4 s4 e4 => ?_
      · rw [List.getElem?_map] at hk
        rw [List.getElem?_map, List.getElem?_map] at hy
        cases g : ks[i]? with
        | none => rw [g] at hk; cases hk
        | some k0 =>
          rw [g] at hk hy
          cases hk
          cases hy
          have hin := List.mem_of_getElem? g
          obtain ⟨_, n0, m0, _⟩ := inn k0 hin
          have ln := num_len (nat_small n0.1 (by omega))
          have lm := mt_len m0.nat m0.few
          refine ⟨.ref k0.2.1, rfl, k0.2.1, k0.2.2.2, rfl, sqT_same s' (inn3 k0 hin).2, m0, fun H5 s5 => ⟨mt k0.2.2.2, slash, rfl, rfl, by rw [len1l]; omega, .int k0.2.2.1, rfl, _, rfl, log_small n0.1 (by omega), _, num k0.2.2.1.toNat, rfl, by rw [num_str n0.1], by rw [len_app, len1l]; omega, ?_⟩⟩
          exact kq H5 s5
      refine nx_step ?_
      dsimp only
      refine ⟨.ref c, rfl, two, fun r nr => ?_⟩
      have sr := same_upd (o := .tup [.str (Str.ofString "axes"), .ref c]) nr
      have er : SqT K (upd H4 r (.tup [.str (Str.ofString "axes"), .ref c])) r [.str wAxes, .ref c] := tupNew upd_same
      refine ⟨⟨_, rfl⟩, one, fun l nl => ?_⟩
      have sl := same_upd (o := .lst [V.str (Str.ofString "axes")]) nl
      have el : (upd (upd H4 r (.tup [.str (Str.ofString "axes"), .ref c])) l (.lst [V.str (Str.ofString "axes")])) l = some (.lst [V.str (Str.ofString "axes")]) := upd_same
      have e42 := sl _ _ (sr _ _ e4)
      have srl := sr.trans sl
      have er2 := sqT_same sl er
      change Same H4 (upd (upd H4 r (.tup [.str (Str.ofString "axes"), .ref c])) l (.lst [V.str (Str.ofString "axes")])) at srl
      generalize upd (upd H4 r (.tup [.str (Str.ofString "axes"), .ref c])) l (.lst [V.str (Str.ofString "axes")]) = H5 at sl el e42 srl er2 ⊢
      refine ⟨.ref D2, rfl, l, D2, _, _, rfl, rfl, el, e42, by rw [List.length_map, List.length_map, List.length_map]; simp only [List.length_cons, List.length_nil]; omega, fun o no => ?_⟩
      have so := same_upd (o := .lst ([V.str (Str.ofString "axes")] ++ ((ks.map valR).map axS).map V.str)) no
      have hsm : RsnSm (.axes (ks.map valR)) := ⟨fun r hr' => by
        obtain ⟨k, hk, rfl⟩ := List.mem_map.mp hr'
        exact (inn k hk).2, by rw [List.length_map]; exact l3⟩
      have hok : Rz (ks.map valR) := RsnSm.ok hsm
      refine ⟨sp1, o, wAxes :: (ks.map valR).map axS, rfl, rfl, .inl (lstNew upd_same), ?_, ?_⟩
      · refine join_room (k := 31100) (m := 101) (fun x hx => ?_) (by rw [List.length_cons, List.length_map, List.length_map]; omega) (by rw [len1b]; decide)
        rcases List.mem_cons.mp hx with rfl | hx
        · omega
        · obtain ⟨r', hr', rfl⟩ := List.mem_map.mp hx
          exact axS_len (hok.num r' hr') (hok.mks r' hr')
      · rw [join_eq]
        refine ⟨two, fun T nT => ?_⟩
        have sT := same_upd (o := .tup [.ref r, .str (Str.join sp1 (wAxes :: (ks.map valR).map axS))]) nT
        have s35 := (s4.trans srl).trans (so.trans sT)
        exact q T r (.axes (ks.map valR)) t' _ (pail_same (pail_same hp2 sc) s35) (by omega) (((bab.trans b1).trans b2).trans (But.of (sc.trans s35))) (tupNew upd_same) ⟨c, sqT_same (so.trans sT) er2, ks, rfl, sqT_same s35 hA, fun k hk => (inn3 k hk).same s35⟩ hsm
    · rw [decide_eq_false (show ¬ V.int way = V.int 3 from fun c => e3 (V.int.inj c))]
      refine iteF ?_
      unfold tNext
      dsimp only
      refine ⟨.int way, rfl, rfl, _, rfl, ?_⟩
      by_cases e2 : way = 2
      · rw [decide_eq_true (show V.int way = V.int 2 by rw [e2])]
        refine iteT ⟨one, fun r nr => ⟨two, fun T nT => ?_⟩⟩
        have sr := same_upd (o := .tup [.str wSide]) nr
        have sT := same_upd (o := .tup [.ref r, .str wSide]) nT
        exact q T r .side tb _ (pail_same hpb (sr.trans sT)) (by omega) (bab.trans (But.of (sr.trans sT))) (tupNew upd_same) (sqT_same sT (tupNew upd_same)) trivial
      · rw [decide_eq_false (show ¬ V.int way = V.int 2 from fun c => e2 (V.int.inj c))]
        refine iteF ?_
        dsimp only
        refine ⟨two, fun l nl => ?_⟩
        have sl := same_upd (o := .lst [V.str (Str.ofString "size"), V.str (Str.ofString "way")]) nl
        have el : (upd Hb l (.lst [V.str (Str.ofString "size"), V.str (Str.ofString "way")])) l = some (.lst [V.str (Str.ofString "size"), V.str (Str.ofString "way")]) := upd_same
        generalize upd Hb l (.lst [V.str (Str.ofString "size"), V.str (Str.ofString "way")]) = H1 at sl el ⊢
        obtain ⟨wd, hwd, ewd⟩ : ∃ wd, (wd = wSize ∨ wd = wWay) ∧ atI [V.str wSize, V.str wWay] way = some (.str wd) := by
          rcases (show way = 0 ∨ way = 1 by omega) with e | e
          · subst e; exact ⟨wSize, .inl rfl, atI_0⟩
          · subst e; exact ⟨wWay, .inr rfl, atI_nat (xs := [V.str wSize, V.str wWay]) (j := 1) rfl⟩
        have lw : wd.length ≤ 10 := by rcases hwd with rfl | rfl <;> omega
        have lm := mt_len hm.nat hm.few
        refine ⟨.int way, rfl, l, _, way, .str wd, rfl, rfl, lstNew el, ewd, ?_⟩
        refine nx_step ?_
        dsimp only
        refine ⟨.str wd, rfl, .ref u, rfl, two, fun r nr => ?_⟩
        have sr := same_upd (o := .tup [.str wd, .ref u]) nr
        refine ⟨.str wd, rfl, wd, sp1, rfl, rfl, by rw [len1b]; omega, .ref u, rfl, u, ms, rfl, sqT_same (sl.trans sr) hu, hm, fun H3 s3 => ⟨_, mt ms, rfl, rfl, by rw [len_app, len1b]; omega, two, fun T nT => ?_⟩⟩
        have sT := same_upd (o := .tup [.ref r, .str (wd ++ sp1 ++ mt ms)]) nT
        have sx := (sl.trans sr).trans (s3.trans sT)
        exact q T r (.word wd ms) tb _ (pail_same hpb sx) (by omega) (bab.trans (But.of sx)) (tupNew upd_same) ⟨u, sqT_same (s3.trans sT) (tupNew upd_same), sqT_same sx hu⟩ ⟨hwd, hm, ml⟩
end
end K52
namespace RV
open PySem PySem.Spec PyProof.Rows L2
/-! ### what repr asks of tuples of pairs -/
theorem small_log {i : Int} (h : i.natAbs < 10 ^ 12) : i.natAbs.log2 < 1920 := by
  rcases Nat.eq_zero_or_pos i.natAbs with e | e
  · rw [e]; decide
  · have h1 : i.natAbs < 2 ^ 64 := Nat.lt_of_lt_of_le h (by decide)
    have h2 : i.natAbs.log2 < 64 := (Nat.log2_lt (by omega)).mpr h1
    omega
theorem show_ints : ∀ ns : List Int, (∀ n ∈ ns, n.natAbs < 10 ^ 12) → PyData.showableAll (ns.map PyData.int) = true
  | [], _ => by simp [PyData.showableAll]
  | n :: r, h => by
    have h1 := small_log (h n (List.mem_cons_self ..))
    have h2 := show_ints r fun m hm => h m (List.mem_cons_of_mem _ hm)
    simp [PyData.showableAll, PyData.showable, h1, h2]
theorem show_dIs : ∀ ps : List (List Int), (∀ p ∈ ps, ∀ n ∈ p, n.natAbs < 10 ^ 12) → PyData.showableAll (ps.map dI) = true
  | [], _ => by simp [PyData.showableAll]
  | p :: r, h => by
    have h1 := show_ints p (h p (List.mem_cons_self ..))
    have h2 := show_dIs r fun m hm => h m (List.mem_cons_of_mem _ hm)
    have h3 : (dI p).showable = true := by simp only [dI, PyData.showable]; exact h1
    simp [PyData.showableAll, h3, h2]
theorem short_dIs : ∀ ps : List (List Int), (∀ p ∈ ps, ∀ n ∈ p, n.natAbs < 10 ^ 12) → PyData.intsShortAll 13 (ps.map dI) = true
  | [], _ => by simp [PyData.intsShortAll]
  | p :: r, h => by
    have h1 := PyData.intsShortAll_ints p (h p (List.mem_cons_self ..))
    have h2 := short_dIs r fun m hm => h m (List.mem_cons_of_mem _ hm)
    have h3 : (dI p).intsShort 13 = true := by simp only [dI, PyData.intsShort]; exact h1
    simp [PyData.intsShortAll, h3, h2]
theorem bulk_ints : ∀ ns : List Int, PyData.bulkAll (ns.map PyData.int) = ns.length
  | [] => by simp [PyData.bulkAll]
  | n :: r => by simp [PyData.bulkAll, PyData.bulk, bulk_ints r]; omega
theorem bulk_dIs : ∀ ps : List (List Int), (∀ p ∈ ps, p.length ≤ 2) → PyData.bulkAll (ps.map dI) ≤ 3 * ps.length
  | [], _ => by simp [PyData.bulkAll]
  | p :: r, h => by
    have h1 : (dI p).bulk = p.length := by simp only [dI, PyData.bulk, bulk_ints]
    have h2 := bulk_dIs r fun m hm => h m (List.mem_cons_of_mem _ hm)
    have h3 := h p (List.mem_cons_self ..)
    simp only [List.map_cons, PyData.bulkAll, h1, List.length_cons]
    omega
/-- (ps, os), two tuples of pairs -/
def d2 (ps os : List (List Int)) : PyData := .tuple [dTT ps, dTT os]
theorem pr_small {b : Int} (hb : b ≤ 64) {ps : List (List Int)} (h : ∀ p ∈ ps, Pr b p) : ∀ p ∈ ps, ∀ n ∈ p, n.natAbs < 10 ^ 12 := fun p hp n hn => by
  obtain ⟨x, y, rfl, hx, hy⟩ := h p hp
  simp only [List.mem_cons, List.not_mem_nil, or_false] at hn
  rcases hn with rfl | rfl <;> omega
theorem pr_len {b : Int} {ps : List (List Int)} (h : ∀ p ∈ ps, Pr b p) : ∀ p ∈ ps, p.length ≤ 2 := fun p hp => by
  obtain ⟨x, y, rfl, _⟩ := h p hp
  simp
structure Reprs (ps os : List (List Int)) : Prop where
  h1 : (d2 ps os).showable = true
  h2 : (d2 ps os).hasDict = false
  h3 : (d2 ps os).depth ≤ 64
  h4 : (d2 ps os).shown.length ≤ sizeLine
theorem reprs {b c : Int} (hb : b ≤ 64) (hc : c ≤ 64) {ps os : List (List Int)} (h : ∀ p ∈ ps, Pr b p) (h' : ∀ p ∈ os, Pr c p) (l1 : ps.length ≤ 1000) (l2 : os.length ≤ 1000) : Reprs ps os := by
  have lay : (d2 ps os).canLay0 = true := by
    simp only [d2, dTT, PyData.canLay0, PyData.canLayAll0, lay_dI, Bool.and_self]
  refine ⟨?_, PyData.hasDict_of_canLay _ lay, ?_, ?_⟩
  · simp only [d2, dTT, PyData.showable, PyData.showableAll, show_dIs ps (pr_small hb h), show_dIs os (pr_small hc h'), Bool.and_self]
  · have h1 := dep_dI ps
    have h2 := dep_dI os
    simp only [d2, dTT, PyData.depth, PyData.depthAll]
    omega
  · refine PyData.shown_fits_bulk (B := 13) (by decide) (by decide) (PyData.leavesShort_of_canLay0 13 _ lay ?_) ?_
    · simp only [d2, dTT, PyData.intsShort, PyData.intsShortAll, short_dIs ps (pr_small hb h), short_dIs os (pr_small hc h'), Bool.and_self]
    · have h1 := bulk_dIs ps (pr_len h)
      have h2 := bulk_dIs os (pr_len h')
      simp only [d2, dTT, PyData.bulk, PyData.bulkAll]
      omega
theorem d2_dp {K : PySem.W.Frag} {H : Hp} {T a b : Addr} {ps os : List (List Int)} (h : H T = some (.tup [.ref a, .ref b])) (h1 : Tups K H a ps) (h2 : Tups K H b os) : Dp K H (.ref T) (d2 ps os) :=
  .tup (.inl (.inl h)) (.cons h1.dp (.cons h2.dp .nil))
end RV
namespace RV
open PySem PySem.Spec PyProof.Rows L2
/-- (ns, ps): mirrors and steps -/
def d1 (ns : List Int) (ps : List (List Int)) : PyData := .tuple [dI ns, dTT ps]
structure Shows (d : PyData) : Prop where
  h1 : d.showable = true
  h2 : d.hasDict = false
  h3 : d.depth ≤ 64
  h4 : d.shown.length ≤ sizeLine
theorem shows_d1 {b : Int} (hb : b ≤ 64) {ns : List Int} {ps : List (List Int)} (hn : ∀ n ∈ ns, n.natAbs < 10 ^ 12) (ln : ns.length ≤ 1000) (h : ∀ p ∈ ps, Pr b p) (l1 : ps.length ≤ 1000) : Shows (d1 ns ps) := by
  have lay : (d1 ns ps).canLay0 = true := by
    simp only [d1, dTT, PyData.canLay0, PyData.canLayAll0, lay_dI, dI_lay, Bool.and_self]
  have i1 : (dI ns).showable = true := by simp only [dI, PyData.showable]; exact show_ints ns hn
  have i2 : (dI ns).intsShort 13 = true := by simp only [dI, PyData.intsShort]; exact PyData.intsShortAll_ints ns hn
  have i3 : (dI ns).bulk = ns.length := by simp only [dI, PyData.bulk, bulk_ints]
  refine ⟨?_, PyData.hasDict_of_canLay _ lay, ?_, ?_⟩
  · simp only [d1, dTT, PyData.showable, PyData.showableAll, i1, show_dIs ps (pr_small hb h), Bool.and_self]
  · have h1 := dep_dI ps
    simp only [d1, dTT, PyData.depth, PyData.depthAll, dI_dep]
    omega
  · refine PyData.shown_fits_bulk (B := 13) (by decide) (by decide) (PyData.leavesShort_of_canLay0 13 _ lay ?_) ?_
    · simp only [d1, dTT, PyData.intsShort, PyData.intsShortAll, i2, short_dIs ps (pr_small hb h), Bool.and_self]
    · have h1 := bulk_dIs ps (pr_len h)
      simp only [d1, dTT, PyData.bulk, PyData.bulkAll, i3]
      omega
theorem shows_dI {ns : List Int} (hn : ∀ n ∈ ns, n.natAbs < 10 ^ 12) (ln : ns.length ≤ 1000) : Shows (dI ns) := by
  have i3 : (dI ns).bulk = ns.length := by simp only [dI, PyData.bulk, bulk_ints]
  refine ⟨by simp only [dI, PyData.showable]; exact show_ints ns hn, PyData.hasDict_of_canLay _ (dI_lay ns), by rw [dI_dep]; decide, ?_⟩
  refine PyData.shown_fits_bulk (B := 13) (by decide) (by decide) (PyData.leavesShort_of_canLay0 13 _ (dI_lay ns) ?_) (by rw [i3]; omega)
  simp only [dI, PyData.intsShort]; exact PyData.intsShortAll_ints ns hn
theorem d1_dp {K : PySem.W.Frag} {H : Hp} {T a b : Addr} {ns : List Int} {ps : List (List Int)} (h : H T = some (.tup [.ref a, .ref b])) (h1 : SqT K H a (ns.map V.int)) (h2 : Tups K H b ps) : Dp K H (.ref T) (d1 ns ps) :=
  .tup (.inl (.inl h)) (.cons (dpT h1) (.cons h2.dp .nil))
theorem shaped_d1 (ns : List Int) (ps : List (List Int)) : SeqAt.shaped (d1 ns ps) = true := by
  have h1 := dep_dI ps
  have e : (d1 ns ps).depth ≤ 64 := by simp only [d1, dTT, PyData.depth, PyData.depthAll, dI_dep]; omega
  show ((d1 ns ps).canLay0 && decide ((d1 ns ps).depth ≤ 64)) = true
  rw [decide_eq_true e, Bool.and_true]
  simp only [d1, dTT, PyData.canLay0, PyData.canLayAll0, lay_dI, dI_lay, Bool.and_self]
theorem eqv_d1 (ns ms : List Int) (ps qs : List (List Int)) : PyData.eqv (d1 ns ps) (d1 ms qs) = (decide (ns = ms) && decide (ps = qs)) := by
  simp only [d1, PyData.eqv, PyData.eqvAll, eqvI, eqvTT, Bool.and_true]
end RV
namespace RV
/-! ### rings: runs of marks, by the list of all their marks -/
/-- so many times the word -/
def rp (n : Nat) (w : List Int) : List Int := (List.replicate n w).flatten
theorem rp_zero (w : List Int) : rp 0 w = [] := rfl
theorem rp_succ (n : Nat) (w : List Int) : rp (n + 1) w = w ++ rp n w := by unfold rp; rw [List.replicate_succ, List.flatten_cons]
theorem rp_one (w : List Int) : rp 1 w = w := by rw [rp_succ, rp_zero, List.append_nil]
theorem rp_add (a b : Nat) (w : List Int) : rp (a + b) w = rp a w ++ rp b w := by unfold rp; rw [← List.replicate_append_replicate, List.flatten_append]
theorem rp_len : ∀ (n : Nat) (w : List Int), (rp n w).length = n * w.length
  | 0, w => by rw [rp_zero, Nat.zero_mul]; rfl
  | n + 1, w => by rw [rp_succ, List.length_append, rp_len n w, Nat.succ_mul, Nat.add_comm]
theorem rp_get : ∀ (n : Nat) (w : List Int) (i : Nat), i < n * w.length → (rp n w)[i]? = w[i % w.length]?
  | 0, w, i, h => by rw [Nat.zero_mul] at h; omega
  | n + 1, w, i, h => by
    rw [rp_succ]
    rcases Nat.lt_or_ge i w.length with z | z
    · rw [List.getElem?_append_left z, Nat.mod_eq_of_lt z]
    · rw [List.getElem?_append_right z, rp_get n w _ (by rw [Nat.succ_mul] at h; omega), Nat.mod_eq_sub_mod z]
theorem rp_rev : ∀ (n : Nat) (w : List Int), (rp n w).reverse = rp n w.reverse
  | 0, w => rfl
  | n + 1, w => by rw [rp_succ, List.reverse_append, rp_rev n w, show n + 1 = n + 1 from rfl, rp_add, rp_one]
theorem rp_map (f : Int → Int) : ∀ (n : Nat) (w : List Int), (rp n w).map f = rp n (w.map f)
  | 0, w => rfl
  | n + 1, w => by rw [rp_succ, List.map_append, rp_map f n w, rp_succ]
/-- all marks of the runs -/
def mk : List (Int × List Int) → List Int
  | [] => []
  | r :: rs => rp r.1.toNat r.2 ++ mk rs
theorem mk_app : ∀ (a b : List (Int × List Int)), mk (a ++ b) = mk a ++ mk b
  | [], b => rfl
  | r :: a, b => by show rp r.1.toNat r.2 ++ mk (a ++ b) = rp r.1.toNat r.2 ++ mk a ++ mk b; rw [mk_app a b, List.append_assoc]
theorem mk_one (t : Int) (w : List Int) : mk [(t, w)] = rp t.toNat w := by show rp t.toNat w ++ [] = _; rw [List.append_nil]
/-- how many places a run takes -/
def rl (r : Int × List Int) : Int := r.1 * (r.2.length : Int)
def pl (rs : List (Int × List Int)) : Int := (rs.map rl).sum
theorem pl_cons (r : Int × List Int) (rs : List (Int × List Int)) : pl (r :: rs) = rl r + pl rs := by unfold pl; rw [List.map_cons, List.sum_cons]
theorem pl_app (a b : List (Int × List Int)) : pl (a ++ b) = pl a + pl b := by unfold pl; rw [List.map_append, List.sum_append_int]
/-- runs as rings have them -/
def Rn (rs : List (Int × List Int)) : Prop := ∀ r ∈ rs, 1 ≤ r.1 ∧ r.2 ≠ []
theorem rl_pos {r : Int × List Int} (h : 1 ≤ r.1 ∧ r.2 ≠ []) : 0 < rl r := Int.mul_pos (by omega) (by have := List.length_pos_iff.mpr h.2; omega)
theorem rl_nat {r : Int × List Int} (h : 0 ≤ r.1) : ((r.1.toNat * r.2.length : Nat) : Int) = rl r := by
  unfold rl; rw [Int.natCast_mul, Int.toNat_of_nonneg h]
theorem mk_len : ∀ {rs : List (Int × List Int)}, (∀ r ∈ rs, 0 ≤ r.1) → ((mk rs).length : Int) = pl rs
  | [], _ => rfl
  | r :: rs, h => by
    show (((rp r.1.toNat r.2 ++ mk rs).length : Nat) : Int) = _
    rw [List.length_append, Int.natCast_add, mk_len fun q hq => h q (List.mem_cons_of_mem _ hq), pl_cons, rp_len, rl_nat (h r (List.mem_cons_self ..))]
theorem Rn.nn {rs : List (Int × List Int)} (h : Rn rs) : ∀ r ∈ rs, 0 ≤ r.1 := fun r hr => by have := (h r hr).1; omega
theorem Rn.sub {rs qs : List (Int × List Int)} (h : Rn rs) (s : ∀ q ∈ qs, q ∈ rs) : Rn qs := fun q hq => h q (s q hq)
theorem Rn.pos {rs : List (Int × List Int)} (h : Rn rs) (n : rs ≠ []) : 0 < pl rs := by
  cases rs with
  | nil => exact absurd rfl n
  | cons r rs =>
    have h1 := rl_pos (h r (List.mem_cons_self ..))
    have h2 : 0 ≤ pl rs := by rw [← mk_len (Rn.nn (h.sub fun q hq => List.mem_cons_of_mem _ hq))]; omega
    rw [pl_cons]; omega
theorem pl_nn {rs : List (Int × List Int)} (h : ∀ r ∈ rs, 0 ≤ r.1) : 0 ≤ pl rs := by rw [← mk_len h]; omega
theorem split_at {α : Type} {rs : List α} {a : Nat} {r : α} (h : rs[a]? = some r) : rs = rs.take a ++ r :: rs.drop (a + 1) := by
  have hl := (List.getElem?_eq_some_iff.mp h)
  obtain ⟨hl, e⟩ := hl
  conv => lhs; rw [← List.take_append_drop a rs]
  rw [List.drop_eq_getElem_cons hl, e]
theorem mk_at {rs : List (Int × List Int)} (hn : ∀ r ∈ rs, 0 ≤ r.1) {a : Nat} {r : Int × List Int} (h : rs[a]? = some r) {i : Nat} (hi : (i : Int) < rl r) : (mk rs)[(pl (rs.take a)).toNat + i]? = r.2[i % r.2.length]? := by
  have e := split_at h
  have n1 : ∀ q ∈ rs.take a, 0 ≤ q.1 := fun q hq => hn q (List.mem_of_mem_take hq)
  have l1 := mk_len n1
  have hr0 : 0 ≤ r.1 := hn r (List.mem_of_getElem? h)
  have ln : i < r.1.toNat * r.2.length := by have z := rl_nat (r := r) hr0; omega
  have key : (mk (rs.take a ++ r :: rs.drop (a + 1)))[(pl (rs.take a)).toNat + i]? = r.2[i % r.2.length]? := by
   rw [mk_app]
   show (mk (rs.take a) ++ (rp r.1.toNat r.2 ++ mk (rs.drop (a + 1))))[_]? = _
   rw [List.getElem?_append_right (by omega), show (pl (rs.take a)).toNat + i - (mk (rs.take a)).length = i by omega, List.getElem?_append_left (by rw [rp_len]; exact ln), rp_get _ _ _ ln]
  rw [← e] at key; exact key
/-- the mark at a place, counted on round the ring -/
def mP (l : List Int) (p : Int) : Int := l.getD (p % (l.length : Int)).toNat 0
theorem mP_get {l : List Int} {i : Nat} (h : i < l.length) : mP l (i : Int) = l.getD i 0 := by
  unfold mP; rw [Int.emod_eq_of_lt (by omega) (by omega), Int.toNat_natCast]
theorem mP_mod (l : List Int) (p q : Int) (h : (p - q) % (l.length : Int) = 0) : mP l p = mP l q := by
  unfold mP
  rw [Int.emod_emod_of_dvd p (Int.dvd_refl _) |>.symm, (Int.emod_eq_emod_iff_emod_sub_eq_zero).mpr h, Int.emod_emod_of_dvd q (Int.dvd_refl _)]
theorem mP_add (l : List Int) (p : Int) (k : Int) : mP l (p + (l.length : Int) * k) = mP l p := by
  apply mP_mod
  rw [show p + (l.length : Int) * k - p = (l.length : Int) * k by omega, Int.mul_emod_right]
theorem mP_rest (l : List Int) (p : Int) : mP l (p % (l.length : Int)) = mP l p := by
  apply mP_mod
  rw [Int.sub_emod, Int.emod_emod_of_dvd p (Int.dvd_refl _), Int.sub_self, Int.zero_emod]
/-- a place within: nonneg rest -/
theorem rest_in {l : List Int} (h : l ≠ []) (p : Int) : 0 ≤ p % (l.length : Int) ∧ p % (l.length : Int) < (l.length : Int) := by
  have := List.length_pos_iff.mpr h
  exact ⟨Int.emod_nonneg _ (by omega), Int.emod_lt_of_pos _ (by omega)⟩
theorem mP_rot {A B : List Int} (h : A ++ B ≠ []) (p : Int) : mP (B ++ A) p = mP (A ++ B) (p + (A.length : Int)) := by
  have hl : ((B ++ A).length : Int) = ((A ++ B).length : Int) := by rw [List.length_append, List.length_append]; omega
  have hN : ((A ++ B).length : Int) = (A.length : Int) + (B.length : Int) := by rw [List.length_append]; omega
  have h' : B ++ A ≠ [] := fun z => h (by rw [List.append_eq_nil_iff] at z ⊢; exact ⟨z.2, z.1⟩)
  obtain ⟨i, hi⟩ : ∃ i : Nat, (i : Int) = p % ((B ++ A).length : Int) := ⟨(p % ((B ++ A).length : Int)).toNat, by have := (rest_in h' p).1; omega⟩
  have b := (rest_in h' p).2
  have e1 : mP (B ++ A) p = (B ++ A).getD i 0 := by rw [← mP_rest, ← hi, mP_get (by omega)]
  rw [e1]
  have hm : (p - (i : Int)) % ((A ++ B).length : Int) = 0 := by
    rw [hi, hl, Int.sub_emod, Int.emod_emod_of_dvd p (Int.dvd_refl _), Int.sub_self, Int.zero_emod]
  have e2 : mP (A ++ B) (p + (A.length : Int)) = mP (A ++ B) ((i : Int) + (A.length : Int)) := mP_mod _ _ _ (by rw [show p + (A.length : Int) - ((i : Int) + (A.length : Int)) = p - (i : Int) by omega]; exact hm)
  rw [e2]
  rcases Nat.lt_or_ge i B.length with z | z
  · rw [show (i : Int) + (A.length : Int) = ((A.length + i : Nat) : Int) by omega, mP_get (by rw [List.length_append]; omega), List.getD_eq_getElem?_getD, List.getD_eq_getElem?_getD, List.getElem?_append_left z, List.getElem?_append_right (by omega), show A.length + i - A.length = i by omega]
  · have e3 : mP (A ++ B) ((i : Int) + (A.length : Int)) = mP (A ++ B) ((i - B.length : Nat) : Int) := mP_mod _ _ _ (by
      rw [show (i : Int) + (A.length : Int) - ((i - B.length : Nat) : Int) = ((A ++ B).length : Int) * 1 by omega, Int.mul_emod_right])
    rw [← hi, hl, hN] at b
    rw [e3, mP_get (by rw [List.length_append]; omega), List.getD_eq_getElem?_getD, List.getD_eq_getElem?_getD, List.getElem?_append_right z, List.getElem?_append_left (by omega)]
theorem mP_back {l : List Int} (h : l ≠ []) (f : Int → Int) (p : Int) : mP (l.reverse.map f) p = f (mP l ((l.length : Int) - 1 - p)) := by
  have hl : ((l.reverse.map f).length : Int) = (l.length : Int) := by rw [List.length_map, List.length_reverse]
  obtain ⟨i, hi⟩ : ∃ i : Nat, (i : Int) = p % (l.length : Int) := ⟨(p % (l.length : Int)).toNat, by have := (rest_in h p).1; omega⟩
  have b := (rest_in h p).2
  rw [← hi] at b
  have il : i < l.length := by omega
  have e1 : mP (l.reverse.map f) p = (l.reverse.map f).getD i 0 := by rw [← mP_rest, hl, ← hi, mP_get (by omega)]
  have e2 : mP l ((l.length : Int) - 1 - p) = mP l ((l.length - 1 - i : Nat) : Int) := mP_mod _ _ _ (by
    rw [show (l.length : Int) - 1 - p - ((l.length - 1 - i : Nat) : Int) = (i : Int) - p by omega, hi, Int.sub_emod, Int.emod_emod_of_dvd p (Int.dvd_refl _), Int.sub_self, Int.zero_emod])
  rw [e1, e2, mP_get (by omega), List.getD_eq_getElem?_getD, List.getD_eq_getElem?_getD, List.getElem?_map, List.getElem?_reverse il]
  rw [List.getElem?_eq_getElem (show l.length - 1 - i < l.length by omega)]; rfl
/-! ### closed round -/
/-- each mark may stand behind the one ahead of it, all round -/
def Cyc (ps : List (List Int)) (l : List Int) : Prop := ∀ p : Int, [mP l p, mP l (p + 1)] ∈ ps
theorem Cyc.rot {ps : List (List Int)} {A B : List Int} (h : A ++ B ≠ []) (c : Cyc ps (A ++ B)) : Cyc ps (B ++ A) := fun p => by
  rw [mP_rot h, mP_rot h, show p + 1 + (A.length : Int) = p + (A.length : Int) + 1 by omega]; exact c _
theorem Cyc.back {ps : List (List Int)} {l : List Int} {f : Int → Int} (h : l ≠ []) (hf : ∀ a b, a ∈ l → b ∈ l → [a, b] ∈ ps → [f b, f a] ∈ ps) (hm : ∀ p, mP l p ∈ l) (c : Cyc ps l) : Cyc ps (l.reverse.map f) := fun p => by
  rw [mP_back h, mP_back h]
  have := c ((l.length : Int) - 1 - (p + 1))
  rw [show (l.length : Int) - 1 - (p + 1) + 1 = (l.length : Int) - 1 - p by omega] at this
  exact hf _ _ (hm _) (hm _) this
theorem mP_mem {l : List Int} (h : l ≠ []) (p : Int) : mP l p ∈ l := by
  have b := rest_in h p
  unfold mP
  rw [List.getD_eq_getElem?_getD, List.getElem?_eq_getElem (show (p % (l.length : Int)).toNat < l.length by omega)]
  exact List.getElem_mem _
/-- a walk from the mark x round and back to it -/
def Loop (ps : List (List Int)) (x : Int) (l : List Int) : Prop := (∀ y, l[0]? = some y → y = x) ∧ (∀ i a b, l[i]? = some a → (l ++ [x])[i + 1]? = some b → [a, b] ∈ ps)
theorem Loop.nil (ps : List (List Int)) (x : Int) : Loop ps x [] := ⟨(fun _ h => nomatch h), fun _ _ _ h => nomatch h⟩
theorem Loop.app {ps : List (List Int)} {x : Int} {u v : List Int} (hu : Loop ps x u) (hv : Loop ps x v) : Loop ps x (u ++ v) := by
  constructor
  · intro y hy
    cases u with
    | nil => exact hv.1 y hy
    | cons a u => exact hu.1 y hy
  · intro i a b ha hb
    rcases Nat.lt_or_ge i u.length with z | z
    · rw [List.getElem?_append_left z] at ha
      refine hu.2 i a b ha ?_
      rcases Nat.lt_or_ge (i + 1) u.length with z2 | z2
      · rw [List.append_assoc, List.getElem?_append_left z2] at hb
        rw [List.getElem?_append_left z2]; exact hb
      · rw [List.append_assoc, List.getElem?_append_right z2] at hb
        rw [List.getElem?_append_right z2]
        rw [show i + 1 - u.length = 0 by omega] at hb ⊢
        cases v with
        | nil => exact hb
        | cons c v =>
          rw [show ((c :: v) ++ [x])[0]? = some c from rfl] at hb
          cases hb
          rw [hv.1 _ rfl]; rfl
    · rw [List.getElem?_append_right z] at ha
      rw [List.append_assoc, List.getElem?_append_right (by omega), show i + 1 - u.length = i - u.length + 1 by omega] at hb
      exact hv.2 _ a b ha hb
theorem Loop.rp {ps : List (List Int)} {x : Int} {w : List Int} (h : Loop ps x w) : ∀ n, Loop ps x (rp n w)
  | 0 => Loop.nil ps x
  | n + 1 => by rw [rp_succ]; exact h.app (Loop.rp h n)
theorem Loop.cyc {ps : List (List Int)} {x : Int} {l : List Int} (h : Loop ps x l) (n : l ≠ []) : Cyc ps l := fun p => by
  obtain ⟨i, hi⟩ : ∃ i : Nat, (i : Int) = p % (l.length : Int) := ⟨(p % (l.length : Int)).toNat, by have := (rest_in n p).1; omega⟩
  have b := (rest_in n p).2
  rw [← hi] at b
  have il : i < l.length := by omega
  have e1 : mP l p = mP l (i : Int) := by rw [hi, mP_rest]
  have e2 : mP l (p + 1) = mP l ((i : Int) + 1) := mP_mod _ _ _ (by rw [show p + 1 - ((i : Int) + 1) = p - i by omega, hi, Int.sub_emod, Int.emod_emod_of_dvd p (Int.dvd_refl _), Int.sub_self, Int.zero_emod])
  rw [e1, e2, mP_get il]
  refine h.2 i _ _ (by rw [List.getD_eq_getElem?_getD, List.getElem?_eq_getElem il]; rfl) ?_
  rcases Nat.lt_or_ge (i + 1) l.length with z | z
  · rw [List.getElem?_append_left z, show (i : Int) + 1 = ((i + 1 : Nat) : Int) by omega, mP_get z, List.getD_eq_getElem?_getD, List.getElem?_eq_getElem z]; rfl
  · rw [List.getElem?_append_right z, show i + 1 - l.length = 0 by omega]
    have e3 : mP l ((i : Int) + 1) = mP l ((0 : Nat) : Int) := mP_mod _ _ _ (by rw [show (i : Int) + 1 - ((0 : Nat) : Int) = (l.length : Int) * 1 by omega, Int.mul_emod_right])
    have l0 : 0 < l.length := by omega
    rw [e3, mP_get l0, List.getD_eq_getElem?_getD, List.getElem?_eq_getElem l0]
    rw [h.1 l[0] (List.getElem?_eq_getElem l0)]; rfl
end RV
namespace RV
open PySem PySem.Spec PyProof.Rows L2
/-! ### what repr asks of rings: runs of marks, times to forty figures -/
theorem log_big {i : Int} (h : i.natAbs < 10 ^ 40) : i.natAbs.log2 < 1920 := by
  rcases Nat.eq_zero_or_pos i.natAbs with e | e
  · rw [e]; decide
  · have h1 : i.natAbs < 2 ^ 133 := Nat.lt_of_lt_of_le h (by decide)
    have h2 : i.natAbs.log2 < 133 := (Nat.log2_lt (by omega)).mpr h1
    omega
theorem len_big {i : Int} (h : i.natAbs < 10 ^ 40) : (PyData.shown (.int i)).length ≤ 41 := by
  have e := int_text_length_le10 (k := 40) (by decide) h
  show (Str.ofString (toString i)).length ≤ 41
  rw [PySem.ofString_length]
  exact e
theorem shows_of {d : PyData} (lay : d.canLay0 = true) (sh : d.showable = true) (si : d.intsShort 41 = true) (dep : d.depth ≤ 64) (bk : d.bulk ≤ 200000) : Shows d := by
  refine ⟨sh, PyData.hasDict_of_canLay _ lay, dep, ?_⟩
  have z := PyData.shown_le_bulk 41 (by decide) d (PyData.leavesShort_of_canLay0 41 _ lay si)
  have z2 : (41 + 2) * d.bulk ≤ 43 * 200000 := Nat.mul_le_mul_left 43 bk
  rw [sizeLine_eq]; omega
theorem show_bigs : ∀ ns : List Int, (∀ n ∈ ns, n.natAbs < 10 ^ 40) → PyData.showableAll (ns.map PyData.int) = true ∧ PyData.intsShortAll 41 (ns.map PyData.int) = true
  | [], _ => ⟨by simp [PyData.showableAll], by simp [PyData.intsShortAll]⟩
  | n :: r, h => by
    have h1 := h n (List.mem_cons_self ..)
    have h2 := show_bigs r fun m hm => h m (List.mem_cons_of_mem _ hm)
    exact ⟨by simp [PyData.showableAll, PyData.showable, log_big h1, h2.1], by simp [PyData.intsShortAll, PyData.intsShort, len_big h1, h2.2]⟩
def dRun (r : Int × List Int) : PyData := .tuple [.int r.1, dI r.2]
def dRg (rs : List (Int × List Int)) : PyData := .tuple (rs.map dRun)
theorem lay_runs : ∀ rs : List (Int × List Int), PyData.canLayAll0 (rs.map dRun) = true
  | [] => by simp [PyData.canLayAll0]
  | r :: rs => by simp [PyData.canLayAll0, dRun, PyData.canLay0, dI_lay, lay_runs rs]
theorem dep_runs : ∀ rs : List (Int × List Int), PyData.depthAll (rs.map dRun) ≤ 2
  | [] => by simp [PyData.depthAll]
  | r :: rs => by
    have h := dep_runs rs
    have h1 : (dRun r).depth = 2 := by simp [dRun, PyData.depth, PyData.depthAll, dI_dep]
    simp only [List.map_cons, PyData.depthAll, h1]; omega
theorem show_runs : ∀ rs : List (Int × List Int), (∀ r ∈ rs, r.1.natAbs < 10 ^ 40 ∧ ∀ n ∈ r.2, n.natAbs < 10 ^ 40) → PyData.showableAll (rs.map dRun) = true ∧ PyData.intsShortAll 41 (rs.map dRun) = true
  | [], _ => ⟨by simp [PyData.showableAll], by simp [PyData.intsShortAll]⟩
  | r :: rs, h => by
    obtain ⟨h1, h2⟩ := h r (List.mem_cons_self ..)
    have h3 := show_runs rs fun q hq => h q (List.mem_cons_of_mem _ hq)
    have h4 := show_bigs r.2 h2
    have a1 : (dI r.2).showable = true := by simp only [dI, PyData.showable]; exact h4.1
    have a2 : (dI r.2).intsShort 41 = true := by simp only [dI, PyData.intsShort]; exact h4.2
    exact ⟨by simp [PyData.showableAll, dRun, PyData.showable, log_big h1, a1, h3.1], by simp [PyData.intsShortAll, dRun, PyData.intsShort, len_big h1, a2, h3.2]⟩
theorem bulk_runs : ∀ (rs : List (Int × List Int)) (k : Nat), (∀ r ∈ rs, r.2.length ≤ k) → PyData.bulkAll (rs.map dRun) ≤ (k + 3) * rs.length
  | [], _, _ => by simp [PyData.bulkAll]
  | r :: rs, k, h => by
    have h1 : (dI r.2).bulk = r.2.length := by simp only [dI, PyData.bulk, bulk_ints]
    have h2 := bulk_runs rs k fun q hq => h q (List.mem_cons_of_mem _ hq)
    have h3 := h r (List.mem_cons_self ..)
    have h4 : (dRun r).bulk ≤ r.2.length + 2 := by simp only [dRun, PyData.bulk, PyData.bulkAll, h1]; omega
    simp only [List.map_cons, PyData.bulkAll, List.length_cons, Nat.mul_succ]; omega
theorem shows_dRg {rs : List (Int × List Int)} (h : ∀ r ∈ rs, r.1.natAbs < 10 ^ 40 ∧ ∀ n ∈ r.2, n.natAbs < 10 ^ 40) (hw : ∀ r ∈ rs, r.2.length ≤ 1000) (hl : rs.length ≤ 100) : Shows (dRg rs) := by
  have h1 := show_runs rs h
  have h2 := dep_runs rs
  have h3 := bulk_runs rs 1000 hw
  have h4 : (1000 + 3) * rs.length ≤ 1003 * 100 := Nat.mul_le_mul_left _ hl
  refine shows_of ?_ ?_ ?_ ?_ ?_
  · simp only [dRg, PyData.canLay0]; exact lay_runs rs
  · simp only [dRg, PyData.showable]; exact h1.1
  · simp only [dRg, PyData.intsShort]; exact h1.2
  · simp only [dRg, PyData.depth]; omega
  · simp only [dRg, PyData.bulk]; omega
end RV
set_option maxHeartbeats 4000000
namespace K52
open PySem PySem.Spec PyProof.Rows L2 RV TL
/-- data that repr can write -/
structure Gd (d : PyData) : Prop where
  lay : d.canLay0 = true
  sh : d.showable = true
  si : d.intsShort 41 = true
  dep : d.depth ≤ 5
  bk : d.bulk ≤ 40000
theorem Gd.shows {d : PyData} (h : Gd d) : Shows d := shows_of h.lay h.sh h.si (by have := h.dep; omega) (by have := h.bk; omega)
theorem gd_str {x : Str} (h : ∀ c ∈ tl x, c < 256) (hl : x.length ≤ 9000) : (PyData.str x).canLay0 = true ∧ (PyData.str x).showable = true ∧ (PyData.str x).intsShort 41 = true ∧ (PyData.str x).depth = 0 ∧ (PyData.str x).bulk ≤ 9000 := by
  refine ⟨?_, by simp [PyData.showable], by simp [PyData.intsShort], by simp [PyData.depth], hl⟩
  simp only [PyData.canLay0]
  show PyData.strOk x = true
  unfold PyData.strOk
  rw [Array.all_eq_true_iff_forall_mem]
  intro c hc
  have := h c (Array.mem_toList_iff.mpr hc)
  simp only [decide_eq_true_eq]
  omega
theorem low_n (n : Nat) : ∀ c ∈ tl (num n), c < 256 := fun c hc => by
  rw [tl_nm] at hc
  have h1 : c ≤ 57 := (numL_digits n c hc).2
  omega
theorem low_app {x y : Str} (h1 : ∀ c ∈ tl x, c < 256) (h2 : ∀ c ∈ tl y, c < 256) : ∀ c ∈ tl (x ++ y), c < 256 := fun c hc => by
  rw [tl_append] at hc
  rcases List.mem_append.mp hc with z | z
  · exact h1 c z
  · exact h2 c z
theorem low_join {y : Str} {l : List Str} (hy : ∀ c ∈ tl y, c < 256) (h : ∀ x ∈ l, ∀ c ∈ tl x, c < 256) : ∀ c ∈ tl (Str.join y l), c < 256 := fun c hc => by
  by_cases e : c < 256
  · exact e
  · exact absurd hc (mem_join (fun z => e (hy c z)) fun x hx z => e (h x hx c z))
theorem low_mt (ms : List Int) : ∀ c ∈ tl (mt ms), c < 256 := by
  unfold RV.mt
  split
  · rw [tl_dash]; decide
  · refine low_join (by rw [tl_pt]; decide) fun x hx => ?_
    obtain ⟨n, _, rfl⟩ := List.mem_map.mp hx
    exact low_n _
theorem low_run (r : Int × List Int) : ∀ c ∈ tl (runS r), c < 256 := low_app (low_app (low_n _) (by rw [tl_star]; decide)) (low_mt _)
theorem low_ax (r : Int × List Int) : ∀ c ∈ tl (axS r), c < 256 := low_app (low_app (low_mt _) (by rw [tl_slash]; decide)) (low_n _)
theorem low_pair (p : List Int) : ∀ c ∈ tl (pairS p), c < 256 := low_app (low_app (low_n _) (by rw [tl_slash]; decide)) (low_n _)
theorem low_ring (rs : List (Int × List Int)) : ∀ c ∈ tl (ringS rs), c < 256 := low_join (by rw [tl_sp]; decide) fun x hx => by
  obtain ⟨n, _, rfl⟩ := List.mem_map.mp hx
  exact low_run _
theorem low_plan (ps : List (List Int)) : ∀ c ∈ tl (planS ps), c < 256 := by
  unfold planS
  split
  · rw [tl_dash]; decide
  · exact low_join (by rw [tl_sp]; decide) fun x hx => by
      obtain ⟨n, _, rfl⟩ := List.mem_map.mp hx
      exact low_pair _
theorem low_ws : (∀ c ∈ tl wSide, c < 256) ∧ (∀ c ∈ tl wAxes, c < 256) ∧ (∀ c ∈ tl wSize, c < 256) ∧ (∀ c ∈ tl wWay, c < 256) := by
  unfold wSide wAxes wSize wWay
  refine ⟨?_, ?_, ?_, ?_⟩ <;> rw [tl_ofString] <;> decide
theorem low_reason {d : Rsn} (h : RsnSm d) : ∀ c ∈ tl (reasonS d), c < 256 := by
  obtain ⟨l1, l2, l3, l4⟩ := low_ws
  cases d with
  | side => exact l1
  | axes rs =>
    refine low_join (by rw [tl_sp]; decide) fun x hx => ?_
    rcases List.mem_cons.mp hx with rfl | hx
    · exact l2
    · obtain ⟨n, _, rfl⟩ := List.mem_map.mp hx
      exact low_ax _
  | word w ms =>
    refine low_app (low_app ?_ (by rw [tl_sp]; decide)) (low_mt _)
    rcases h.1 with rfl | rfl
    · exact l3
    · exact l4
theorem mt_len8 {ms : List Int} (hm : Mk8 ms) (hl : ms.length ≤ 8) : (mt ms).length ≤ 248 := by
  by_cases h : ms = []
  · subst h
    show dash.length ≤ 248
    rw [len_tl, tl_dash]; decide
  · rw [mt_ne h]
    have := join_short (y := pt1) (l := ms.map fun x => num x.toNat) (k := 30) (m := 8) (fun x hx => by
      obtain ⟨n, hn, rfl⟩ := List.mem_map.mp hx
      exact num_len (hm.nat n hn)) (by rw [List.length_map]; exact hl)
    rw [show pt1.length = 1 by rw [len_tl, tl_pt]; rfl] at this
    exact this
theorem RingSm.rz {rs : List (Int × List Int)} (h : RingSm rs) : Rz rs := ⟨fun r hr => by have := (h.sm r hr).1; omega, fun r hr => (h.sm r hr).2.1, by have := h.few; omega⟩
theorem RingSm.rzr {rs : List (Int × List Int)} (h : RingSm rs) : RzR rs := ⟨h.rz, fun r hr => (h.sm r hr).1.1, fun r hr => (h.sm r hr).2.2.1, fun r hr => by have := (h.sm r hr).2.2.2; omega, h.ne⟩
theorem PlanSm.pz {ps : List (List Int)} (h : PlanSm ps) : Pz ps := ⟨h.pr, by have := h.few; omega⟩
theorem ring_len6 {rs : List (Int × List Int)} (h : RingSm rs) : (ringS rs).length ≤ 9000 := by
  have := join_short (y := sp1) (l := rs.map runS) (k := 300) (m := 6) (fun x hx => by
    obtain ⟨r, hr', rfl⟩ := List.mem_map.mp hx
    have a := num_len (nat_small (h.rz.num r hr').1 (h.rz.num r hr').2)
    have b := mt_len8 (h.sm r hr').2.1 (h.sm r hr').2.2.2
    unfold runS
    rw [len_app, len_app, len1s]; omega) (by rw [List.length_map]; exact h.few)
  rw [len1b] at this
  exact Nat.le_trans this (by decide)
theorem plan_len7 {ps : List (List Int)} (h : PlanSm ps) : (planS ps).length ≤ 9000 := by
  by_cases e : ps = []
  · subst e
    show dash.length ≤ _
    rw [len_tl, tl_dash]; decide
  · rw [plan_ne e]
    have := join_short (y := sp1) (l := ps.map pairS) (k := 100) (m := 7) (fun x hx => by
      obtain ⟨r, hr', rfl⟩ := List.mem_map.mp hx
      obtain ⟨x, y, rfl, x0, y0⟩ := h.pr r hr'
      have a := num_len (nat_small x0.1 x0.2)
      have b := num_len (nat_small y0.1 y0.2)
      show (num x.toNat ++ slash ++ num y.toNat).length ≤ _
      rw [len_app, len_app, len1l]; omega) (by rw [List.length_map]; exact h.few)
    rw [len1b] at this
    exact Nat.le_trans this (by decide)
theorem reason_len {d : Rsn} (h : RsnSm d) : (reasonS d).length ≤ 9000 := by
  obtain ⟨w1, w2, w3, w4⟩ := w_len
  cases d with
  | side => show wSide.length ≤ _; omega
  | axes rs =>
    have h2 : rs.length ≤ 3 := h.2
    have := join_short (y := sp1) (l := wAxes :: rs.map axS) (k := 300) (m := 4) (fun x hx => by
      rcases List.mem_cons.mp hx with rfl | hx
      · omega
      · obtain ⟨r, hr', rfl⟩ := List.mem_map.mp hx
        have a := num_len (nat_small (h.1 r hr').1.1 (by have := (h.1 r hr').1.2; omega))
        have b := mt_len8 (h.1 r hr').2.1 (h.1 r hr').2.2
        unfold axS
        rw [len_app, len_app, len1l]; omega) (by rw [List.length_cons, List.length_map]; omega)
    rw [len1b] at this
    exact Nat.le_trans this (by decide)
  | word w ms =>
    have b := mt_len8 h.2.1 h.2.2
    show (w ++ sp1 ++ mt ms).length ≤ _
    rw [len_app, len_app, len1b]
    rcases h.1 with rfl | rfl <;> omega
end K52
set_option maxHeartbeats 4000000
namespace K52
open PySem PySem.Spec PyProof.Rows L2 RV TL
def dAx (r : Int × List Int) : PyData := .tuple [dI r.2, .int r.1]
def dAxs (rs : List (Int × List Int)) : PyData := .tuple (rs.map dAx)
def dRsn : Rsn → PyData
  | .side => .tuple [.str wSide]
  | .axes rs => .tuple [.str wAxes, dAxs rs]
  | .word w ms => .tuple [.str w, dI ms]
def dAll (rs : List (Int × List Int)) (ps : List (List Int)) (d : Rsn) : PyData := .tuple [dRg rs, dTT ps, .tuple [dRsn d, .str (reasonS d)]]
def dTwo (rs : List (Int × List Int)) (ps : List (List Int)) : PyData := .tuple [dRg rs, dTT ps]
def dSh (rs : List (Int × List Int)) (ps : List (List Int)) (d : Rsn) : PyData := .list [.str (ringS rs), .str (planS ps), .str (reasonS d)]
theorem RingAt.dp {K : PySem.W.Frag} {H : Hp} {a : Addr} {rs : List (Int × List Int)} (h : RingAt K H a rs) : Dp K H (.ref a) (dRg rs) := by
  obtain ⟨ks, rfl, hT, hk⟩ := h
  have z : ∀ ks : List Rk, (∀ k ∈ ks, RunOk K H k) → DpAll K H (ks.map fun k => V.ref k.1) ((ks.map valR).map dRun) := fun ks => by
    induction ks with
    | nil => exact fun _ => .nil
    | cons k ks ih =>
      intro hk
      have h1 := hk k (List.mem_cons_self ..)
      exact .cons (.tup h1.1 (.cons (.int _) (.cons (dpT h1.2) .nil))) (ih fun q hq => hk q (List.mem_cons_of_mem _ hq))
  exact .tup hT (z ks hk)
theorem AxAt.dp {K : PySem.W.Frag} {H : Hp} {a : Addr} {rs : List (Int × List Int)} (h : AxAt K H a rs) : Dp K H (.ref a) (dAxs rs) := by
  obtain ⟨ks, rfl, hT, hk⟩ := h
  have z : ∀ ks : List Rk, (∀ k ∈ ks, AxOk K H k) → DpAll K H (ks.map fun k => V.ref k.1) ((ks.map valR).map dAx) := fun ks => by
    induction ks with
    | nil => exact fun _ => .nil
    | cons k ks ih =>
      intro hk
      have h1 := hk k (List.mem_cons_self ..)
      exact .cons (.tup h1.1 (.cons (dpT h1.2) (.cons (.int _) .nil))) (ih fun q hq => hk q (List.mem_cons_of_mem _ hq))
  exact .tup hT (z ks hk)
theorem ReasonAt.dp {K : PySem.W.Frag} {H : Hp} {r : Addr} {d : Rsn} (h : ReasonAt K H r d) : Dp K H (.ref r) (dRsn d) := by
  cases d with
  | side => exact .tup h (.cons (.str _) .nil)
  | axes rs =>
    obtain ⟨a, h1, h2⟩ := h
    exact .tup h1 (.cons (.str _) (.cons h2.dp .nil))
  | word w ms =>
    obtain ⟨u, h1, h2⟩ := h
    exact .tup h1 (.cons (.str _) (.cons (dpT h2) .nil))
/-! ### they can be written -/
structure Gc (d : PyData) (n m : Nat) : Prop where
  lay : d.canLay0 = true
  sh : d.showable = true
  si : d.intsShort 41 = true
  dep : d.depth ≤ n
  bk : d.bulk ≤ m
theorem gc_str {x : Str} (h : ∀ c ∈ tl x, c < 256) (hl : x.length ≤ 9000) : Gc (.str x) 0 9000 := by
  obtain ⟨a, b, c, d, e⟩ := gd_str h hl
  exact ⟨a, b, c, by omega, e⟩
theorem gc_ints {ns : List Int} (h : ∀ n ∈ ns, n.natAbs < 10 ^ 40) (hl : ns.length ≤ 100) : Gc (dI ns) 1 100 := by
  have h4 := show_bigs ns h
  refine ⟨dI_lay ns, ?_, ?_, by rw [dI_dep]; omega, ?_⟩
  · simp only [dI, PyData.showable]; exact h4.1
  · simp only [dI, PyData.intsShort]; exact h4.2
  · simp only [dI, PyData.bulk, bulk_ints]; exact hl
theorem gc_int {n : Int} (h : n.natAbs < 10 ^ 40) : Gc (.int n) 0 0 := by
  refine ⟨by simp [PyData.canLay0], by simp [PyData.showable, log_big h], by simp [PyData.intsShort, len_big h], by simp [PyData.depth], by simp [PyData.bulk]⟩
theorem gc_nil : PyData.canLayAll0 [] = true ∧ PyData.showableAll [] = true ∧ PyData.intsShortAll 41 [] = true ∧ PyData.depthAll [] ≤ 0 ∧ PyData.bulkAll [] ≤ 0 := by
  refine ⟨by simp [PyData.canLayAll0], by simp [PyData.showableAll], by simp [PyData.intsShortAll], by simp [PyData.depthAll], by simp [PyData.bulkAll]⟩
def GcAll (ds : List PyData) (n m : Nat) : Prop := PyData.canLayAll0 ds = true ∧ PyData.showableAll ds = true ∧ PyData.intsShortAll 41 ds = true ∧ PyData.depthAll ds ≤ n ∧ PyData.bulkAll ds ≤ m
theorem gc_cons {d : PyData} {ds : List PyData} {n m n' m' : Nat} (h : Gc d n m) (r : GcAll ds n' m') : GcAll (d :: ds) (max n n') (m + 1 + m') := by
  obtain ⟨r1, r2, r3, r4, r5⟩ := r
  have := h.dep
  have := h.bk
  refine ⟨by simp [PyData.canLayAll0, h.lay, r1], by simp [PyData.showableAll, h.sh, r2], by simp [PyData.intsShortAll, h.si, r3], ?_, ?_⟩
  · simp only [PyData.depthAll]; omega
  · simp only [PyData.bulkAll]; omega
theorem gc_map {α : Type} (f : α → PyData) {n m : Nat} : ∀ l : List α, (∀ x ∈ l, Gc (f x) n m) → GcAll (l.map f) n ((m + 1) * l.length)
  | [], _ => by
    obtain ⟨a, b, c, d, e⟩ := gc_nil
    exact ⟨a, b, c, Nat.le_trans d (Nat.zero_le _), by simp [PyData.bulkAll]⟩
  | x :: r, h => by
    have h1 := gc_cons (h x (List.mem_cons_self ..)) (gc_map f r fun y hy => h y (List.mem_cons_of_mem _ hy))
    obtain ⟨a, b, c, d, e⟩ := h1
    refine ⟨a, b, c, Nat.le_trans d (show max n n ≤ n by omega), ?_⟩
    rw [List.length_cons, Nat.mul_succ]
    show PyData.bulkAll (f x :: r.map f) ≤ _
    omega
theorem gc_tup {ds : List PyData} {n m : Nat} (h : GcAll ds n m) : Gc (.tuple ds) (n + 1) m := by
  obtain ⟨a, b, c, d, e⟩ := h
  refine ⟨by simp only [PyData.canLay0]; exact a, by simp only [PyData.showable]; exact b, by simp only [PyData.intsShort]; exact c, by simp only [PyData.depth]; omega, by simp only [PyData.bulk]; exact e⟩
theorem gc_lst {ds : List PyData} {n m : Nat} (h : GcAll ds n m) : Gc (.list ds) (n + 1) m := by
  obtain ⟨a, b, c, d, e⟩ := h
  refine ⟨by simp only [PyData.canLay0]; exact a, by simp only [PyData.showable]; exact b, by simp only [PyData.intsShort]; exact c, by simp only [PyData.depth]; omega, by simp only [PyData.bulk]; exact e⟩
theorem Gc.shows {d : PyData} {n m : Nat} (h : Gc d n m) (hn : n ≤ 64) (hm : m ≤ 200000) : Shows d := shows_of h.lay h.sh h.si (by have := h.dep; omega) (by have := h.bk; omega)
theorem big40 {x : Int} (h0 : 0 ≤ x) (h : x < 10 ^ 30) : x.natAbs < 10 ^ 40 := by omega
theorem gc_mk {ms : List Int} (h : Mk8 ms) (hl : ms.length ≤ 8) : Gc (dI ms) 1 100 := gc_ints (fun n hn => big40 (h.inn n hn).1 (h.big n hn)) (by omega)
theorem gc_ring {rs : List (Int × List Int)} (h : RingSm rs) : Gc (dRg rs) 3 1000 := by
  have g := gc_tup (gc_map dRun (n := 2) (m := 102) rs fun r hr => by
    have h1 := h.sm r hr
    exact gc_tup (gc_cons (gc_int (big40 (by omega) h1.1.2)) (gc_cons (gc_mk h1.2.1 h1.2.2.2) gc_nil)))
  have hf := h.few
  exact ⟨g.lay, g.sh, g.si, g.dep, Nat.le_trans g.bk (Nat.le_trans (Nat.mul_le_mul_left _ hf) (by decide))⟩
theorem gc_plan {ps : List (List Int)} (h : PlanSm ps) : Gc (dTT ps) 2 1000 := by
  have g := gc_tup (gc_map dI (n := 1) (m := 100) ps fun r hr => by
    obtain ⟨x, y, rfl, x0, y0⟩ := h.pr r hr
    refine gc_ints (fun n hn => ?_) (by show 2 ≤ 100; decide)
    simp only [List.mem_cons, List.mem_nil_iff, or_false, List.not_mem_nil] at hn
    rcases hn with rfl | rfl
    · exact big40 x0.1 x0.2
    · exact big40 y0.1 y0.2)
  have hf := h.few
  exact ⟨g.lay, g.sh, g.si, g.dep, Nat.le_trans g.bk (Nat.le_trans (Nat.mul_le_mul_left _ hf) (by decide))⟩
theorem Gc.up {d : PyData} {n m n' m' : Nat} (h : Gc d n m) (h1 : n ≤ n') (h2 : m ≤ m') : Gc d n' m' := ⟨h.lay, h.sh, h.si, Nat.le_trans h.dep h1, Nat.le_trans h.bk h2⟩
theorem w_gc : Gc (.str wSide) 0 9000 ∧ Gc (.str wAxes) 0 9000 ∧ Gc (.str wSize) 0 9000 ∧ Gc (.str wWay) 0 9000 := by
  obtain ⟨l1, l2, l3, l4⟩ := low_ws
  obtain ⟨w1, w2, w3, w4⟩ := w_len
  exact ⟨gc_str l1 (by omega), gc_str l2 (by omega), gc_str l3 (by omega), gc_str l4 (by omega)⟩
theorem gc_rsn {d : Rsn} (h : RsnSm d) : Gc (dRsn d) 5 12000 := by
  obtain ⟨g1, g2, g3, g4⟩ := w_gc
  cases d with
  | side => exact (gc_tup (gc_cons g1 gc_nil)).up (by decide) (by decide)
  | axes rs =>
    have g := gc_tup (gc_map dAx (n := 2) (m := 102) rs fun r hr => by
      have h1 := h.1 r hr
      exact gc_tup (gc_cons (gc_mk h1.2.1 h1.2.2) (gc_cons (gc_int (big40 h1.1.1 (by omega))) gc_nil)))
    have hf : rs.length ≤ 3 := h.2
    have g' : Gc (dAxs rs) 3 1000 := ⟨g.lay, g.sh, g.si, g.dep, Nat.le_trans g.bk (Nat.le_trans (Nat.mul_le_mul_left _ hf) (by decide))⟩
    exact (gc_tup (gc_cons g2 (gc_cons g' gc_nil))).up (by decide) (by decide)
  | word w ms =>
    have gw : Gc (.str w) 0 9000 := by
      rcases h.1 with rfl | rfl
      · exact g3
      · exact g4
    exact (gc_tup (gc_cons gw (gc_cons (gc_mk h.2.1 h.2.2) gc_nil))).up (by decide) (by decide)
theorem all_shows {rs : List (Int × List Int)} {ps : List (List Int)} {d : Rsn} (h1 : RingSm rs) (h2 : PlanSm ps) (h3 : RsnSm d) : Shows (dAll rs ps d) :=
  (gc_tup (gc_cons (gc_ring h1) (gc_cons (gc_plan h2) (gc_cons (gc_tup (gc_cons (gc_rsn h3) (gc_cons (gc_str (low_reason h3) (reason_len h3)) gc_nil))) gc_nil)))).shows (by decide) (by decide)
theorem two_shows {rs : List (Int × List Int)} {ps : List (List Int)} (h1 : RingSm rs) (h2 : PlanSm ps) : Shows (dTwo rs ps) :=
  (gc_tup (gc_cons (gc_ring h1) (gc_cons (gc_plan h2) gc_nil))).shows (by decide) (by decide)
theorem sh_shows {rs : List (Int × List Int)} {ps : List (List Int)} {d : Rsn} (h1 : RingSm rs) (h2 : PlanSm ps) (h3 : RsnSm d) : Shows (dSh rs ps d) :=
  (gc_lst (gc_cons (gc_str (low_ring rs) (ring_len6 h1)) (gc_cons (gc_str (low_plan ps) (plan_len7 h2)) (gc_cons (gc_str (low_reason h3) (reason_len h3)) gc_nil)))).shows (by decide) (by decide)
theorem shaped1 : SeqAt.shaped (dRg [(1, [0])]) = true := by
  have g := gc_tup (gc_map dRun (n := 2) (m := 102) [((1 : Int), [(0 : Int)])] fun r hr => by
    rcases List.mem_singleton.mp hr with rfl
    exact gc_tup (gc_cons (gc_int (by decide)) (gc_cons (gc_ints (ns := [0]) (fun n hn => by rcases List.mem_singleton.mp hn with rfl; decide) (by decide)) gc_nil)))
  show ((dRg [(1, [0])]).canLay0 && decide ((dRg [(1, [0])]).depth ≤ 64)) = true
  have h1 : (dRg [(1, [0])]).canLay0 = true := g.lay
  have h2 : (dRg [(1, [0])]).depth ≤ 64 := Nat.le_trans g.dep (by decide)
  rw [h1, decide_eq_true h2]; rfl
theorem eqv1 : PyData.eqv (dRg [(1, [0])]) (dRg [(1, [0])]) = true := by
  simp [dRg, dRun, dI, PyData.eqv, PyData.eqvAll]
theorem text1 : ringS [(1, [0])] = Str.ofString "1*0" := by
  refine ext_tl ?_
  rw [tl_ofString]
  show tl (num 1 ++ star ++ num 0) = _
  rw [tl_append, tl_append, tl_star, num_one (by decide), num_one (by decide)]
  decide
theorem sm1 : RingSm [(1, [0])] := by
  refine ⟨fun r hr => ?_, by decide, by simp⟩
  rcases List.mem_singleton.mp hr with rfl
  exact ⟨⟨by decide, by decide⟩, ⟨fun x hx => by rcases List.mem_singleton.mp hx with rfl; decide, by decide⟩, by simp, by decide⟩
end K52
set_option maxHeartbeats 4000000
namespace K52
open PySem PySem.Spec PyProof.Rows L2 RV TL
section
variable {P : Program} {w : World} {K : PySem.W.Frag} {mg : Str → Option Value} {base : Heap} {t1 t2 t3 t4 : Tok}
variable {fNI fNs fMI fRI fA : Addr} {dNI dNs dMI dRI dA : FuncData}
variable {fD fO fNu fMk fMT : Addr} {dD dO dNu dMk dMT : FuncData}
abbrev nLaw : List Str := ["_law_script", "_law_k", "_law_pail_here", "_law_turn", "_law_ring_here", "_law_plan_here", "_law_cause", "_law_kept", "_law_ring_text", "_law_times", "_law_marks_here", "_law_words", "_law_its", "_law_shift", "_law_plan_text", "_law_shown"]
theorem scLaw : FnScope nLaw ["_law_script"] (defScope sLaw) := ⟨rfl, rfl, rfl, by decide +kernel, rfl, by decide +kernel, by decide +kernel⟩
def spLaw (K : PySem.W.Frag) : Sp := fun vs H Q _ => ∃ (a : Addr) (ns : List Int), vs = [.ref a] ∧ SqL K H a (ns.map V.int) ∧ ns.length ≤ 63 ∧ ∀ H', Q (.bl true) H'
def teRT (K : PySem.W.Frag) : TE := tOp (fun x y H Q => ∃ i j, x = .str i ∧ y = .str j ∧ i.length + j.length ≤ sizeLine ∧ Q (.str (i ++ j)) H) (tOp (fun x y H Q => ∃ i j, x = .str i ∧ y = .str j ∧ i.length + j.length ≤ sizeLine ∧ Q (.str (i ++ j)) H) (tCB (fun xs H Q => ∃ i, xs = [.int i] ∧ i.natAbs.log2 < 1920 ∧ Q (.str (toString i)) H) (tCons (tVar 9) tNil)) (tC (.str star))) (tCall (spSM K) [] E0 (tCons (tVar 10) tNil))
def teWd : TE := tOp (fun x y H Q => ∃ i j, x = .str i ∧ y = .str j ∧ i.length + j.length ≤ sizeLine ∧ Q (.str (i ++ j)) H) (tOp (fun x y H Q => ∃ i j, x = .str i ∧ y = .str j ∧ i.length + j.length ≤ sizeLine ∧ Q (.str (i ++ j)) H) (tCB (fun xs H Q => ∃ i, xs = [.int i] ∧ i.natAbs.log2 < 1920 ∧ Q (.str (toString i)) H) (tCons (tVar 12) tNil)) (tC (.str slash))) (tCB (fun xs H Q => ∃ i, xs = [.int i] ∧ i.natAbs.log2 < 1920 ∧ Q (.str (toString i)) H) (tCons (tVar 13) tNil))
structure LL (K : PySem.W.Frag) (mg : Str → Option Value) (fPa fLR fLP fRe fSR fSP fSW fRR fRP : Addr) (dPa dLR dLP dRe dSR dSP dSW dRR dRP : FuncData) : Prop where
  pa : DefAt K mg "_law_pail" sPail ["_law_script", "_law_at"] fPa dPa
  lr : DefAt K mg "_law_ring" sLRing ["_law_pail_here"] fLR dLR
  lp : DefAt K mg "_law_plan" sLPlan ["_law_pail_here"] fLP dLP
  re : DefAt K mg "_law_reason" sLReason ["_law_pail_here"] fRe dRe
  sr : DefAt K mg "show_ring" sShowR ["ring"] fSR dSR
  sp : DefAt K mg "show_plan" sShowP ["plan"] fSP dSP
  sw : DefAt K mg "show_reason" sShowW ["reason"] fSW dSW
  rr : DefAt K mg "read_ring" sReadRing ["text"] fRR dRR
  rp : DefAt K mg "read_plan" sReadPlan ["text"] fRP dRP
variable {fPa fLR fLP fRe fSR fSP fSW fRR fRP : Addr} {dPa dLR dLP dRe dSR dSP dSW dRR dRP : FuncData}
theorem ring_pail {H H' : Hp} {p a : Addr} {t : Nat} {rs : List (Int × List Int)} (h : RingAt K H a rs) (hp : PailAt H p t) (b : But p H H') : RingAt K H' a rs := by
  obtain ⟨ks, h1, h2, h3⟩ := h
  exact ⟨ks, h1, sqT_pail hp b h2, fun k hk => (h3 k hk).pail hp b⟩
theorem plan_pos {ps : List (List Int)} (h : ps ≠ []) : ((Str.join sp1 (ps.map pairS)).length : Int) ≠ 0 := by
  cases ps with
  | nil => exact (h rfl).elim
  | cons p r =>
    intro e
    have e1 : tl (Str.join sp1 ((p :: r).map pairS)) = [] := (len0_tl _).mp (by omega)
    rw [tl_join] at e1
    have ne : tl (pairS p) ≠ [] := fun c => by
      unfold pairS at c
      rw [tl_append, tl_append, tl_slash] at c
      have := congrArg List.length c
      simp at this
    cases r with
    | nil => exact ne e1
    | cons q r2 =>
      have e2 : tl (pairS p) ++ (tl sp1 ++ joinL (tl sp1) ((q :: r2).map pairS |>.map tl)) = [] := e1
      exact ne (List.append_eq_nil_iff.mp e2).1
theorem plan_room {ps : List (List Int)} (hz : PlanSm ps) : ((ps.map pairS).map (·.length)).sum + (ps.map pairS).length * sp1.length ≤ 16777216 := by
  refine join_room (k := 31100) (m := 100) (fun x hx => ?_) (by rw [List.length_map]; exact hz.pz.few) (by rw [len1b]; decide)
  obtain ⟨r, hr', rfl⟩ := List.mem_map.mp hx
  obtain ⟨x, y, rfl, x0, y0⟩ := hz.pr r hr'
  exact pairS_len x0 y0
theorem or_dash {σ : L2.St} {H : Hp} {D : Addr} {i : Nat} {Q : VK} {ps : List (List Int)} (hi : σ[i]? = some (some (.ref D))) (e : H D = some (.lst ((ps.map pairS).map V.str))) (hz : PlanSm ps) (k : Q (.str (planS ps)) H) :
    tOrT K (tM1 (fun x xs H Q => ∃ a p, ∃ ys : List Str, x = .str a ∧ xs = [.ref p] ∧ (SqL K H p (ys.map V.str) ∨ SqT K H p (ys.map V.str)) ∧ (ys.map (·.length)).sum + ys.length * a.length ≤ 16777216 ∧ Q (.str (Txt.join a ys)) H) (tC (.str sp1)) (tVar i)) (tC (.str dash)) σ H Q := by
  refine ⟨⟨_, rfl⟩, .ref D, hi, sp1, D, _, rfl, rfl, .inl (lstNew e), plan_room hz, ?_⟩
  rw [join_eq]
  have hl : (Str.join sp1 (ps.map pairS)).length ≤ sizeLine := by
    have := join_short (y := sp1) (l := ps.map pairS) (k := 31100) (m := 100) (fun x hx => by
      obtain ⟨r, hr', rfl⟩ := List.mem_map.mp hx
      obtain ⟨x, y, rfl, x0, y0⟩ := hz.pr r hr'
      exact pairS_len x0 y0) (by rw [List.length_map]; exact hz.pz.few)
    rw [len1b] at this
    rw [sizeLine_eq]; omega
  by_cases c : ps = []
  · subst c
    exact ⟨false, ⟨hl, rfl⟩, iteF k⟩
  · refine ⟨true, ⟨hl, ?_⟩, iteT ?_⟩
    · have := plan_pos c
      simp only [bne_iff_ne, ne_eq, eq_comm (a := true)]
      exact this
    · rw [← plan_ne c]; exact k
theorem ok_law {f fSM : Addr} {fd dSM : FuncData} (F : Fun K "law" "law" sLaw f fd) (B : Bare mg) (L : LD K mg fD fO fNu fMk fMT dD dO dNu dMk dMT) (Z : LL K mg fPa fLR fLP fRe fSR fSP fSW fRR fRP dPa dLR dLP dRe dSR dSP dSW dRR dRP) (DSM : DefAt K mg "show_marks" sShowM ["marks"] fSM dSM)
    (R : RD K mg fNI fNs fMI fRI fA dNI dNs dMI dRI dA) (GA : FnOk P w K mg base CX0 3 fA dA ["thing", "many"] (spMarks K)) (G : RG mg t1 t2 t3 t4) : FnG P w K mg base CX0 6 f fd ["_law_script"] (spLaw K) := by
  have GPa : FnOk P w K mg base CX0 1 fPa dPa ["_law_script", "_law_at"] (spPail K) := ok_pail Z.pa.fn B
  have GLR : FnOk P w K mg base CX0 4 fLR dLR ["_law_pail_here"] (spLR K) := ok_lr Z.lr.fn L B
  have GLP : FnOk P w K mg base CX0 4 fLP dLP ["_law_pail_here"] (spLP K) := ok_lp Z.lp.fn L B
  have GRe : FnOk P w K mg base CX0 3 fRe dRe ["_law_pail_here"] (spRe K) := ok_re Z.re.fn L B
  have GT : FnOk P w K mg base CX0 1 fMT dMT ["_law_marks_here"] (spSM K) := ok_mt L.mtx.fn B
  have GSR : FnOk P w K mg base CX0 2 fSR dSR ["ring"] (spSR K) := ok_sr Z.sr.fn DSM B G.mN
  have GSP : FnOk P w K mg base CX0 2 fSP dSP ["plan"] (spSP K) := ok_sp Z.sp.fn B G.mN
  have GSW : FnOk P w K mg base CX0 2 fSW dSW ["reason"] (spSW K) := ok_sw Z.sw.fn DSM B G.mN
  have GRR : FnOk P w K mg base CX0 5 fRR dRR ["text"] (spRR K) := ok_rr Z.rr.fn R GA B G
  have GRP : FnOk P w K mg base CX0 3 fRP dRP ["text"] (spRP K) := ok_rp Z.rp.fn R B G
  refine okG F scLaw (fun vs H Q E h => ?_) (fun cdv A outer s H vs Q E gd hr h => ?_)
  · obtain ⟨a, ns, rfl, _⟩ := h
    rfl
  · obtain ⟨a, cs, rfl, hS, hlen, q⟩ := h
    have hu := un65 hr
    have r1 := hr.mono (show 1 ≤ 5 by decide)
    have r2 := hr.mono (show 2 ≤ 5 by decide)
    have r3 := hr.mono (show 3 ≤ 5 by decide)
    have r4 := hr.mono (show 4 ≤ 5 by decide)
    refine ⟨_, pss_cons (ps_if (PW.pt (pw_or (pt_cmpR (op_neD hr.units) (pe_call GRP r3 (by rfl) Z.rp.mg Z.rp.fn.kp Z.rp.bi .nil pass0 (pa_cons pe_str pa_nil)) (pe_tup pa_nil) (nomark _)) (pw_or (pt_cmpR op_ne (pe_call GSP r2 (by rfl) Z.sp.mg Z.sp.fn.kp Z.sp.bi .nil pass0 (pa_cons (pe_tup pa_nil) pa_nil)) pe_str (nomark _))
        (pw_or1 (pt_cmpR (op_neD hr.units) (pe_call GRR hr (by rfl) Z.rr.mg Z.rr.fn.kp Z.rr.bi .nil pass0 (pa_cons pe_str pa_nil)) (pe_tup (pa_cons (pe_tup (pa_cons pe_int (pa_cons (pe_tup (pa_cons pe_int pa_nil)) pa_nil))) pa_nil)) (nomark _)))))) (pss_one (ps_ret pe_bl)) pss_nil)
      (pss_cons (ps_for PassesOwn.never rfl (pi_range1 (by rfl) B.range (pa_cons (pe_callB (call_max2 rfl) (by rfl) B.max (by decide +kernel) (pa_cons pe_int (pa_cons (pe_callB (call_min2 rfl) (by rfl) B.min (by decide +kernel) (pa_cons pe_int (pa_cons (pe_callB call_len_seq (by rfl) B.len PySem.boot_len (pa_cons (pv 0) pa_nil)) pa_nil))) pa_nil))) pa_nil)) (pg_name (i := 1) scLaw.nd rfl (Or.inl rfl))
        (pss_cons (ps_set (i := 2) scLaw.nd rfl (Or.inl rfl) (pe_call GPa r1 (by rfl) Z.pa.mg Z.pa.fn.kp Z.pa.bi .nil pass0 (pa_cons (pv 0) (pa_cons (pv 1) pa_nil))))
        (pss_one (ps_for PassesOwn.never rfl (pi_range1 (by rfl) B.range (pa_cons pe_int pa_nil)) (pg_name (i := 3) scLaw.nd rfl (Or.inl rfl))
          (pss_cons (ps_par (i := 4) (j := 5) (by rfl) scLaw.nd rfl rfl (by decide) rfl rfl (pa_cons (pe_call GLR r4 (by rfl) Z.lr.mg Z.lr.fn.kp Z.lr.bi .nil pass0 (pa_cons (pv 2) pa_nil)) (pa_cons (pe_call GLP r4 (by rfl) Z.lp.mg Z.lp.fn.kp Z.lp.bi .nil pass0 (pa_cons (pv 2) pa_nil)) pa_nil)) (by rfl))
          (pss_cons (ps_set (i := 6) scLaw.nd rfl (Or.inl rfl) (pe_call GRe r3 (by rfl) Z.re.mg Z.re.fn.kp Z.re.bi .nil pass0 (pa_cons (pv 2) pa_nil)))
          (pss_cons (ps_set (i := 7) scLaw.nd rfl (Or.inl rfl) (pe_callB (call_reprD gd hu) (by rfl) B.repr (by decide +kernel) (pa_cons (pe_tup (pa_cons (pv 4) (pa_cons (pv 5) (pa_cons (pv 6) pa_nil)))) pa_nil)))
          (pss_cons (ps_set (i := 8) scLaw.nd rfl (Or.inl rfl) (pe_join pe_str (pe_lc (own := [("_law_times", 9), ("_law_marks_here", 10)]) (g := gTup K 2 (gCons (gName 9) (gCons (gName 10) gNil))) (tt := tYes) rfl scLaw.nd (pi_tup (pv 4)) (blkOk_by (N := nLaw) (sc := defScope sLaw) (by decide +kernel))
            (fun _ _ _ _ _ => pg_tupK rfl rfl (pgs_cons (pg_name (i := 9) scLaw.nd rfl (Or.inl rfl)) (pgs_cons (pg_name (i := 10) scLaw.nd rfl (Or.inl rfl)) pgs_nil))) (fun _ _ _ _ _ => pts_nil)
            (fun _ _ _ _ _ => pe_op op_add_str (pe_op op_add_str (pe_callTy call_str_int (by rfl) B.str (by decide +kernel) (pa_cons (pv 9) pa_nil)) pe_str) (pe_call GT r1 (by rfl) L.mtx.mg L.mtx.fn.kp L.mtx.bi .nil pass0 (pa_cons (pv 10) pa_nil))))))
          (pss_cons (ps_setLc (i := 11) (own := [("_law_its", 12), ("_law_shift", 13)]) (g := gTup K 2 (gCons (gName 12) (gCons (gName 13) gNil))) (tt := tYes) rfl scLaw.nd rfl rfl (by rfl) (pi_tup (pv 5)) (blkOk_by (N := nLaw) (sc := defScope sLaw) (by decide +kernel))
            (fun _ _ _ _ _ => pg_tupK rfl rfl (pgs_cons (pg_name (i := 12) scLaw.nd rfl (Or.inl rfl)) (pgs_cons (pg_name (i := 13) scLaw.nd rfl (Or.inl rfl)) pgs_nil))) (fun _ _ _ _ _ => pts_nil)
            (fun _ _ _ _ _ => pe_op op_add_str (pe_op op_add_str (pe_callTy call_str_int (by rfl) B.str (by decide +kernel) (pa_cons (pv 12) pa_nil)) pe_str) (pe_callTy call_str_int (by rfl) B.str (by decide +kernel) (pa_cons (pv 13) pa_nil))))
          (pss_cons (ps_set (i := 14) scLaw.nd rfl (Or.inl rfl) (pe_orT (pe_join pe_str (pv 11)) (pe_one pe_str)))
          (pss_cons (ps_set (i := 15) scLaw.nd rfl (Or.inl rfl) (pe_lst (pa_cons (pe_call GSR r2 (by rfl) Z.sr.mg Z.sr.fn.kp Z.sr.bi .nil pass0 (pa_cons (pv 4) pa_nil)) (pa_cons (pe_call GSP r2 (by rfl) Z.sp.mg Z.sp.fn.kp Z.sp.bi .nil pass0 (pa_cons (pv 5) pa_nil)) (pa_cons (pe_call GSW r2 (by rfl) Z.sw.mg Z.sw.fn.kp Z.sw.bi .nil pass0 (pa_cons (pe_ix ix_tup (pv 6) pe_int (fun _ _ => rfl)) pa_nil)) pa_nil)))))
          (pss_cons (ps_if (PW.pt (pw_or (pt_cmpR op_ne (pe_callB (call_reprD gd hu) (by rfl) B.repr (by decide +kernel) (pa_cons (pv 15) pa_nil)) (pe_callB (call_reprD gd hu) (by rfl) B.repr (by decide +kernel) (pa_cons (pe_lst (pa_cons (pv 8) (pa_cons (pv 14) (pa_cons (pe_ix ix_tup (pv 6) pe_int (fun _ _ => rfl)) pa_nil)))) pa_nil)) (nomark _))
              (pw_or1 (pt_cmpR op_ne (pe_callB (call_reprD gd hu) (by rfl) B.repr (by decide +kernel) (pa_cons (pe_tup (pa_cons (pv 4) (pa_cons (pv 5) (pa_cons (pv 6) pa_nil)))) pa_nil)) (pv 7) (nomark _))))) (pss_one (ps_ret pe_bl)) pss_nil)
          (pss_one (ps_if (pt_cmpR op_ne (pe_callB (call_reprD gd hu) (by rfl) B.repr (by decide +kernel) (pa_cons (pe_tup (pa_cons (pe_call GRR hr (by rfl) Z.rr.mg Z.rr.fn.kp Z.rr.bi .nil pass0 (pa_cons (pv 8) pa_nil)) (pa_cons (pe_call GRP r3 (by rfl) Z.rp.mg Z.rp.fn.kp Z.rp.bi .nil pass0 (pa_cons (pv 14) pa_nil)) pa_nil))) pa_nil)) (pe_callB (call_reprD gd hu) (by rfl) B.repr (by decide +kernel) (pa_cons (pe_tup (pa_cons (pv 4) (pa_cons (pv 5) pa_nil))) pa_nil)) (nomark _)) (pss_one (ps_ret pe_bl)) pss_nil))))))))))))))
      (pss_one (ps_ret pe_bl))), ?_⟩
    have z : sizeLine ≥ 4000000 := by rw [sizeLine_eq]; decide
    have zero : (0 : Nat) ≤ sizeLine := by omega
    have one : (1 : Nat) ≤ sizeLine := by omega
    have two : (2 : Nat) ≤ sizeLine := by omega
    have three : (3 : Nat) ≤ sizeLine := by omega
    have pz0 : Pz [] := ⟨fun _ w => (by cases w), by decide⟩
    have tn : ∀ (H : Hp) (c : Addr), SqT K H c ([] : List V) → Dp K H (.ref c) (dTT []) := fun H c h => .tup h .nil
    refine ⟨[], rfl, pz0, fun b1 H1 s1 hb1 => ⟨zero, fun c1 nc1 => ?_⟩⟩
    have sc1 := same_upd (o := .tup []) nc1
    have ec1 : SqT K (upd H1 c1 (.tup [])) c1 ([] : List V) := tupNew upd_same
    generalize upd H1 c1 (.tup []) = H2 at sc1 ec1 ⊢
    refine ⟨dTT [], dTT [], (hb1.same sc1).dp, tn _ _ ec1, shapedTT _, shapedTT _, false, ?_, iteF ?_⟩
    · rw [eqvTT]; rfl
    refine ⟨zero, fun c2 nc2 => ?_⟩
    have sc2 := same_upd (o := .tup []) nc2
    have ec2 : SqT K (upd H2 c2 (.tup [])) c2 ([] : List V) := tupNew upd_same
    generalize upd H2 c2 (.tup []) = H3 at sc2 ec2 ⊢
    refine ⟨c2, [], rfl, ⟨[], rfl, ec2, fun _ w => nomatch w⟩, pz0, fun H4 s4 => ⟨rfl, false, ?_, iteF ?_⟩⟩
    · have e : V.str (planS []) = V.str (Str.ofString "-") := rfl
      rw [decide_eq_true e]; rfl
    refine ⟨[(1, [0])], by rw [text1]; rfl, sm1.rzr, fun b2 H5 s5 hb2 => ?_⟩
    refine ⟨one, fun u0 nu0 => ?_⟩
    have su0 := same_upd (o := .tup [.int 0]) nu0
    have eu0 : (upd H5 u0 (.tup [.int 0])) u0 = some (.tup [.int 0]) := upd_same
    generalize upd H5 u0 (.tup [.int 0]) = H6 at su0 eu0 ⊢
    refine ⟨two, fun T0 nT0 => ?_⟩
    have sT0 := same_upd (o := .tup [.int 1, .ref u0]) nT0
    have eT0 : (upd H6 T0 (.tup [.int 1, .ref u0])) T0 = some (.tup [.int 1, .ref u0]) := upd_same
    generalize upd H6 T0 (.tup [.int 1, .ref u0]) = H7 at sT0 eT0 ⊢
    refine ⟨one, fun o0 no0 => ?_⟩
    have so0 := same_upd (o := .tup [.ref T0]) no0
    have eo0 : (upd H7 o0 (.tup [.ref T0])) o0 = some (.tup [.ref T0]) := upd_same
    generalize upd H7 o0 (.tup [.ref T0]) = H8 at so0 eo0 ⊢
    have lit : RingAt K H8 o0 [(1, [0])] := ⟨[(T0, u0, 1, [0])], rfl, tupNew eo0, fun k hk => by rcases List.mem_singleton.mp hk with rfl; exact ⟨tupNew (so0 _ _ eT0), tupNew (so0 _ _ (sT0 _ _ eu0))⟩⟩
    refine ⟨dRg [(1, [0])], dRg [(1, [0])], (hb2.same ((su0.trans sT0).trans so0)).dp, lit.dp, shaped1, shaped1, false, ?_, iteF ?_⟩
    · rw [eqv1]; rfl
    unfold tNext
    dsimp only
    have x0 : Same H H8 := (((((((s1.trans sc1).trans sc2).trans s4).trans s5).trans su0).trans sT0).trans so0)
    clear s1 sc1 sc2 s4 s5 su0 sT0 so0 lit eo0 eT0 eu0 ec2 ec1 hb1 hb2
    refine ⟨.ref a, rfl, a, _, rfl, .inl (x0.seq hS), 4, _, rfl, 1, _, rfl, ?_⟩
    have vb : ∀ n : Int, 0 ≤ n → n ≤ 63 → 1 ≤ (if (if n < 4 then n else 4) > 1 then (if n < 4 then n else 4) else 1) ∧ (if (if n < 4 then n else 4) > 1 then (if n < 4 then n else 4) else 1) ≤ 4 := fun n _ _ => by
      split <;> split <;> omega
    have vb1 := vb ((cs.map V.int).length : Int) (by omega) (by rw [List.length_map]; omega)
    refine ⟨_, rfl, by omega, by omega, ?_⟩
    refine for_range (lo := 0) (n := _) (fun i σ H' => (∃ ys : List (Option V), ys.length = 15 ∧ σ = some (.ref a) :: ys) ∧ Same H H')
      ⟨⟨List.replicate 15 none, rfl, rfl⟩, x0⟩ ?_ ?_
    · rintro i σ H1 hi ⟨⟨ys, ly, rfl⟩, u1⟩
      obtain ⟨y1, y2, y3, y4, y5, y6, y7, y8, y9, y10, y11, y12, y13, y14, y15, rfl⟩ : ∃ y1 y2 y3 y4 y5 y6 y7 y8 y9 y10 y11 y12 y13 y14 y15, ys = [y1, y2, y3, y4, y5, y6, y7, y8, y9, y10, y11, y12, y13, y14, y15] := by
        match ys, ly with
        | [y1, y2, y3, y4, y5, y6, y7, y8, y9, y10, y11, y12, y13, y14, y15], _ => exact ⟨_, _, _, _, _, _, _, _, _, _, _, _, _, _, _, rfl⟩
      refine nx_step ?_
      dsimp only
      refine ⟨.ref a, rfl, .int (0 + (i : Nat)), rfl, a, cs, i, by rw [Int.zero_add]; rfl, u1.seq hS, by omega, fun H2 p v2 np hp2 => ?_⟩
      refine nx_step ?_
      dsimp only
      refine ⟨3, rfl, by decide, by decide, ?_⟩
      refine for_range (lo := 0) (n := 3) (fun j σ H' => (∃ (ys : List (Option V)) (t : Nat), ys.length = 13 ∧ σ = some (.ref a) :: some (.int (0 + (i : Nat))) :: some (.ref p) :: ys ∧ PailAt H' p t ∧ t ≤ 300 * j) ∧ Same H H')
        ⟨⟨_, 0, rfl, rfl, hp2, by omega⟩, u1.trans v2⟩ (fun j σ H3 hj h => ?_) (fun σ H3 h => ?_)
      · obtain ⟨⟨ys, t, ly2, rfl, hp3, ht⟩, u3⟩ := h
        obtain ⟨y3, y4, y5, y6, y7, y8, y9, y10, y11, y12, y13, y14, y15, rfl⟩ : ∃ y3 y4 y5 y6 y7 y8 y9 y10 y11 y12 y13 y14 y15, ys = [y3, y4, y5, y6, y7, y8, y9, y10, y11, y12, y13, y14, y15] := by
          match ys, ly2 with
          | [y3, y4, y5, y6, y7, y8, y9, y10, y11, y12, y13, y14, y15], _ => exact ⟨_, _, _, _, _, _, _, _, _, _, _, _, _, rfl⟩
        have npH : H p = none := u1.free np
        refine nx_step ?_
        dsimp only
        refine ⟨.ref p, rfl, p, t, rfl, hp3, by omega, fun u rs t4 H4 hp4 ht4 b4 hR4 hrs => ⟨.ref p, rfl, p, t4, rfl, hp4, by omega, fun v ps t5 H5 hp5 ht5 b5 hP5 hps => ⟨.ref u, .ref v, rfl, ?_⟩⟩⟩
        dsimp only
        refine ⟨.ref p, rfl, p, t5, rfl, hp5, by omega, fun c r d t6 H6 hp6 ht6 b6 hc hr' hd => ?_⟩
        refine nx_step ?_
        dsimp only
        have hR := ring_pail (ring_pail hR4 hp4 b5) hp5 b6
        have hP := tups_pail hp5 b6 hP5
        have u6 := same_but (same_but (same_but u3 npH b4) npH b5) npH b6
        have sa := all_shows hrs hps hd
        have st := two_shows hrs hps
        have sd := sh_shows hrs hps hd
        have dA6 : ∀ (H' : Hp) (U : Addr), Same H6 H' → SqT K H' U [.ref u, .ref v, .ref c] → Dp K H' (.ref U) (dAll rs ps d) := fun H' U s h => .tup h (.cons (hR.same s).dp (.cons (hP.same s).dp (.cons (.tup (sqT_same s hc) (.cons (hr'.same s).dp (.cons (.str _) .nil))) .nil)))
        -- kept
        refine ⟨.ref u, rfl, .ref v, rfl, .ref c, rfl, three, fun U nU => ?_⟩
        have sU := same_upd (o := .tup [.ref u, .ref v, .ref c]) nU
        obtain ⟨S, eS⟩ : ∃ S, S = (dAll rs ps d).shown := ⟨_, rfl⟩
        refine ⟨U, dAll rs ps d, rfl, dA6 _ _ sU (tupNew upd_same), sa.h1, sa.h2, sa.h3, sa.h4, ?_⟩
        rw [← eS]
        generalize upd H6 U (.tup [.ref u, .ref v, .ref c]) = H7 at sU ⊢
        refine nx_step ?_
        dsimp only
        -- the ring's text
        obtain ⟨ks, ek, k2, k3⟩ := hR.same sU
        have lk : ks.length = rs.length := by rw [← ek, List.length_map]
        have l6 := hrs.few
        refine ⟨⟨_, rfl⟩, .ref u, rfl, u, rfl, ⟨_, k2⟩, fun D nD => ?_⟩
        refine lc_strsT (te := teRT K) (zs := rs.map runS) (RingAt.pairs k2 k3) (by rw [List.length_map]; omega) (by rw [List.length_map, List.length_map]; omega) nD (by decide) (fun i k y hk hy H' Q' s' kq => ?_) fun H8 s8 e8 => ?_
        · rw [List.getElem?_map] at hk hy
          cases g : ks[i]? with
          | none => rw [g] at hk; cases hk
          | some k0 =>
            rw [g] at hk
            cases hk
            rw [← ek, List.getElem?_map, g] at hy
            cases hy
            have hin : valR k0 ∈ rs := by rw [← ek]; exact List.mem_map_of_mem (List.mem_of_getElem? g)
            have n0 : 0 ≤ k0.2.2.1 ∧ k0.2.2.1 < 10 ^ 30 := hrs.rz.num _ hin
            have m0 : Mk8 k0.2.2.2 := hrs.rz.mks _ hin
            have ln := num_len (nat_small n0.1 n0.2)
            have lm := mt_len m0.nat m0.few
            refine ⟨.int k0.2.2.1, rfl, k0.2.2.1, rfl, log_small n0.1 n0.2, num k0.2.2.1.toNat, star, by rw [num_str n0.1], rfl, by rw [len1s]; omega, .ref k0.2.1, rfl, k0.2.1, k0.2.2.2, rfl, sqT_same s' (k3 k0 (List.mem_of_getElem? g)).2, m0, fun H9 s9 => ⟨_, mt k0.2.2.2, rfl, rfl, by rw [len_app, len1s]; omega, ?_⟩⟩
            exact kq H9 s9
        refine ⟨sp1, D, _, rfl, rfl, .inl (lstNew e8), ?_, ?_⟩
        · refine join_room (k := 31100) (m := 100) (fun x hx => ?_) (by rw [List.length_map]; omega) (by rw [len1b]; decide)
          obtain ⟨r', hr2, rfl⟩ := List.mem_map.mp hx
          exact runS_len (hrs.rz.num r' hr2) (hrs.rz.mks r' hr2)
        rw [join_eq]
        refine nx_step ?_
        dsimp only
        have s68 := sU.trans s8
        -- the plan's words
        obtain ⟨js, ej, j2, j3⟩ := hP.same s68
        have lj : js.length = ps.length := by rw [← ej, List.length_map]
        have l7 := hps.few
        refine ⟨.ref v, rfl, v, rfl, ⟨_, j2⟩, fun D2 nD2 => ?_⟩
        have hPT : PairsT K H8 v (js.map fun k => (k.1, V.int (k.2.getD 0 0), V.int (k.2.getD 1 0))) := by
          refine ⟨by rw [List.map_map]; exact j2, fun q hq => ?_⟩
          obtain ⟨k, hk, rfl⟩ := List.mem_map.mp hq
          obtain ⟨x, y, e2, _⟩ := hps.pr k.2 (by rw [← ej]; exact List.mem_map_of_mem hk)
          have := j3 k hk
          rw [e2] at this
          show SqT K H8 k.1 [V.int (k.2.getD 0 0), V.int (k.2.getD 1 0)]
          rw [e2]; exact this
        refine lc_strsT (te := teWd) (zs := ps.map pairS) hPT (by rw [List.length_map]; omega) (by rw [List.length_map, List.length_map]; omega) nD2 (by decide) (fun i k y hk hy H' Q' s' kq => ?_) fun H9 s9 e9 => ?_
        · rw [List.getElem?_map] at hk hy
          cases g : js[i]? with
          | none => rw [g] at hk; cases hk
          | some k0 =>
            rw [g] at hk
            cases hk
            rw [← ej, List.getElem?_map, g] at hy
            cases hy
            obtain ⟨x, y, e2, x0, y0⟩ := hps.pr k0.2 (by rw [← ej]; exact List.mem_map_of_mem (List.mem_of_getElem? g))
            have lx := num_len (nat_small x0.1 x0.2)
            have ly := num_len (nat_small y0.1 y0.2)
            have kq' : ∀ H2, Same H' H2 → Q' (.str (pairS k0.2)) H2 := kq
            rw [e2] at kq'
            refine ⟨.int x, by show some (some (V.int (k0.2.getD 0 0))) = some (some (V.int x)); rw [e2]; rfl, x, rfl, log_small x0.1 x0.2, num x.toNat, slash, by rw [num_str x0.1], rfl, by rw [len1l]; omega, .int y, by show some (some (V.int (k0.2.getD 1 0))) = some (some (V.int y)); rw [e2]; rfl, y, rfl, log_small y0.1 y0.2, _, num y.toNat, rfl, by rw [num_str y0.1], by rw [len_app, len1l]; omega, ?_⟩
            exact kq' H' (Same.refl H')
        refine nx_step ?_
        dsimp only
        refine or_dash (ps := ps) rfl e9 hps ?_
        refine nx_step ?_
        dsimp only
        have s69 := s68.trans s9
        -- shown
        refine ⟨.ref u, rfl, u, rs, rfl, hR.same s69, hrs.rz, fun HA sA => ⟨.ref v, rfl, v, ps, rfl, hP.same (s69.trans sA), hps.pz, fun HB sB => ?_⟩⟩
        have s6B := (s69.trans sA).trans sB
        refine ⟨.ref c, rfl, c, _, 0, .ref r, rfl, rfl, sqT_same s6B hc, atI_0, r, d, rfl, hr'.same s6B, hd.ok, fun HC sC => ⟨three, fun l nl => ?_⟩⟩
        have s6C := s6B.trans sC
        have sl := same_upd (o := .lst [V.str (ringS rs), V.str (planS ps), V.str (reasonS d)]) nl
        have dl : Dp K (upd HC l (.lst [V.str (ringS rs), V.str (planS ps), V.str (reasonS d)])) (.ref l) (dSh rs ps d) := .lst (lstNew upd_same) (.cons (.str _) (.cons (.str _) (.cons (.str _) .nil)))
        generalize upd HC l (.lst [V.str (ringS rs), V.str (planS ps), V.str (reasonS d)]) = HD at sl dl ⊢
        refine nx_step ?_
        dsimp only
        have s6D := s6C.trans sl
        have at1 : atI [V.ref r, V.str (reasonS d)] 1 = some (.str (reasonS d)) := atI_nat (xs := [V.ref r, V.str (reasonS d)]) (j := 1) rfl
        refine ⟨.ref l, rfl, l, dSh rs ps d, rfl, dl, sd.h1, sd.h2, sd.h3, sd.h4, .str (ringS rs), rfl, .str (planS ps), rfl, .ref c, rfl, c, _, 1, .str (reasonS d), rfl, rfl, sqT_same s6D hc, at1, three, fun l2 nl2 => ?_⟩
        have sl2 := same_upd (o := .lst [V.str (ringS rs), V.str (planS ps), V.str (reasonS d)]) nl2
        have dl2 : Dp K (upd HD l2 (.lst [V.str (ringS rs), V.str (planS ps), V.str (reasonS d)])) (.ref l2) (dSh rs ps d) := .lst (lstNew upd_same) (.cons (.str _) (.cons (.str _) (.cons (.str _) .nil)))
        generalize upd HD l2 (.lst [V.str (ringS rs), V.str (planS ps), V.str (reasonS d)]) = HE at sl2 dl2 ⊢
        have s6E := s6D.trans sl2
        refine ⟨l2, dSh rs ps d, rfl, dl2, sd.h1, sd.h2, sd.h3, sd.h4, rfl, _, rfl, iteNS rfl ?_⟩
        refine ⟨.ref u, rfl, .ref v, rfl, .ref c, rfl, three, fun U2 nU2 => ?_⟩
        have sU2 := same_upd (o := .tup [.ref u, .ref v, .ref c]) nU2
        have dU2 := dA6 _ U2 (s6E.trans sU2) (tupNew upd_same)
        generalize upd HE U2 (.tup [.ref u, .ref v, .ref c]) = HF at sU2 dU2 ⊢
        have s6F := s6E.trans sU2
        refine ⟨U2, dAll rs ps d, rfl, dU2, sa.h1, sa.h2, sa.h3, sa.h4, ?_⟩
        rw [← eS]
        refine ⟨.str S, rfl, rfl, _, rfl, iteNS rfl ?_⟩
        dsimp only
        -- read
        refine ⟨.str (ringS rs), rfl, rs, rfl, hrs.rzr, fun b7 HG sG hb7 => ⟨.str (planS ps), rfl, ps, rfl, hps.pz, fun b8 HI sI hb8 => ⟨two, fun U3 nU3 => ?_⟩⟩⟩
        have sU3 := same_upd (o := .tup [.ref b7, .ref b8]) nU3
        have d3 : Dp K (upd HI U3 (.tup [.ref b7, .ref b8])) (.ref U3) (dTwo rs ps) := .tup (tupNew upd_same) (.cons (hb7.same (sI.trans sU3)).dp (.cons (hb8.same sU3).dp .nil))
        generalize upd HI U3 (.tup [.ref b7, .ref b8]) = HJ at sU3 d3 ⊢
        have s6J := s6F.trans ((sG.trans sI).trans sU3)
        refine ⟨U3, dTwo rs ps, rfl, d3, st.h1, st.h2, st.h3, st.h4, .ref u, rfl, .ref v, rfl, two, fun U4 nU4 => ?_⟩
        have sU4 := same_upd (o := .tup [.ref u, .ref v]) nU4
        have s6K := s6J.trans sU4
        have d4 : Dp K (upd HJ U4 (.tup [.ref u, .ref v])) (.ref U4) (dTwo rs ps) := .tup (tupNew upd_same) (.cons (hR.same s6K).dp (.cons (hP.same s6K).dp .nil))
        refine ⟨U4, dTwo rs ps, rfl, d4, st.h1, st.h2, st.h3, st.h4, rfl, _, rfl, iteNS rfl ?_⟩
        exact ⟨⟨_, t6, rfl, rfl, pail_same hp6 s6K, by omega⟩, u6.trans s6K⟩
      · obtain ⟨⟨ys, t, ly2, rfl, _, _⟩, u3⟩ := h
        exact ⟨⟨_, by show ys.length + 2 = 15; omega, rfl⟩, u3⟩
    · rintro σ H1 ⟨⟨ys, ly, rfl⟩, u1⟩
      exact q H1
end
end K52
set_option maxHeartbeats 4000000
namespace K52
open PySem PySem.Spec PyProof.Rows L2 RV
theorem def_mk {K : PySem.W.Frag} {h : Heap} {mg : Str → Option Value} {x : Str} {st : Stmt} {ps : List Str} {f : Addr} {oc : Value} {od an : Option Addr} {sl : Array (Option Value)} {kV dc pm cd ct : Value} (X : K.In h) (G : h.Ns mainGlobals mg)
    (a : PySem.W.nsIn K mainGlobals x = some (some (.ref f))) (l : K.lookup f = some ⟨oc, od, .func (PySem.W.fnOf x x (defArgs st) (defBody st) (defScope st) .none kV dc pm an cd ct), sl⟩) (c : PySem.W.codeIn K cd x = true) (k : PySem.W.keepIn K (.ref f) = true)
    (hb : ∀ (kV doc pm : Value) (an : Option Addr) (cdv ct : Value) (us : List Value), us.length = ps.length → bindArgs (PySem.W.fnOf x x (defArgs st) (defBody st) (defScope st) .none kV doc pm an cdv ct) ⟨us, []⟩ = pure (ps.zip us)) :
    DefAt K mg x st ps f (PySem.W.fnOf x x (defArgs st) (defBody st) (defScope st) .none kV dc pm an cd ct) :=
  let F := fun_mk (st := st) l c k
  ⟨F, F.binds hb, PySem.W.mg_of X G a⟩
theorem all_mk {l : PySem.W.OpenLaw} {w : World} {K : PySem.W.Frag} {h : Heap} {mg : Str → Option Value} {fa  f1 f2 f3 f4 f5 f6 f7 f8 f9 f10 f11 f12 f13 f14 f15 f16 f17 f18 f19 f20 f21 f22 f23 : Addr} {tk1 tk2 tk3 tk4 : Tok} (X : K.In h) (G : h.Ns mainGlobals mg) (hfa : mg "law" = some (.ref fa))
    {od1 an1 od2 an2 od3 an3 od4 an4 od5 an5 od6 an6 od7 an7 od8 an8 od9 an9 od10 an10 od11 an11 od12 an12 od13 an13 od14 an14 od15 an15 od16 an16 od17 an17 od18 an18 od19 an19 od20 an20 od21 an21 od22 an22 od23 an23 : Option Addr} {sl1 sl2 sl3 sl4 sl5 sl6 sl7 sl8 sl9 sl10 sl11 sl12 sl13 sl14 sl15 sl16 sl17 sl18 sl19 sl20 sl21 sl22 sl23 : Array (Option Value)}
    {oc1 kV1 dc1 pm1 cd1 ct1 oc2 kV2 dc2 pm2 cd2 ct2 oc3 kV3 dc3 pm3 cd3 ct3 oc4 kV4 dc4 pm4 cd4 ct4 oc5 kV5 dc5 pm5 cd5 ct5 oc6 kV6 dc6 pm6 cd6 ct6 oc7 kV7 dc7 pm7 cd7 ct7 oc8 kV8 dc8 pm8 cd8 ct8 oc9 kV9 dc9 pm9 cd9 ct9 oc10 kV10 dc10 pm10 cd10 ct10 oc11 kV11 dc11 pm11 cd11 ct11 oc12 kV12 dc12 pm12 cd12 ct12 oc13 kV13 dc13 pm13 cd13 ct13 oc14 kV14 dc14 pm14 cd14 ct14 oc15 kV15 dc15 pm15 cd15 ct15 oc16 kV16 dc16 pm16 cd16 ct16 oc17 kV17 dc17 pm17 cd17 ct17 oc18 kV18 dc18 pm18 cd18 ct18 oc19 kV19 dc19 pm19 cd19 ct19 oc20 kV20 dc20 pm20 cd20 ct20 oc21 kV21 dc21 pm21 cd21 ct21 oc22 kV22 dc22 pm22 cd22 ct22 oc23 kV23 dc23 pm23 cd23 ct23 : Value}
    (a1 : PySem.W.nsIn K mainGlobals "is_whole" = some (some (.ref f1)))
    (l1 : K.lookup f1 = some ⟨oc1, od1, .func (PySem.W.fnOf "is_whole" "is_whole" (defArgs sWhole) (defBody sWhole) (defScope sWhole) .none kV1 dc1 pm1 an1 cd1 ct1), sl1⟩)
    (c1 : PySem.W.codeIn K cd1 "is_whole" = true)
    (k1 : PySem.W.keepIn K (.ref f1) = true)
    (a2 : PySem.W.nsIn K mainGlobals "is_below" = some (some (.ref f2)))
    (l2 : K.lookup f2 = some ⟨oc2, od2, .func (PySem.W.fnOf "is_below" "is_below" (defArgs sMark) (defBody sMark) (defScope sMark) .none kV2 dc2 pm2 an2 cd2 ct2), sl2⟩)
    (c2 : PySem.W.codeIn K cd2 "is_below" = true)
    (k2 : PySem.W.keepIn K (.ref f2) = true)
    (a3 : PySem.W.nsIn K mainGlobals "are_marks" = some (some (.ref f3)))
    (l3 : K.lookup f3 = some ⟨oc3, od3, .func (PySem.W.fnOf "are_marks" "are_marks" (defArgs sMarks) (defBody sMarks) (defScope sMarks) .none kV3 dc3 pm3 an3 cd3 ct3), sl3⟩)
    (c3 : PySem.W.codeIn K cd3 "are_marks" = true)
    (k3 : PySem.W.keepIn K (.ref f3) = true)
    (a4 : PySem.W.nsIn K mainGlobals "show_marks" = some (some (.ref f4)))
    (l4 : K.lookup f4 = some ⟨oc4, od4, .func (PySem.W.fnOf "show_marks" "show_marks" (defArgs sShowM) (defBody sShowM) (defScope sShowM) .none kV4 dc4 pm4 an4 cd4 ct4), sl4⟩)
    (c4 : PySem.W.codeIn K cd4 "show_marks" = true)
    (k4 : PySem.W.keepIn K (.ref f4) = true)
    (a5 : PySem.W.nsIn K mainGlobals "show_ring" = some (some (.ref f5)))
    (l5 : K.lookup f5 = some ⟨oc5, od5, .func (PySem.W.fnOf "show_ring" "show_ring" (defArgs sShowR) (defBody sShowR) (defScope sShowR) .none kV5 dc5 pm5 an5 cd5 ct5), sl5⟩)
    (c5 : PySem.W.codeIn K cd5 "show_ring" = true)
    (k5 : PySem.W.keepIn K (.ref f5) = true)
    (a6 : PySem.W.nsIn K mainGlobals "show_plan" = some (some (.ref f6)))
    (l6 : K.lookup f6 = some ⟨oc6, od6, .func (PySem.W.fnOf "show_plan" "show_plan" (defArgs sShowP) (defBody sShowP) (defScope sShowP) .none kV6 dc6 pm6 an6 cd6 ct6), sl6⟩)
    (c6 : PySem.W.codeIn K cd6 "show_plan" = true)
    (k6 : PySem.W.keepIn K (.ref f6) = true)
    (a7 : PySem.W.nsIn K mainGlobals "show_reason" = some (some (.ref f7)))
    (l7 : K.lookup f7 = some ⟨oc7, od7, .func (PySem.W.fnOf "show_reason" "show_reason" (defArgs sShowW) (defBody sShowW) (defScope sShowW) .none kV7 dc7 pm7 an7 cd7 ct7), sl7⟩)
    (c7 : PySem.W.codeIn K cd7 "show_reason" = true)
    (k7 : PySem.W.keepIn K (.ref f7) = true)
    (a8 : PySem.W.nsIn K mainGlobals "number_in" = some (some (.ref f8)))
    (l8 : K.lookup f8 = some ⟨oc8, od8, .func (PySem.W.fnOf "number_in" "number_in" (defArgs sNumIn) (defBody sNumIn) (defScope sNumIn) .none kV8 dc8 pm8 an8 cd8 ct8), sl8⟩)
    (c8 : PySem.W.codeIn K cd8 "number_in" = true)
    (k8 : PySem.W.keepIn K (.ref f8) = true)
    (a9 : PySem.W.nsIn K mainGlobals "numbers_in" = some (some (.ref f9)))
    (l9 : K.lookup f9 = some ⟨oc9, od9, .func (PySem.W.fnOf "numbers_in" "numbers_in" (defArgs sNumsIn) (defBody sNumsIn) (defScope sNumsIn) .none kV9 dc9 pm9 an9 cd9 ct9), sl9⟩)
    (c9 : PySem.W.codeIn K cd9 "numbers_in" = true)
    (k9 : PySem.W.keepIn K (.ref f9) = true)
    (a10 : PySem.W.nsIn K mainGlobals "marks_in" = some (some (.ref f10)))
    (l10 : K.lookup f10 = some ⟨oc10, od10, .func (PySem.W.fnOf "marks_in" "marks_in" (defArgs sMarksIn) (defBody sMarksIn) (defScope sMarksIn) .none kV10 dc10 pm10 an10 cd10 ct10), sl10⟩)
    (c10 : PySem.W.codeIn K cd10 "marks_in" = true)
    (k10 : PySem.W.keepIn K (.ref f10) = true)
    (a11 : PySem.W.nsIn K mainGlobals "read_ring" = some (some (.ref f11)))
    (l11 : K.lookup f11 = some ⟨oc11, od11, .func (PySem.W.fnOf "read_ring" "read_ring" (defArgs sReadRing) (defBody sReadRing) (defScope sReadRing) .none kV11 dc11 pm11 an11 cd11 ct11), sl11⟩)
    (c11 : PySem.W.codeIn K cd11 "read_ring" = true)
    (k11 : PySem.W.keepIn K (.ref f11) = true)
    (a12 : PySem.W.nsIn K mainGlobals "run_in" = some (some (.ref f12)))
    (l12 : K.lookup f12 = some ⟨oc12, od12, .func (PySem.W.fnOf "run_in" "run_in" (defArgs sRunIn) (defBody sRunIn) (defScope sRunIn) .none kV12 dc12 pm12 an12 cd12 ct12), sl12⟩)
    (c12 : PySem.W.codeIn K cd12 "run_in" = true)
    (k12 : PySem.W.keepIn K (.ref f12) = true)
    (a13 : PySem.W.nsIn K mainGlobals "read_plan" = some (some (.ref f13)))
    (l13 : K.lookup f13 = some ⟨oc13, od13, .func (PySem.W.fnOf "read_plan" "read_plan" (defArgs sReadPlan) (defBody sReadPlan) (defScope sReadPlan) .none kV13 dc13 pm13 an13 cd13 ct13), sl13⟩)
    (c13 : PySem.W.codeIn K cd13 "read_plan" = true)
    (k13 : PySem.W.keepIn K (.ref f13) = true)
    (a14 : PySem.W.nsIn K mainGlobals "_law_pail" = some (some (.ref f14)))
    (l14 : K.lookup f14 = some ⟨oc14, od14, .func (PySem.W.fnOf "_law_pail" "_law_pail" (defArgs sPail) (defBody sPail) (defScope sPail) .none kV14 dc14 pm14 an14 cd14 ct14), sl14⟩)
    (c14 : PySem.W.codeIn K cd14 "_law_pail" = true)
    (k14 : PySem.W.keepIn K (.ref f14) = true)
    (a15 : PySem.W.nsIn K mainGlobals "_law_draw" = some (some (.ref f15)))
    (l15 : K.lookup f15 = some ⟨oc15, od15, .func (PySem.W.fnOf "_law_draw" "_law_draw" (defArgs sDraw) (defBody sDraw) (defScope sDraw) .none kV15 dc15 pm15 an15 cd15 ct15), sl15⟩)
    (c15 : PySem.W.codeIn K cd15 "_law_draw" = true)
    (k15 : PySem.W.keepIn K (.ref f15) = true)
    (a16 : PySem.W.nsIn K mainGlobals "_law_of" = some (some (.ref f16)))
    (l16 : K.lookup f16 = some ⟨oc16, od16, .func (PySem.W.fnOf "_law_of" "_law_of" (defArgs sOf) (defBody sOf) (defScope sOf) .none kV16 dc16 pm16 an16 cd16 ct16), sl16⟩)
    (c16 : PySem.W.codeIn K cd16 "_law_of" = true)
    (k16 : PySem.W.keepIn K (.ref f16) = true)
    (a17 : PySem.W.nsIn K mainGlobals "_law_number" = some (some (.ref f17)))
    (l17 : K.lookup f17 = some ⟨oc17, od17, .func (PySem.W.fnOf "_law_number" "_law_number" (defArgs sLNumber) (defBody sLNumber) (defScope sLNumber) .none kV17 dc17 pm17 an17 cd17 ct17), sl17⟩)
    (c17 : PySem.W.codeIn K cd17 "_law_number" = true)
    (k17 : PySem.W.keepIn K (.ref f17) = true)
    (a18 : PySem.W.nsIn K mainGlobals "_law_marks" = some (some (.ref f18)))
    (l18 : K.lookup f18 = some ⟨oc18, od18, .func (PySem.W.fnOf "_law_marks" "_law_marks" (defArgs sLMarks) (defBody sLMarks) (defScope sLMarks) .none kV18 dc18 pm18 an18 cd18 ct18), sl18⟩)
    (c18 : PySem.W.codeIn K cd18 "_law_marks" = true)
    (k18 : PySem.W.keepIn K (.ref f18) = true)
    (a19 : PySem.W.nsIn K mainGlobals "_law_marks_text" = some (some (.ref f19)))
    (l19 : K.lookup f19 = some ⟨oc19, od19, .func (PySem.W.fnOf "_law_marks_text" "_law_marks_text" (defArgs sLMText) (defBody sLMText) (defScope sLMText) .none kV19 dc19 pm19 an19 cd19 ct19), sl19⟩)
    (c19 : PySem.W.codeIn K cd19 "_law_marks_text" = true)
    (k19 : PySem.W.keepIn K (.ref f19) = true)
    (a20 : PySem.W.nsIn K mainGlobals "_law_ring" = some (some (.ref f20)))
    (l20 : K.lookup f20 = some ⟨oc20, od20, .func (PySem.W.fnOf "_law_ring" "_law_ring" (defArgs sLRing) (defBody sLRing) (defScope sLRing) .none kV20 dc20 pm20 an20 cd20 ct20), sl20⟩)
    (c20 : PySem.W.codeIn K cd20 "_law_ring" = true)
    (k20 : PySem.W.keepIn K (.ref f20) = true)
    (a21 : PySem.W.nsIn K mainGlobals "_law_plan" = some (some (.ref f21)))
    (l21 : K.lookup f21 = some ⟨oc21, od21, .func (PySem.W.fnOf "_law_plan" "_law_plan" (defArgs sLPlan) (defBody sLPlan) (defScope sLPlan) .none kV21 dc21 pm21 an21 cd21 ct21), sl21⟩)
    (c21 : PySem.W.codeIn K cd21 "_law_plan" = true)
    (k21 : PySem.W.keepIn K (.ref f21) = true)
    (a22 : PySem.W.nsIn K mainGlobals "_law_reason" = some (some (.ref f22)))
    (l22 : K.lookup f22 = some ⟨oc22, od22, .func (PySem.W.fnOf "_law_reason" "_law_reason" (defArgs sLReason) (defBody sLReason) (defScope sLReason) .none kV22 dc22 pm22 an22 cd22 ct22), sl22⟩)
    (c22 : PySem.W.codeIn K cd22 "_law_reason" = true)
    (k22 : PySem.W.keepIn K (.ref f22) = true)
    (a23 : PySem.W.nsIn K mainGlobals "law" = some (some (.ref f23)))
    (l23 : K.lookup f23 = some ⟨oc23, od23, .func (PySem.W.fnOf "law" "law" (defArgs sLaw) (defBody sLaw) (defScope sLaw) .none kV23 dc23 pm23 an23 cd23 ct23), sl23⟩)
    (c23 : PySem.W.codeIn K cd23 "law" = true)
    (k23 : PySem.W.keepIn K (.ref f23) = true)
    (mN : PySem.W.nsIn K mainGlobals "NOTHING" = some (some (.str dash tk1)))
    (mS : PySem.W.nsIn K mainGlobals "FIGURES" = some (some (.str sFig tk2)))
    (mF : PySem.W.nsIn K mainGlobals "MOST_FIGURES" = some (some (.int 30 tk3)))
    (mM : PySem.W.nsIn K mainGlobals "MOST_MARKS" = some (some (.int 8 tk4)))
    (z0 : PySem.W.nsIn K mainGlobals "len" = some none)
    (z1 : PySem.W.nsIn K mainGlobals "isinstance" = some none)
    (z2 : PySem.W.nsIn K mainGlobals "int" = some none)
    (z3 : PySem.W.nsIn K mainGlobals "bool" = some none)
    (z4 : PySem.W.nsIn K mainGlobals "tuple" = some none)
    (z5 : PySem.W.nsIn K mainGlobals "all" = some none)
    (z6 : PySem.W.nsIn K mainGlobals "enumerate" = some none)
    (z7 : PySem.W.nsIn K mainGlobals "zip" = some none)
    (z8 : PySem.W.nsIn K mainGlobals "range" = some none)
    (z9 : PySem.W.nsIn K mainGlobals "list" = some none)
    (z10 : PySem.W.nsIn K mainGlobals "set" = some none)
    (z11 : PySem.W.nsIn K mainGlobals "sorted" = some none)
    (z12 : PySem.W.nsIn K mainGlobals "abs" = some none)
    (z13 : PySem.W.nsIn K mainGlobals "max" = some none)
    (z14 : PySem.W.nsIn K mainGlobals "min" = some none)
    (z15 : PySem.W.nsIn K mainGlobals "repr" = some none)
    (z16 : PySem.W.nsIn K mainGlobals "dict" = some none)
    (z17 : PySem.W.nsIn K mainGlobals "any" = some none)
    (z18 : PySem.W.nsIn K mainGlobals "str" = some none) :
    ∃ fd : FuncData, (∀ (s : Shared) (v : Value), BindsTo s fd ⟨[v], []⟩ [("_law_script", v)]) ∧ ∀ base : Heap, K.In base → base.Ns mainGlobals mg → FnG l.prog w K mg base CX0 6 fa fd ["_law_script"] (spLaw K) := by
  have e := hfa.symm.trans (PySem.W.mg_of X G a23)
  cases e
  have B : Bare mg := ⟨PySem.W.mg_none_of X G z0, PySem.W.mg_none_of X G z1, PySem.W.mg_none_of X G z2, PySem.W.mg_none_of X G z3, PySem.W.mg_none_of X G z4, PySem.W.mg_none_of X G z5, PySem.W.mg_none_of X G z6, PySem.W.mg_none_of X G z7, PySem.W.mg_none_of X G z8, PySem.W.mg_none_of X G z9, PySem.W.mg_none_of X G z10, PySem.W.mg_none_of X G z11, PySem.W.mg_none_of X G z12, PySem.W.mg_none_of X G z13, PySem.W.mg_none_of X G z14, PySem.W.mg_none_of X G z15, PySem.W.mg_none_of X G z16, PySem.W.mg_none_of X G z17, PySem.W.mg_none_of X G z18⟩
  have D1 := def_mk (st := sWhole) (ps := ["thing"]) X G a1 l1 c1 k1 fun _ _ _ _ _ _ us hl => match us, hl with | [_], _ => rfl
  have D2 := def_mk (st := sMark) (ps := ["thing", "many"]) X G a2 l2 c2 k2 fun _ _ _ _ _ _ us hl => match us, hl with | [_, _], _ => rfl
  have D3 := def_mk (st := sMarks) (ps := ["thing", "many"]) X G a3 l3 c3 k3 fun _ _ _ _ _ _ us hl => match us, hl with | [_, _], _ => rfl
  have D4 := def_mk (st := sShowM) (ps := ["marks"]) X G a4 l4 c4 k4 fun _ _ _ _ _ _ us hl => match us, hl with | [_], _ => rfl
  have D5 := def_mk (st := sShowR) (ps := ["ring"]) X G a5 l5 c5 k5 fun _ _ _ _ _ _ us hl => match us, hl with | [_], _ => rfl
  have D6 := def_mk (st := sShowP) (ps := ["plan"]) X G a6 l6 c6 k6 fun _ _ _ _ _ _ us hl => match us, hl with | [_], _ => rfl
  have D7 := def_mk (st := sShowW) (ps := ["reason"]) X G a7 l7 c7 k7 fun _ _ _ _ _ _ us hl => match us, hl with | [_], _ => rfl
  have D8 := def_mk (st := sNumIn) (ps := ["word"]) X G a8 l8 c8 k8 fun _ _ _ _ _ _ us hl => match us, hl with | [_], _ => rfl
  have D9 := def_mk (st := sNumsIn) (ps := ["words"]) X G a9 l9 c9 k9 fun _ _ _ _ _ _ us hl => match us, hl with | [_], _ => rfl
  have D10 := def_mk (st := sMarksIn) (ps := ["word"]) X G a10 l10 c10 k10 fun _ _ _ _ _ _ us hl => match us, hl with | [_], _ => rfl
  have D11 := def_mk (st := sReadRing) (ps := ["text"]) X G a11 l11 c11 k11 fun _ _ _ _ _ _ us hl => match us, hl with | [_], _ => rfl
  have D12 := def_mk (st := sRunIn) (ps := ["word"]) X G a12 l12 c12 k12 fun _ _ _ _ _ _ us hl => match us, hl with | [_], _ => rfl
  have D13 := def_mk (st := sReadPlan) (ps := ["text"]) X G a13 l13 c13 k13 fun _ _ _ _ _ _ us hl => match us, hl with | [_], _ => rfl
  have D14 := def_mk (st := sPail) (ps := ["_law_script", "_law_at"]) X G a14 l14 c14 k14 fun _ _ _ _ _ _ us hl => match us, hl with | [_, _], _ => rfl
  have D15 := def_mk (st := sDraw) (ps := ["_law_pail_here", "_law_many"]) X G a15 l15 c15 k15 fun _ _ _ _ _ _ us hl => match us, hl with | [_, _], _ => rfl
  have D16 := def_mk (st := sOf) (ps := ["_law_pail_here", "_law_some"]) X G a16 l16 c16 k16 fun _ _ _ _ _ _ us hl => match us, hl with | [_, _], _ => rfl
  have D17 := def_mk (st := sLNumber) (ps := ["_law_pail_here"]) X G a17 l17 c17 k17 fun _ _ _ _ _ _ us hl => match us, hl with | [_], _ => rfl
  have D18 := def_mk (st := sLMarks) (ps := ["_law_pail_here", "_law_least"]) X G a18 l18 c18 k18 fun _ _ _ _ _ _ us hl => match us, hl with | [_, _], _ => rfl
  have D19 := def_mk (st := sLMText) (ps := ["_law_marks_here"]) X G a19 l19 c19 k19 fun _ _ _ _ _ _ us hl => match us, hl with | [_], _ => rfl
  have D20 := def_mk (st := sLRing) (ps := ["_law_pail_here"]) X G a20 l20 c20 k20 fun _ _ _ _ _ _ us hl => match us, hl with | [_], _ => rfl
  have D21 := def_mk (st := sLPlan) (ps := ["_law_pail_here"]) X G a21 l21 c21 k21 fun _ _ _ _ _ _ us hl => match us, hl with | [_], _ => rfl
  have D22 := def_mk (st := sLReason) (ps := ["_law_pail_here"]) X G a22 l22 c22 k22 fun _ _ _ _ _ _ us hl => match us, hl with | [_], _ => rfl
  have F23 := fun_mk (st := sLaw) l23 c23 k23
  have mm := PySem.W.mg_of X G mM
  refine ⟨PySem.W.fnOf "law" "law" (defArgs sLaw) (defBody sLaw) (defScope sLaw) .none kV23 dc23 pm23 an23 cd23 ct23, fun s v => .of_eq rfl, fun base _ _ => ?_⟩
  have ms := PySem.W.mg_of X G mS
  have mf := PySem.W.mg_of X G mF
  have mn := PySem.W.mg_of X G mN
  have G3 : FnOk l.prog w K mg base CX0 3 f3 _ ["thing", "many"] (spMarks K) := ok_marks D3.fn D2 D1 B
  exact ok_law F23 B ⟨D15, D16, D17, D18, D19⟩ ⟨D14, D20, D21, D22, D5, D6, D7, D11, D13⟩ D4 ⟨D8, D9, D10, D12, D3⟩ G3 ⟨mn, ms, mf, mm⟩
end K52
open PySem PySem.W PyProof.Rows
set_option maxRecDepth 100000 in
set_option maxHeartbeats 0 in
theorem PySem.Challenge.cw_ringvouch_k52_rings_plans_reasons_writte_holds : PySem.Challenge.rw_ringvouch_k52_rings_plans_reasons_writte.Holds := by
  w_on; o_law; k_head; (case hw => w_witness2)
  k_fill
  refine RV.walk_G (l := PySem.Challenge.rw_ringvouch_k52_rings_plans_reasons_writte) (n := 63) (k := 6) (x := "_law_script") (sp := fun w => K52.spLaw _) rfl (by decide) rfl ⟨rfl, by decide, by decide⟩ (fun w h Y => PySem.W.kIn_of Y) ?F (fun _ _ a ns hl _ hS => ⟨a, ns, rfl, hS, hl, fun _ => rfl⟩)
  case F =>
    intro w mg fa h KX G hmg
    refine' K52.all_mk KX G hmg ?a1 ?l1 ?c1 ?k1 ?a2 ?l2 ?c2 ?k2 ?a3 ?l3 ?c3 ?k3 ?a4 ?l4 ?c4 ?k4 ?a5 ?l5 ?c5 ?k5 ?a6 ?l6 ?c6 ?k6 ?a7 ?l7 ?c7 ?k7 ?a8 ?l8 ?c8 ?k8 ?a9 ?l9 ?c9 ?k9 ?a10 ?l10 ?c10 ?k10 ?a11 ?l11 ?c11 ?k11 ?a12 ?l12 ?c12 ?k12 ?a13 ?l13 ?c13 ?k13 ?a14 ?l14 ?c14 ?k14 ?a15 ?l15 ?c15 ?k15 ?a16 ?l16 ?c16 ?k16 ?a17 ?l17 ?c17 ?k17 ?a18 ?l18 ?c18 ?k18 ?a19 ?l19 ?c19 ?k19 ?a20 ?l20 ?c20 ?k20 ?a21 ?l21 ?c21 ?k21 ?a22 ?l22 ?c22 ?k22 ?a23 ?l23 ?c23 ?k23 ?mN ?mS ?mF ?mM ?z0 ?z1 ?z2 ?z3 ?z4 ?z5 ?z6 ?z7 ?z8 ?z9 ?z10 ?z11 ?z12 ?z13 ?z14 ?z15 ?z16 ?z17 ?z18
    (case a1 => k_is)
    (case l1 => k_is)
    (case c1 => k_is)
    (case k1 => k_is)
    (case a2 => k_is)
    (case l2 => k_is)
    (case c2 => k_is)
    (case k2 => k_is)
    (case a3 => k_is)
    (case l3 => k_is)
    (case c3 => k_is)
    (case k3 => k_is)
    (case a4 => k_is)
    (case l4 => k_is)
    (case c4 => k_is)
    (case k4 => k_is)
    (case a5 => k_is)
    (case l5 => k_is)
    (case c5 => k_is)
    (case k5 => k_is)
    (case a6 => k_is)
    (case l6 => k_is)
    (case c6 => k_is)
    (case k6 => k_is)
    (case a7 => k_is)
    (case l7 => k_is)
    (case c7 => k_is)
    (case k7 => k_is)
    (case a8 => k_is)
    (case l8 => k_is)
    (case c8 => k_is)
    (case k8 => k_is)
    (case a9 => k_is)
    (case l9 => k_is)
    (case c9 => k_is)
    (case k9 => k_is)
    (case a10 => k_is)
    (case l10 => k_is)
    (case c10 => k_is)
    (case k10 => k_is)
    (case a11 => k_is)
    (case l11 => k_is)
    (case c11 => k_is)
    (case k11 => k_is)
    (case a12 => k_is)
    (case l12 => k_is)
    (case c12 => k_is)
    (case k12 => k_is)
    (case a13 => k_is)
    (case l13 => k_is)
    (case c13 => k_is)
    (case k13 => k_is)
    (case a14 => k_is)
    (case l14 => k_is)
    (case c14 => k_is)
    (case k14 => k_is)
    (case a15 => k_is)
    (case l15 => k_is)
    (case c15 => k_is)
    (case k15 => k_is)
    (case a16 => k_is)
    (case l16 => k_is)
    (case c16 => k_is)
    (case k16 => k_is)
    (case a17 => k_is)
    (case l17 => k_is)
    (case c17 => k_is)
    (case k17 => k_is)
    (case a18 => k_is)
    (case l18 => k_is)
    (case c18 => k_is)
    (case k18 => k_is)
    (case a19 => k_is)
    (case l19 => k_is)
    (case c19 => k_is)
    (case k19 => k_is)
    (case a20 => k_is)
    (case l20 => k_is)
    (case c20 => k_is)
    (case k20 => k_is)
    (case a21 => k_is)
    (case l21 => k_is)
    (case c21 => k_is)
    (case k21 => k_is)
    (case a22 => k_is)
    (case l22 => k_is)
    (case c22 => k_is)
    (case k22 => k_is)
    (case a23 => k_is)
    (case l23 => k_is)
    (case c23 => k_is)
    (case k23 => k_is)
    (case mN => k_is)
    (case mS => k_is)
    (case mF => k_is)
    (case mM => k_is)
    (case z0 => k_is)
    (case z1 => k_is)
    (case z2 => k_is)
    (case z3 => k_is)
    (case z4 => k_is)
    (case z5 => k_is)
    (case z6 => k_is)
    (case z7 => k_is)
    (case z8 => k_is)
    (case z9 => k_is)
    (case z10 => k_is)
    (case z11 => k_is)
    (case z12 => k_is)
    (case z13 => k_is)
    (case z14 => k_is)
    (case z15 => k_is)
    (case z16 => k_is)
    (case z17 => k_is)
    (case z18 => k_is)
