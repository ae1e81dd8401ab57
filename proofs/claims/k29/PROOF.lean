import PyProof.Rows.All
import Wide.All
import OpenK.AllK
import Wide.FinOn
import HandS.ForMost
import KE.GoesEnum
import HandS.Style
import KE.KRevSl
import PyProof.ReprRoads
import HandS.OwnEq
import PyProof.InstNe
import HandS.TupSets
import HandS.IsInst
import HandS.Walk
import HandS.Zip
import HandS.TupAny
import HandS.Deep
import HandS.Conv
import HandS.More
import HandS.Wide
import HandS.TupMul
import HandS.Rev
import KE.DataMinMax
import HandS.NamedTupSort
import PyProof.ReprBulk
import HandS.RaiseMore
import PySem.Challenge.RW_ringvouch_k29_least_periods_and_turns
set_option Elab.async false
set_option linter.all false
set_option maxRecDepth 100000
namespace RV
open PySem PySem.Spec PyProof.Rows L2
set_option maxHeartbeats 4000000 in
theorem meets_en1 {val : Value} {ob : Obj} {HH : Heap → Prop} (B : Begins val ob HH) :
    Meets (Builtin.«enumerate.__new__» ⟨[.type "enumerate", val], []⟩) (fun _ R st => HH st.heap ∧
      R (.ok (.ret (.ref (st.heap.push ob).objs.size)))
        { st with heap := (st.heap.push ob).push { cls := .type "enumerate", data := .fields #[.none, .bool false, .ref st.heap.objs.size, rawInt 0, .none, .none] } }) :=
  .of_wp fun prog w A R st hyp => by
    obtain ⟨hp, gs, dr, tk, os⟩ := st
    obtain ⟨hyp1, hyp2⟩ := hyp
    have hsub := sub_enumerate
    have it1 : ∀ {A' : Around} {E : Value → Shared → Prop} {Q : Value → Shared → Prop}, Q (.ref hp.objs.size) ⟨hp.push ob, gs, dr, tk, os⟩ →
        wpAny (model prog w) A' (pyIter val) Q E ⟨hp, gs, dr, tk, os⟩ := fun q => B.iter prog w _ _ ⟨hp, gs, dr, tk, os⟩ _ hyp1 q
    wp_walk using it1
    refine wpAny_stack_any fun sk => wpAny_pure ?_
    split
    · rename_i cc _ _ _ _ _
      cases (cc == Value.type "enumerate") <;> (wp_walk using it1; exact ⟨_, rfl, hyp2⟩)
    · wp_walk using it1
      exact ⟨_, rfl, hyp2⟩
section
variable {prog : Program} {w : World} {A : Around} {E : Value → Shared → Prop} {s : Shared}
theorem call_en1 {val : Value} {ob : Obj} {HH : Heap → Prop} {Q : Value → Shared → Prop} (B : Begins val ob HH) (hh : HH s.heap)
    (k : ∀ h', IsEnum h' (s.heap.objs.size + 1) s.heap.objs.size 0 .none → h'.get? s.heap.objs.size = some ob → h'.objs.size = s.heap.objs.size + 2 →
      (∀ b o, s.heap.get? b = some o → h'.get? b = some o) → Q (.ref (s.heap.objs.size + 1)) { s with heap := h' }) :
    wpAny (model prog w) A (call (.type "enumerate") [val]) Q E s := by
  refine callType_new F.called_enumerate (by decide) (F.typeCall_enumerate_1 _) (F.newCall_enumerate_1 _) (fun oo => F.args_object_init_2 oo _) F.entry_enumerate_new (meets_en1 B) ⟨hh, ?_⟩
  have z1 : (s.heap.push ob).objs.size = s.heap.objs.size + 1 := Heap.size_push ..
  show _ ∧ _
  rw [z1]
  have z2 : IsEnum ((s.heap.push ob).push { cls := .type "enumerate", data := .fields #[.none, .bool false, .ref s.heap.objs.size, rawInt 0, .none, .none] }) (s.heap.objs.size + 1) s.heap.objs.size 0 .none := by
    have z3 := Heap.get?_push_size (s.heap.push ob) (o := { cls := .type "enumerate", data := .fields #[.none, .bool false, .ref s.heap.objs.size, rawInt 0, .none, .none] }) rfl
    rw [z1] at z3; exact z3
  refine ⟨⟨_, z2, rfl⟩, k _ z2 (Heap.get?_push_of_some _ (Heap.get?_push_size _ B.free)) (by rw [Heap.size_push, z1]) fun b o x => ?_⟩
  exact Heap.get?_push_of_some _ (Heap.get?_push_of_some _ x)
end
/-- enumerate of a tuple: the items in new pairs -/
def IteT (K : PySem.W.Frag) (a : Addr) : It where
  go i H := ∃ (xs : List V) (x : V), SqT K H a xs ∧ xs[i]? = some x
  yld i H v H' := ∃ T x, v = .ref T ∧ H T = none ∧ H' = upd H T (.tup [.int (i : Nat), x]) ∧ ∀ xs, SqT K H a xs → xs[i]? = some x
  stop i H := ∃ xs : List V, SqT K H a xs ∧ xs.length ≤ i
theorem turn_enT {P : Program} {w : World} {K : PySem.W.Frag} {elts : List Expr} {kk : Nat} {tpos : Pos} (a e it : Addr) :
    Turn P w K (.Tuple elts kk tpos) (IteT K a) [e, it] e (fun i h => (∃ old, IsEnum h e it ((i : Nat) : Int) old) ∧ h.IsTupleIter it a i ∧ e ≠ it ∧ a ≠ it ∧ a ≠ e) where
  mem := by simp
  obj := fun i h st b hb => by
    obtain ⟨⟨old, he⟩, ⟨o, ho, hc, hd⟩, _, _⟩ := st
    have eb : b = e ∨ b = it := by simpa using hb
    rcases eb with rfl | rfl
    · exact ⟨_, he, fun v q => nomatch q⟩
    · exact ⟨o, ho, fun v q => by rw [hd] at q; cases q⟩
  keep := fun i h h' st k => let ⟨⟨old, he⟩, hi, hne⟩ := st; ⟨⟨old, k e (by simp) _ he⟩, hi.at fun o q => k it (by simp) o q, hne⟩
  item := by
    intro X hP hw hK hc i pins s σ H E I hf st hg
    subst hP hw hK
    obtain ⟨⟨old, he⟩, hit, hne, hai, hae⟩ := st
    obtain ⟨xs, x, hq, hx⟩ := hg
    obtain ⟨its, rv, p, hz⟩ := I.tuple hq
    obtain ⟨u, hu, ru⟩ := rv.get hx
    have hel : e < s.heap.objs.size := Heap.lt_size he
    have hil : it < s.heap.objs.size := by obtain ⟨_, q, _⟩ := hit; exact Heap.lt_size q
    have hi : i < its.toArray.size := by
      have := (List.getElem?_eq_some_iff.mp hu).1
      simpa using this
    refine wpAny_pyNext_enum_itemD (A := X.A) (Draws.tuple (A := X.A.in1) (show X.A.in1.handled = none from I.ok.hd hc) it a hai its.toArray) he ⟨hit, p⟩ hi hne (by simp [hne, Ne.symm hae]) fun y h' tk hy ho hst hT hsz hk => ?_
    have hyu : y = u := by
      have e1 : its[i]? = some y := by simpa using hy
      rw [hu] at e1
      exact (Option.some.inj e1).symm
    subst hyu
    refine ⟨_, rfl, wpAny_letOwnedTupleGo_enum (s := { s with heap := h', toks := tk + 1 }) ho fun h'' he' sb => ?_⟩
    have hT2 : h''.get? s.heap.objs.size = some { cls := .type "tuple", data := .seq #[.int i tk, y] } := (sb.2 _ (Nat.ne_of_gt hel)).trans hT
    have new : ObjOk X.prog X.w (upd H s.heap.objs.size (.tup [.int (i : Nat), x])) h'' s.heap.objs.size (.tup [.int (i : Nat), x]) :=
      ⟨by show 2 ≤ sizeLine; decide, [.int i tk, y], .cons ⟨_, rfl⟩ (.cons ru .nil), ⟨_, hT2, rfl, _, rfl⟩⟩
    have I1 : Inv X pins σ (upd H s.heap.objs.size (.tup [.int (i : Nat), x])) { s with heap := h'', toks := tk + 1 } := by
      refine I.turnedNew (ch := [e, it]) (fun b ob hb q => ?_) hf (Nat.le_refl _) new
      exact (sb.2 b (fun z => hb (by simp [z]))).trans (hk b ob (fun z => hb (by simp [z])) (fun z => hb (by simp [z])) q)
    refine ⟨.ref s.heap.objs.size, _, I1, rfl, ⟨_, x, rfl, I.hok.fresh (Nat.le_refl _), rfl, fun ys hy => ?_⟩, ⟨⟨y, ?_⟩, hst.1.at fun o q => (sb.2 it (Ne.symm hne)).trans q, hne, hai, hae⟩, fun b hb => ?_⟩
    · rw [I.tuple_inj hy hq]; exact hx
    · rw [show ((i + 1 : Nat) : Int) = (i : Int) + 1 by omega]; exact he'
    · have eb : b = e ∨ b = it := by simpa using hb
      have hb' : b < s.heap.objs.size := by
        rcases eb with z | z <;> rw [z] <;> assumption
      rw [upd_ne (Nat.ne_of_lt hb')]
      exact (hf b hb).1
  done := by
    intro X hP hw hK hc i pins s σ H E I hf st hg
    subst hP hw hK
    obtain ⟨⟨old, he⟩, hit, hne, hai, hae⟩ := st
    obtain ⟨xs, hq, hx⟩ := hg
    obtain ⟨its, rv, p, hz⟩ := I.tuple hq
    obtain ⟨f0, f1, f2, f3, f4, f5⟩ := hf it (by simp)
    have hl := rv.length
    have hT : s.TypeIs (.ref e) "enumerate" := ⟨_, he, rfl⟩
    unfold pyNext
    refine wpAny_bind (wpAny_attempt (wpAny_callSpecial?_slot (name := Str.ofString "__next__") hT F.slot_enumerate_next (wpAny_call_entry F.slot_enumerate_next hT F.entry_enumerate_next ?_ (F.args_enumerate_next_1 _))))
    show wpAny _ _ (field (.ref e) 2 >>= _) _ _ _
    refine wpAny_bind (wpAny_field he rfl (x := .ref it) rfl ?_)
    refine wpAny_bind (wpAny_nextOf_tuple_end (I.ok.hd hc) hit p (by simp; omega) fun h' x he' hx' => ?_)
    obtain ⟨o, ho, hco⟩ := hx'
    refine wpAny_bind (wpAny_isInstance (T := "StopIteration") (b := true) ⟨o, ho, hco⟩ isSubtype_stop ?_)
    exact wpAny_pure ⟨rfl, I.turned (t' := s.toks) (fun b o hb q => he' b o hb q) f0 f1 f3 f4 f5⟩
  self := fun A i s Q E st h => let ⟨⟨_, he⟩, _⟩ := st; wpAny_pyIter_enum he h
def iEnT (K : PySem.W.Frag) (ta : TA) : TI := fun σ H R => ta σ H fun vs H1 => ∃ a xs, vs = [.ref a] ∧ SqT K H1 a xs ∧ R (IteT K a) H1
theorem pi_enT {X : Cx} {e : Expr} {ta : TA} {p pos tpos : Pos} {elts : List Expr} {kk : Nat} (hg : Gl X "enumerate") (hm : X.mg "enumerate" = none) (ha : PA X [e] ta)
    (hs : starEach [e] X.env = [(false, eval e X.env)] := by rfl) : PI X (.Tuple elts kk tpos) (.Call (.Name "enumerate" p) [e] [] pos) (iEnT X.K ta) := by
  refine ⟨fun pins s σ H R I h => Call_ (ld_blt I hg hm boot_enumerate (PyProof.Rows.callWith_type1 (thn (ha.run pos pins s σ H _ I h) fun us s1 ⟨vs, H1, I1, r1, q1⟩ => ?_) hs rfl))⟩
  obtain ⟨a, xs, ex, hq, q⟩ := q1
  subst ex
  cases r1 with
  | cons r rr =>
    cases rr
    cases r
    obtain ⟨its, rv, p', hz⟩ := I1.tuple hq
    have ha0 : a < s1.heap.objs.size := by
      obtain ⟨o, ho, _⟩ := p'
      exact Heap.lt_size ho
    refine call_en1 (begins_tuple a its.toArray) p' fun h' he hit hsz hk => wpAny_pyIter_enum he ?_
    have I2 : Inv X pins σ H1 { s1 with heap := h' } := I1.kept (t' := s1.toks) hk
    refine ⟨s1.heap.objs.size + 1, [s1.heap.objs.size + 1, s1.heap.objs.size], _, _, H1, rfl, I2, turn_enT a (s1.heap.objs.size + 1) s1.heap.objs.size,
      ⟨⟨.none, he⟩, ⟨_, hit, rfl, rfl⟩, Nat.succ_ne_self _, Nat.ne_of_lt ha0, Nat.ne_of_lt (Nat.lt_succ_of_lt ha0)⟩, fun b hb => ?_, q⟩
    have eb : b = s1.heap.objs.size + 1 ∨ b = s1.heap.objs.size := by simpa using hb
    have hle : s1.heap.objs.size ≤ b := by
      rcases eb with z | z
      · rw [z]; exact Nat.le_add_right _ _
      · rw [z]; exact Nat.le_refl _
    exact I1.fpOk hle (I1.hok.fresh hle)
end RV
set_option maxHeartbeats 4000000
namespace RV
open PySem PySem.Spec PyProof.Rows L2 HT
theorem back_places (n : Nat) : Builtin.Slice.slicePlaces ((n : Int) - 1) (-1) (-1) = n := by
  unfold Builtin.Slice.slicePlaces
  rw [if_neg (show ¬ ((-1 : Int) > 0) by decide)]
  by_cases hn : (n : Int) - 1 > -1
  · rw [if_pos hn, show (- -1 : Int) = 1 from rfl, Int.ediv_one]; omega
  · rw [if_neg hn]; omega
theorem back_pick (xs : Array Value) : ((List.range xs.size).filterMap fun (m : Nat) => xs[((xs.size : Int) - 1 + (m : Int) * (-1)).toNat]?).toArray = xs.toList.reverse.toArray := by
  have e0 : ∀ (l : List Nat), (∀ m ∈ l, m < xs.size) → l.filterMap (fun (m : Nat) => xs[((xs.size : Int) - 1 + (m : Int) * (-1)).toNat]?) = (l.map fun k => xs.size - 1 - k).filterMap (xs[·]?) := by
    intro l
    induction l with
    | nil => intro _; rfl
    | cons m r ih =>
      intro hm
      have h1 := hm m (List.mem_cons_self ..)
      have h2 := ih fun z hz => hm z (List.mem_cons_of_mem _ hz)
      rw [List.map_cons, List.filterMap_cons, List.filterMap_cons, h2, show ((xs.size : Int) - 1 + (m : Int) * (-1)).toNat = xs.size - 1 - m by omega]
  have e1 := e0 (List.range xs.size) fun m hm => List.mem_range.mp hm
  rw [e1, PySem.W.krv_range, List.filterMap_reverse, PySem.W.krv_all]
section
variable {prog : Program} {w : World} {A : Around} {E : Value → Shared → Prop} {s : Shared}
theorem applied_back {sl : Addr} {vl vu vs : Value} {n : Nat} {Q : Int × Int × Nat → Shared → Prop} (hs : s.heap.IsSliceOf sl vl vu vs) (pl : IsPart vl none) (pu : IsPart vu none) (ps : IsPart vs (some (-1)))
    (k : Q ((n : Int) - 1, -1, n) s) : wpAny (model prog w) A (Builtin.Slice.sliceApplied (.ref sl) (pure (n : Int))) Q E s := by
  obtain ⟨os, o1, o2, o3⟩ := id hs
  unfold Builtin.Slice.sliceApplied Builtin.Slice.sliceFields
  refine wpAny_bind (wpAny_bind (wpAny_field o1 o3 (x := vl) rfl (wpAny_bind (wpAny_field o1 o3 (x := vu) rfl (wpAny_bind (wpAny_field o1 o3 (x := vs) rfl (wpAny_pure ?_)))))))
  refine wpAny_bind (slicePart_ ps ?_)
  show wpAny _ _ (if ((-1 : Int) == 0) = true then _ else _) _ _ s
  rw [if_neg (by decide)]
  refine wpAny_bind (slicePart_ pl (wpAny_bind (slicePart_ pu (wpAny_bind (wpAny_pure ?_)))))
  show wpAny _ _ (pure ((n : Int) - 1, (-1 : Int), Builtin.Slice.slicePlaces ((n : Int) - 1) (-1) (-1))) _ _ s
  rw [back_places]
  exact wpAny_pure k
theorem item_back {t sl : Addr} {items : Array Value} {vl vu vs : Value} {Q : Value → Shared → Prop} (ht : IsTup s.heap t items) (hs : s.heap.IsSliceOf sl vl vu vs) (pl : IsPart vl none) (pu : IsPart vu none) (ps : IsPart vs (some (-1)))
    (k : Q (.ref s.heap.objs.size) { s with heap := s.heap.push { cls := .type "tuple", data := .seq items.toList.reverse.toArray } })
    (hsz : items.size ≤ sizeLine) : wpAny (model prog w) A (getItem (.ref t) (.ref sl)) Q E s := by
  have hok : sizeOk (.seq items.toList.reverse.toArray) := by
    show items.toList.reverse.toArray.size ≤ sizeLine
    simpa using hsz
  obtain ⟨os, o1, o2, o3⟩ := id hs
  have hTs : s.TypeIs (.ref sl) "slice" := ⟨os, o1, o2⟩
  unfold getItem
  try with_reducible refine wpAny_holding ?_
  first | refine wpAny_bind (wpAny_pure ?_) | skip
  refine wpAny_bind (wpAny_sequenceKey ht.typeIs (by decide) ?_)
  refine wpAny_bind (wpAny_callSpecial?_slot (name := Str.ofString "__getitem__") ht.typeIs PyProof.Rows.slot_tuple_getitem (wpAny_call_entry PyProof.Rows.slot_tuple_getitem ht.typeIs entry_tuple_getitem ?_ (args_tuple_getitem _ _)))
  show wpAny _ _ (Builtin.Tuple.tupleItemsOf (.ref t) >>= _) _ _ s
  refine wpAny_bind (tupleItemsOf_ ht (wpAny_bind (wpAny_typeOf hTs ?_)))
  rw [if_pos (by decide)]
  refine wpAny_bind (applied_back hs pl pu ps ?_)
  show wpAny _ _ (if (((items.size : Int) - 1) == 0 && (-1 : Int) == 1 && items.size == items.size) = true then _ else _) _ _ s
  rw [if_neg (by simp), back_pick]
  first
    | exact wpAny_bind (m := Builtin.Tuple.tupleExact _) (wpAny_newObj_type (wpAny_pure ⟨_, rfl, wpAny_pure k⟩) hok)
    | exact wpAny_bind (wpAny_bind (m := Builtin.Tuple.tupleExact _) (wpAny_newObj_type (wpAny_pure (wpAny_pure ⟨_, rfl, wpAny_pure k⟩)) hok))
    | exact wpAny_bind (wpAny_bind (m := Builtin.Tuple.tupleExact _) (wpAny_newObj_type (wpAny_pure ⟨_, rfl, wpAny_pure k⟩) hok))
    | exact wpAny_bind (m := Builtin.Tuple.tupleExact _) (wpAny_newObj_type (wpAny_bind (wpAny_pure (wpAny_pure ⟨_, rfl, wpAny_pure k⟩))) hok)
end
section
variable {X : Cx}
/-- t[::-1] of a tuple -/
def tBackT (K : PySem.W.Frag) (te : TE) : TE := fun σ H Q => te σ H fun x H1 => ∃ a xs, x = .ref a ∧ SqT K H1 a xs ∧ ∀ p, H1 p = none → Q (.ref p) (upd H1 p (.tup xs.reverse))
theorem pe_backT {e : Expr} {te : TE} {k : Nat} {p1 p2 p3 pos : Pos} (he : PE X e te) : PE X (.Subscript e (.Slice none none (some (.UnaryOp .USub (.Constant (.int 1) k p1) p2)) p3) pos) (tBackT X.K te) := by
  refine ⟨fun pins s σ H Q I h => Subscript_ (thn (he.run pins s σ H _ I h) fun v s1 ⟨x, H1, I1, r1, q1⟩ => ?_)⟩
  obtain ⟨a, xs, ex, hx, q⟩ := q1
  subst ex
  cases r1
  have hst : PO X (some (.UnaryOp .USub (.Constant (.int 1) k p1) p2)) (tPart (tUn (rU fun i => .int (-i)) (tC (.int 1)))) := po_some (pe_un un_neg pe_int)
  refine wpAny_Slice (thn (po_none.run pins s1 σ H1 (fun o H2 => o = none ∧ H2 = H1) I1 ⟨rfl, rfl⟩) fun vl s2 ⟨l, H2, I2, pl, el, e2⟩ => ?_)
  subst el e2
  refine thn (po_none.run pins s2 σ H2 (fun o H3 => o = none ∧ H3 = H2) I2 ⟨rfl, rfl⟩) fun vu s3 ⟨u, H3, I3, pu, eu, e3⟩ => ?_
  subst eu e3
  refine thn (hst.run pins s3 σ H3 (fun o H4 => o = some (-1) ∧ H4 = H3) I3 ⟨1, rfl, -1, rfl, rfl, rfl⟩) fun vs s4 ⟨o, H4, I4, ps, eo, e4⟩ => ?_
  subst eo e4
  have I5 : Inv X pins σ H4 { s4 with heap := s4.heap.push { cls := .type "slice", data := .fields #[vl, vu, vs] } } := I4.kept (t' := s4.toks) fun b ob q => Heap.get?_push_of_some _ q
  obtain ⟨its, r, ht, hz⟩ := I5.tuple hx
  have hlen := r.length
  show wpAny (model X.prog X.w) X.A (subscriptTail e _ (.ref a) (.ref s4.heap.objs.size)) (EP X pins σ Q) X.xe { s4 with heap := s4.heap.push { cls := .type "slice", data := .fields #[vl, vu, vs] } }
  refine tail_any (ops := [.ref a, .ref s4.heap.objs.size]) ht.typeIs (PyProof.Rows.slot_tuple_getitem.lookup) ?_ (by with_unfolding_all rfl)
  refine item_back ht (Heap.IsSliceOf.new _ vl vu vs) pl pu ps ?_ (by rw [List.size_toArray]; omega)
  refine ⟨.ref _, _, I5.laid (t' := s4.toks) (o := .tup xs.reverse) (fun b ob q => Heap.get?_push_of_some _ q) (Nat.le_refl _) ?_, rfl, q _ (I5.hok.fresh (Nat.le_refl _))⟩
  exact ⟨by rw [List.length_reverse]; exact hz, its.reverse, r.reverse, IsTup.new _ _⟩
end
end RV
set_option maxHeartbeats 4000000
namespace RV
open PySem PySem.Spec PyProof.Rows L2
/-- as the layer's promise of a def, where no repr runs around -/
structure FnG (P : Program) (w : World) (K : PySem.W.Frag) (mg : Str → Option Value) (base : Heap) (CX : CXT) (k : Nat) (f : Addr) (fd : FuncData) (ps : List Str) (sp : Sp) : Prop where
  many : ∀ vs H Q E, sp vs H Q E → vs.length = ps.length
  goes : ∀ (A : Around) (outer : List Env) (s : Shared) (H : Hp) (args : Args) (us : List Value) (vs : List V) (Q : VK) (E : XK), A.guards = some [] → Room k A → Env0 P w K mg base A outer s H →
    BindsTo s fd args (ps.zip us) → Vals vs us → sp vs H Q E → codeAny (model P w) A (.call (.ref f) args) (CR CX outer P w H s Q E) s
section
variable {P : Program} {w : World} {K : PySem.W.Frag} {mg : Str → Option Value} {base : Heap} {CX : CXT} {k : Nat} {f : Addr} {fd : FuncData} {N ps : List Str} {sp : Sp} {x qual : Str} {st : Stmt}
theorem okG (F : Fun K x qual st f fd) (S : FnScope N ps (defScope st)) (len : ∀ vs H Q E, sp vs H Q E → vs.length = ps.length)
    (body : ∀ (cdv : Value) (A : Around) (outer : List Env) (s : Shared) (H : Hp) (vs : List V) (Q : VK) (E : XK), A.guards = some [] → Room k (A.deeper (envOfC qual (defScope st) s.heap.objs.size f cdv)) → sp vs H Q E →
      ∃ t, PSs (cxOf CX0 P w K mg base N qual (defScope st) f cdv A outer s H E).nox (defBody st) t ∧ t { nx := fun _ H' => Q .non H', rt := Q } (start N vs) H) : FnG P w K mg base CX0 (k + 1) f fd ps sp := by
  obtain ⟨oc, od, kV, doc, pm, an, cdv, ct, osl, rfl, lk, hcd⟩ := F.ex
  refine ⟨len, fun A outer s H args us vs Q E gd hr e0 hb r hsp => ?_⟩
  have KX : K.In s.heap := e0.mod.kin.keeps fun b o z => (e0.bs b o z).1
  have lim : s.heap.NoLimit := e0.mod.nolimit.keeps fun b o z => (e0.bs b o z).1
  have kinds : ∀ y ∈ ps.zip us, (defScope st).names.lookup y.1 = some .local ∨ ((defScope st).names.lookup y.1 = some .cell ∧ ((cellsFrom (s.heap.objs.size + 1) (defScope st).names []).lookup y.1).isSome = true) := by
    rintro ⟨n, v⟩ hy
    exact (S.par n (List.of_mem_zip hy).1).imp id fun q => ⟨q, PySem.W.cellsFrom_some _ _ _ (.inl q)⟩
  refine codeAny_call_function hr.depth (KX _ _ lk) rfl S.co S.gen rfl (PySem.W.codeRec_of KX hcd) (hb _ _ _ _ (wpAny_newFunctionEnv_cells S.kind kinds fun env he s1 z => ?_))
  subst he
  refine ⟨lim.keeps z.toInCall.keep, codeAny_func ?_⟩
  obtain ⟨t, ht, hq⟩ := body cdv A outer s H vs Q E gd (hr.deeper _) hsp
  have I : Inv (cxOf CX0 P w K mg base N qual (defScope st) f cdv A outer s H E) [] (start N vs) H s1 := inv_start S hr.hd e0 (len _ _ _ _ hsp) r z
  refine wpAny_mono (ht.nox.run [] s1 (start N vs) H _ I hq) (fun fl s' hs => ?_) fun e s' hs => hs
  cases fl with
  | ret u =>
    obtain ⟨v, σ', H', J, rv, q⟩ := hs
    exact ⟨v, H', J.os, J.bare, J.base, J.hok, rv, q⟩
  | next =>
    obtain ⟨σ', H', J, q⟩ := hs
    exact ⟨V.non, H', J.os, J.bare, J.base, J.hok, rfl, q⟩
  | brk => exact hs.elim fun _ z => z.elim fun _ y => False.elim y.2
  | cont => exact hs.elim fun _ z => z.elim fun _ y => False.elim y.2
end
section
variable {X : Cx} {CX : CXT} {k : Nat} {f : Addr} {fd : FuncData} {ps : List Str} {sp : Sp} {dvs : List V} {ds : List Value} {E : XK} {x : Str} {p pos : Pos} {e : Expr} {es : List Expr} {t : TA}
/-- f(e, ..) of such a def -/
theorem pe_callG (F : FnG X.prog X.w X.K X.mg X.base CX k f fd ps sp) (gd : X.A.guards = some []) (hr : Room k X.A) (hg : Gl X x) (hm : X.mg x = some (.ref f)) (hk : PySem.W.keepIn X.K (.ref f) = true) (hb : Binds X.K fd ps ds) (hd : Vals dvs ds) (hx : Passes CX X E)
    (ha : PA X (e :: es) t) (hdb : (x == ("__debug__" : Str)) = false := by decide) (he : starEach (e :: es) X.env = (false, eval e X.env) :: starEach es X.env := by rfl) (hpl : (backTo pos (starEach es X.env)).any (·.1) = false := by rfl) :
    PE X (.Call (.Name x p) (e :: es) [] pos) (tCall sp dvs E t) := by
  refine ⟨fun pins s σ H Q I h => wpAny_Call_Name_kw (ld_glob I hg hm ?_ hdb)⟩
  refine PySem.W.callWith_K (h₀ := X.base) I.ok.mod.kin hk (thn (ha.run pos pins s σ H _ I h) fun us s1 ⟨vs, H1, I1, r, q⟩ => ⟨I1.kIn, ?_⟩) he hpl
  have r2 : Vals (vs ++ dvs) (us ++ ds) := r.append hd
  have hl : (us ++ ds).length = ps.length := r2.length ▸ F.many _ _ _ _ q
  refine wpAny_call (codeAny_mono (F.goes X.A X.stack s1 H1 ⟨us, []⟩ (us ++ ds) (vs ++ dvs) Q E gd hr I1.env0 (hb s1 us I1.kIn hl) r2 q) fun rr s' hq => ?_)
  cases rr with
  | error ee => exact hx pins σ H1 s1 ee s' I1 hq
  | ok fl => cases fl <;> first | exact I1.after hq | exact False.elim hq
/-- repr(x), x an object read as data -/
theorem call_reprD (gd : X.A.guards = some []) (hu : X.A.units + 65 < cLine) : CallR X (.builtin "repr") (fun xs H Q => ∃ (a : Addr) (d : PyData), xs = [.ref a] ∧ Dp X.K H (.ref a) d ∧ d.showable = true ∧ d.hasDict = false ∧ d.depth ≤ 64 ∧ d.shown.length ≤ sizeLine ∧ Q (.str d.shown) H) := by
  intro pins s σ H xs us Q I r h
  obtain ⟨a, d, rfl, hd, h1, h2, h3, h4, q⟩ := h
  obtain ⟨u, rfl, ru⟩ := vals1 r
  cases ru
  obtain ⟨as, rd⟩ := Dp.reads I d (.ref a) (.ref a) hd rfl
  refine repr_of_reads' rd h1 (fun z => by rw [h2] at z; cases z) gd (by omega) (fun _ _ z => z) (fun h' uu tk k => ?_) h4
  exact ⟨.str d.shown, H, I.kept k, ⟨uu, rfl⟩, q⟩
end
section
/-- the law's call, from such a promise -/
theorem law_callG {P : Program} {w : World} {K : PySem.W.Frag} {mg mb : Str → Option Value} {k : Nat} {fa a : Addr} {fd : FuncData} {x : Str} {sp : Sp} {st : Shared} {vs : List Value} {ns : List Int}
    (KX : K.In st.heap) (n1 : st.heap.Ns mainGlobals mg) (n2 : st.heap.Ns builtinsNs mb) (n3 : ∀ x : Str, x ≠ "__name__" → mb x = bootBuiltins x) (n4 : st.heap.NoLimit) (n5 : st.gens = #[])
    (ha : st.heap.get? a = some { cls := .type "list", data := .seq vs.toArray }) (hi : IntsAre vs ns) (hl : ns.length ≤ sizeLine) (hr : Room k callerA)
    (F : ∀ base : Heap, K.In base → base.Ns mainGlobals mg → FnG P w K mg base CX0 k fa fd [x] sp) (bnd : ∀ (s : Shared) (u : Value), BindsTo s fd ⟨[u], []⟩ [(x, u)])
    (hsp : ∀ H : Hp, Only H → SqL K H a (ns.map V.int) → sp [.ref a] H (fun v _ => v = .bl true) fun _ _ _ => False) :
    codeAny (model P w) callerA (.call (.ref fa) ⟨[.ref a], []⟩) (fun r s' => r = .ok (.ret (.bool true)) ∧ OldK st.heap s'.heap ∧ s'.os = st.os ∧ AllBare s'.gens) st := by
  have rv := vals_ints hi
  have lv := hi.length
  have key : ∀ H : Hp, Only H → SqL K H a (ns.map V.int) → HOk P w H st.heap → (∀ b, H b ≠ none → b = a) → (H a ≠ none → K.lookup a = none) →
      codeAny (model P w) callerA (.call (.ref fa) ⟨[.ref a], []⟩) (fun r s' => r = .ok (.ret (.bool true)) ∧ OldK st.heap s'.heap ∧ s'.os = st.os ∧ AllBare s'.gens) st := by
    intro H hO hS hok hA hK
    have noA : ∀ {b : Addr} {o : Obj} {es : Array DictEntry} {ep : Nat}, st.heap.get? b = some o → o.data = .dict es ep → H b = none := by
      intro b o es ep e d
      cases q : H b with
      | none => rfl
      | some u =>
        obtain rfl : b = a := hA b (by rw [q]; simp)
        rw [ha] at e
        cases e
        cases (show Data.seq vs.toArray _ = Data.dict es ep from d)
    have nsK : ∀ {b : Addr} {m : Str → Option Value}, st.heap.Ns b m → (hidT st.heap H).Ns b m := fun {b m} ⟨o, es, ep, e, d, r⟩ => ⟨o, es, ep, hidT_get e (noA e d), d, r⟩
    have kb : K.In (hidT st.heap H) := fun b o e => hidT_get (KX b o e) (by
      cases q : H b with
      | none => rfl
      | some u =>
        obtain rfl : b = a := hA b (by rw [q]; simp)
        rw [hK (by rw [q]; simp)] at e
        cases e)
    obtain ⟨mc, l1, l2⟩ := n4
    have e0 : Env0 P w K mg (hidT st.heap H) callerA [] st H :=
      ⟨rfl, ⟨kb, nsK n1, ⟨mb, nsK n2, n3⟩, ⟨mc, nsK l1, l2⟩⟩, fun b o e => of_hidT e, Nat.le_of_eq (hidT_size _ _), trivial, fun b hb => absurd (show b ∈ ([] : List Addr) from hb) (by simp), hok, .of_eq n5⟩
    refine codeAny_mono ((F _ kb (nsK n1)).goes callerA [] st H ⟨[.ref a], []⟩ [.ref a] [.ref a] _ _ rfl hr e0 (bnd st (.ref a)) (.cons rfl .nil) (hsp H hO hS)) fun r s' h => ?_
    cases r with
    | error e => exact False.elim h
    | ok fl =>
      cases fl with
      | next => exact False.elim h
      | brk => exact False.elim h
      | cont => exact False.elim h
      | ret u =>
        obtain ⟨v, H', os, bare, un, hok', r', q⟩ := h
        obtain rfl : v = .bl true := q
        obtain rfl : u = Value.bool true := r'
        refine ⟨rfl, OldK.of_keep fun b o e => ?_, os, bare⟩
        rcases hO b with z | ⟨ob, xs, z⟩
        · exact un.keep b o e z (fun y => absurd (show b ∈ ([] : List Addr) from y) (by simp)) (by simp)
        · have z2 := un.frzs b ob _ z
          obtain ⟨e1, _⟩ := hok b _ z
          obtain ⟨e2, _⟩ := hok' b _ z2
          rw [e] at e1
          cases e1
          exact e2
  cases hk : K.lookup a with
  | some o =>
    have e := KX a o hk
    rw [ha] at e
    cases e
    exact key (fun _ => none) (fun _ => .inl rfl) (.inr ⟨_, vs.toArray, _, hk, rfl, rfl, rfl, by rw [List.size_toArray, lv]; exact hl, by simpa using rv⟩)
      (fun b u z => by cases (show (none : Option HO) = some u from z)) (fun b z => absurd rfl z) fun z => absurd rfl z
  | none =>
    refine key (fun b => if b = a then some (.frz { cls := .type "list", data := .seq vs.toArray } (.lst (ns.map V.int))) else none) (fun b => ?_) (.inl (.inr ⟨{ cls := .type "list", data := .seq vs.toArray }, if_pos rfl⟩)) (fun b u z => ?_) (fun b z => ?_) fun _ => hk
    · by_cases hb : b = a
      · exact .inr ⟨_, _, if_pos hb⟩
      · exact .inl (if_neg hb)
    · by_cases hb : b = a
      · cases (if_pos hb).symm.trans z
        subst hb
        exact ⟨ha, by rw [List.length_map]; exact hl, vs, _, rv, ha⟩
      · cases (if_neg hb).symm.trans z
    · exact Classical.byContradiction fun hb => z (if_neg hb)
theorem walk_G {l : PySem.W.OpenLaw} {n k : Nat} {q : Program} {loose : List Str} {XP : (Str → Option Value) → Heap → Prop} {YP : World → Heap → Prop} {d : DefRec} {K : Params → PySem.W.Frag} {sp : World → Sp} {x : Str}
    (hn : l.most = some n) (hn2 : n ≤ sizeLine) (hdf : d.params.defaults = []) (hr : Room k callerA) (hY : ∀ (w : World) (h : Heap), YP w h → (K w.params).In h)
    (F : ∀ (w : World) (mg : Str → Option Value) (fa : Addr) (h : Heap), (K w.params).In h → h.Ns mainGlobals mg → mg d.name = some (.ref fa) →
      ∃ fd : FuncData, (∀ (s : Shared) (u : Value), BindsTo s fd ⟨[u], []⟩ [(x, u)]) ∧ ∀ base : Heap, (K w.params).In base → base.Ns mainGlobals mg → FnG l.prog w (K w.params) mg base CX0 k fa fd [x] (sp w))
    (hsp : ∀ (w : World) (H : Hp) (a : Addr) (ns : List Int), ns.length ≤ n → Only H → SqL (K w.params) H a (ns.map V.int) → sp w [.ref a] H (fun v _ => v = .bl true) fun _ _ _ => False) :
    PySem.W.WalkO q loose XP YP l.row.toRowW d [] (fun f vs => PySem.call f vs) := by
  refine Att.attach_call hn hdf fun w s₀ st mg mb fa o pm cd doc a vs ns G Y ho hd hcd hmg hobj hints hlen hg => ?_
  obtain ⟨fd, hb, hF⟩ := F w mg fa _ (hY w _ Y) G.T.g hmg
  exact law_callG (hY w _ Y) G.T.g G.T.b G.T.builtins G.T.nolimit hg hobj hints (Nat.le_trans hlen hn2) hr hF hb fun H hO hS => hsp w H a ns hlen hO hS
end
end RV
set_option maxHeartbeats 4000000
namespace RV
open PySem PySem.Spec PyProof.Rows L2 PySem.W
section
variable {prog : Program} {w : World} {A : Around} {E : Value → Shared → Prop} {s : Shared} {K : Frag} {x C L f : Addr} {h₀ : Heap} {m : Str → Option Value} {ox : Obj} {od : Option Obj} {b tb : Value}
theorem ne_bound {Q : Option Value → Shared → Prop} (X : K.In s.heap) (I : InstAt s.heap x ox C od) (hs : findIn K (.ref C) "__ne__" = some (some (.builtin "object.__ne__")))
    (h : wpAny (model prog w) A (call (.builtin "object.__ne__") [.ref x, b]) (fun v => Q (some v)) E s) : wpAny (model prog w) A (callSpecialIfBound? (.ref x) "__ne__" [b]) Q E s := by
  simp only [callSpecialIfBound?, bindSpecialIfBound?]
  refine wpAny_holding (wpAny_bind (wpAny_bind (wpAny_bind (I.type.here ((looks_findIn X hs).here ?_)))))
  refine wpAny_bind (wpAny_askSetting (wpAny_ite ?_))
  have fin : wpAny (model prog w) A (call (.builtin "object.__ne__") ([.ref x] ++ [b]) >>= fun v => pure (some v)) Q E s :=
    wpAny_bind (wpAny_mono h (fun v s' z => wpAny_pure z) fun _ _ z => z)
  split
  · rw [F.cmp_object.ne.bind]
    exact wpAny_bind (wpAny_pure (wpAny_pure fin))
  · rw [F.cmp_object.ne.bind]
    exact wpAny_tryCatch (wpAny_bind (wpAny_pure (wpAny_pure fin)))
theorem obj_ne {Q : Fin → Shared → Prop} (X : K.In s.heap) (hu : A.units < cLine) (I : InstAt s.heap x ox C od) (hs : findIn K (.ref C) "__eq__" = some (some (.ref f))) (hf : isFn K (.ref f) = true)
    (h : wpAny (model prog w) A (call (.ref f) [.ref x, b]) (fun v s' => ∃ c, v = .bool c ∧ Q (.done (.ret (.bool (!c)))) s') E s) :
    wpAny (model prog w) A (Builtin.«object.__ne__» ⟨[.ref x, b], []⟩) Q E s := by
  unfold Builtin.«object.__ne__»
  repeat (first
    | with_reducible refine wpAny_cRoomFor hu ?_
    | (refine wpAny_bind (m := callSpecialIfBound? (.ref x) (Str.ofString "__eq__") [b])
        (ifBound_K X I hs hf (wpAny_mono h (fun r s' hr => by
          obtain ⟨c, rfl, hq⟩ := hr
          repeat (first | exact hq | exact wpAny_pure hq | exact wpAny_truthy_bool hq | (refine wpAny_bind (m := truthy (.bool _)) (wpAny_truthy_bool ?_)) | wp_step)) fun _ _ z => z)))
    | wp_step)
theorem cmp_ne {Q : Value → Shared → Prop} (hu : A.units + 1 < cLine) (F0 : Fr h₀ L s.heap m) (X₀ : K.In h₀) (I : InstAt s.heap x ox C od) (hb : Looks (model prog w) s.heap (typeOf b) (.ref C))
    (hn : findIn K (.ref C) "__ne__" = some (some (.builtin "object.__ne__"))) (hm : mroIn K C (.type "object") = some true)
    (hs : findIn K (.ref C) "__eq__" = some (some (.ref f))) (hf : isFn K (.ref f) = true)
    (h : wpAny (model prog w) A.in1 (call (.ref f) [.ref x, b]) (fun v s' => ∃ c, v = .bool c ∧ Q (.bool (!c)) s') E s) : wpAny (model prog w) A (richCompare .NotEq (.ref x) b) Q E s := by
  have X := X₀.keeps F0.keep
  have one : wpAny (model prog w) A (tryCompare (.ref x) "__ne__" b) (fun r s' => ∃ v, r = some v ∧ Q v s') E s := by
    unfold tryCompare
    refine wpAny_bind (ne_bound X I hn (wpAny_call (codeAny_call_builtin F.cmp_object.ne.plain F.cmpEntry_ne ?_)))
    refine check_slot F.cmpKind_ne F.cmpSplit_ne ?_ (F.cmpArgs_ne _ _) ?_
    · exact I.type.andThen (looks_mroIn X hm)
    · refine obj_ne (A := A.in1) X hu I hs hf (wpAny_mono h (fun v s' hv => ?_) fun _ _ z => z)
      obtain ⟨c, rfl, hq⟩ := hv
      exact ⟨c, rfl, wpAny_pure ⟨_, rfl, hq⟩⟩
  unfold richCompare
  simp only [oneThing_ref]
  refine wpAny_holding (wpAny_bind (wpAny_cRoomFor (Nat.lt_of_succ_lt hu) ?_))
  rw [cmpInfo_NotEq]
  dsimp only
  refine wpAny_bind (I.type.here (wpAny_bind (hb.here ?_)))
  rw [show (Value.ref C != Value.ref C) = false from by simp]
  simp only [Bool.false_eq_true, if_false]
  refine wpAny_bind (wpAny_pure ?_)
  simp only [Bool.false_eq_true, if_false]
  refine wpAny_bind (wpAny_mono one (fun r s' z => ?_) fun _ _ z => z)
  obtain ⟨v, rfl, hq⟩ := z
  exact wpAny_pure hq
end
section
variable {X : Cx} {CX : CXT} {n : Nat} {C f : Addr} {fd : FuncData} {ps : List Str} {sp : Sp} {E : XK}
/-- x != y, instances of the class at C, by the text's own == -/
def rNeI (C : Addr) (sp : Sp) (E : XK) : R2 := fun x y H Q => ∃ a b dx dy fs gs, x = .ref a ∧ y = .ref b ∧ H a = some (.ins C dx fs) ∧ H b = some (.ins C dy gs) ∧ sp [.ref a, .ref b] H (fun v H' => ∃ c, v = .bl c ∧ Q (.bl (!c)) H') E
def rEqI (C : Addr) (sp : Sp) (E : XK) : R2 := fun x y H Q => ∃ a b dx dy fs gs, x = .ref a ∧ y = .ref b ∧ H a = some (.ins C dx fs) ∧ H b = some (.ins C dy gs) ∧ sp [.ref a, .ref b] H (fun v H' => ∃ c, v = .bl c ∧ Q (.bl c) H') E
theorem op_neI (G : FnOk X.prog X.w X.K X.mg X.base CX n f fd ps sp) (hr : Room (n + 1) X.A) (hn : findIn X.K (.ref C) "__ne__" = some (some (.builtin "object.__ne__"))) (hm : mroIn X.K C (.type "object") = some true)
    (hs : findIn X.K (.ref C) "__eq__" = some (some (.ref f))) (hf : isFn X.K (.ref f) = true) (hb : Binds X.K fd ps []) (hx : Passes CX X E) : OpR X (compareOp .NotEq) (rNeI C sp E) := by
  intro pins s σ H x y v u Q I rx ry hq
  obtain ⟨a, b, dx, dy, fs, gs, rfl, rfl, ha, hb', q⟩ := hq
  cases rx
  cases ry
  obtain ⟨mA, J, _⟩ := ins_get I.hok ha
  obtain ⟨mB, J', _⟩ := ins_get I.hok hb'
  obtain ⟨od, J, _⟩ := J.look
  obtain ⟨od', J', _⟩ := J'.look
  obtain ⟨m, hF⟩ := I.fr
  show wpAny (model X.prog X.w) X.A (richCompare .NotEq (.ref a) (.ref b)) (EP X pins σ Q) X.xe s
  refine cmp_ne (by have := hr.un; omega) hF I.ok.mod.kin J J'.type hn hm hs hf ?_
  have hl := G.len _ _ _ _ q
  have r2 : Vals [V.ref a, V.ref b] [Value.ref a, Value.ref b] := .cons rfl (.cons rfl .nil)
  refine wpAny_call (codeAny_mono (G.run X.A.in1 X.stack s H ⟨[.ref a, .ref b], []⟩ [.ref a, .ref b] [.ref a, .ref b] _ E hr.in1 I.env0.in1 (by simpa using hb s [.ref a, .ref b] I.kIn (by simpa using hl)) r2 q) fun r s' hq => ?_)
  cases r with
  | error e => exact hx pins σ H s e s' I hq
  | ok fl =>
    cases fl with
    | ret w =>
      obtain ⟨z, H', I', rz, c, ez, ex⟩ := I.after hq
      subst ez
      cases rz
      exact ⟨c, rfl, .bl (!c), H', I', rfl, ex⟩
    | next => exact False.elim hq
    | brk => exact False.elim hq
    | cont => exact False.elim hq
theorem op_eqI (G : FnOk X.prog X.w X.K X.mg X.base CX n f fd ps sp) (hr : Room n X.A)
    (hs : findIn X.K (.ref C) "__eq__" = some (some (.ref f))) (hf : isFn X.K (.ref f) = true) (hb : Binds X.K fd ps []) (hx : Passes CX X E) : OpR X (compareOp .Eq) (rEqI C sp E) := by
  intro pins s σ H x y v u Q I rx ry hq
  obtain ⟨a, b, dx, dy, fs, gs, rfl, rfl, ha, hb', q⟩ := hq
  cases rx
  cases ry
  obtain ⟨mA, J, _⟩ := ins_get I.hok ha
  obtain ⟨mB, J', _⟩ := ins_get I.hok hb'
  obtain ⟨od, J, _⟩ := J.look
  obtain ⟨od', J', _⟩ := J'.look
  obtain ⟨m, hF⟩ := I.fr
  show wpAny (model X.prog X.w) X.A (richCompare .Eq (.ref a) (.ref b)) (EP X pins σ Q) X.xe s
  refine PySem.W.cmp_K (op := .Eq) (tb := .ref C) hr.units0 hF I.ok.mod.kin J J'.type (by simp [PySem.W.notFirst]) hs hf ?_
  have hl := G.len _ _ _ _ q
  have r2 : Vals [V.ref a, V.ref b] [Value.ref a, Value.ref b] := .cons rfl (.cons rfl .nil)
  refine wpAny_call (codeAny_mono (G.run X.A X.stack s H ⟨[.ref a, .ref b], []⟩ [.ref a, .ref b] [.ref a, .ref b] _ E hr I.env0 (by simpa using hb s [.ref a, .ref b] I.kIn (by simpa using hl)) r2 q) fun r s' hq => ?_)
  cases r with
  | error e => exact hx pins σ H s e s' I hq
  | ok fl =>
    cases fl with
    | ret w =>
      obtain ⟨z, H', I', rz, c, ez, ex⟩ := I.after hq
      subst ez
      cases rz
      exact ⟨.bl c, H', I', rfl, ex⟩
    | next => exact False.elim hq
    | brk => exact False.elim hq
    | cont => exact False.elim hq
end
end RV
set_option maxHeartbeats 4000000
/-! set(xs) of tuples of ints, xs of any length, where few of them are unlike -/
namespace RV
open PySem PySem.Spec PyProof.Rows L2
/-- fewer than 63 unlike ones -/
def FewUnlike (ks : List (Addr × List Int)) : Prop := ∀ L : List (Addr × List Int), (L.map (·.2)).Nodup → (∀ p ∈ L, p ∈ ks) → L.length + 1 < 64
abbrev noneYet (w : World) : Obj := { cls := .type "set", dict := none, data := .set #[] 0 (.fresh 0 0 (!w.params.followText "set-order")) }
section
variable {P : Program} {w : World} {A : Around} {E : Value → Shared → Prop} {s : Shared}
theorem setN_loop {R : Result → Shared → Prop} (hh : A.in1.handled = none) (S l it : Addr) (hSl : S ≠ l) (hSi : S ≠ it) (hli : l ≠ it) (items : Array Value) (ks : List (Addr × List Int)) (few : FewUnlike ks)
    (refs : ∀ (i : Nat) (p : Addr × List Int), ks[i]? = some p → items[i]? = some (Value.ref p.1)) (size : items.size = ks.length) (old : Heap) (tups : ∀ p ∈ ks, IsT P w old p.2 p.1) (o1 : old.get? S = none) (o2 : old.get? it = none) (hu : A.in1.units < cLine) :
    ∀ (k i : Nat) (s : Shared), ks.length - i = k → i ≤ ks.length → s.heap.IsListIter it l i → s.heap.IsList l items → (∀ b o, old.get? b = some o → s.heap.get? b = some o) → (∃ L es ep t, SetTR P w s.heap S L es ep t ∧ Got ks i L) →
      (∀ h' tk L es ep t, SetTR P w h' S L es ep t → Got ks ks.length L → (∀ b o, old.get? b = some o → h'.get? b = some o) → R (.ok (.ret .none)) { s with heap := h', toks := tk }) →
      codeAny (model P w) A (.builtin "set.update.loop" ⟨[.ref S, .ref it], []⟩) R s
  | 0, i, s, hk, hi, hit, hl, keep, ⟨L, es, ep, t, hS, got⟩, fin => by
    obtain rfl : i = ks.length := by omega
    refine codeAny_builtin F.entry_set_update_loop ?_
    rw [Around.under_plainId F.plain_set_update_loop _]
    show wpAny _ A.in1 (pyNext (.ref it) >>= _) _ _ s
    refine wpAny_bind (wpAny_pyNext_list_end hh hit hl (by simp [size]) fun h' ext => ?_)
    have keep' : ∀ b o, old.get? b = some o → h'.get? b = some o := fun b o e => ext b o (fun z => by rw [z, o2] at e; cases e) (keep b o e)
    exact wpAny_pure (fin h' s.toks L es ep t (hS.keep (fun o e => ext S o hSi e) fun p hp => isT_keep (tups p (List.mem_of_mem_take (got.sub p hp))) keep') got keep')
  | k + 1, i, s, hk, hi, hit, hl, keep, ⟨L, es, ep, t, hS, got⟩, fin => by
    obtain ⟨p, hp⟩ : ∃ p, ks[i]? = some p := ⟨_, List.getElem?_eq_getElem (by omega)⟩
    refine codeAny_builtin F.entry_set_update_loop ?_
    rw [Around.under_plainId F.plain_set_update_loop _]
    show wpAny _ A.in1 (pyNext (.ref it) >>= _) _ _ s
    refine wpAny_bind (wpAny_pyNext_list_item hit hl (refs i p hp) fun h1 hit1 sb1 => ?_)
    have keep1 : ∀ b o, old.get? b = some o → h1.get? b = some o := fun b o e => (sb1.2 b fun z => by rw [z, o2] at e; cases e).trans (keep b o e)
    have inKs : ∀ q ∈ L, q ∈ ks := fun q hq => List.mem_of_mem_take (got.sub q hq)
    have hS1 : SetTR P w h1 S L es ep t := hS.keep (fun o e => (sb1.2 S hSi).trans e) fun q hq => isT_keep (tups q (inKs q hq)) keep1
    have hT : IsT P w h1 p.2 p.1 := isT_keep (tups p (List.mem_of_getElem? hp)) keep1
    show wpAny _ A.in1 (holding [Value.ref p.1] (setAdd S (.ref p.1)) >>= _) _ _ _
    refine wpAny_bind (wpAny_holding ?_)
    unfold setAdd
    refine wpAny_holding (wpAny_bind (wpAny_pyHash_tuple hu hT ?_))
    refine add_at (s := { s with heap := h1, toks := s.toks + (p.2.length + 1) }) hS1 hT hu (few L hS1.nd inKs) fun b h2 L2 es2 ep2 t2 sb2 hS2 yes no => ?_
    have got2 : Got ks (i + 1) L2 := by
      by_cases c : p.2 ∈ L.map (·.2)
      · rw [yes c]; exact got.same hp c
      · exact got.more hp (no c)
    have keep2 : ∀ b o, old.get? b = some o → h2.get? b = some o := fun b o e => (sb2.2 b fun z => by rw [z, o1] at e; cases e).trans (keep1 b o e)
    refine wpAny_pure ⟨plainId_quiet F.plain_set_update_loop _, setN_loop hh S l it hSl hSi hli items ks few refs size old tups o1 o2 hu k (i + 1) _ (by omega) (by omega)
      (hit1.at fun o e => (sb2.2 it (Ne.symm hSi)).trans e) ((hl.at fun o e => (sb1.2 l hli).trans e).at fun o e => (sb2.2 l (Ne.symm hSl)).trans e) keep2 ⟨L2, es2, ep2, t2, hS2, got2⟩ fun h' tk L' es' ep' t' z1 z2 z3 => ?_⟩
    exact fin h' tk L' es' ep' t' z1 z2 z3
set_option maxHeartbeats 8000000 in
theorem call_setN {l : Addr} {items : Array Value} (ks : List (Addr × List Int)) {Q : Value → Shared → Prop} (hh : A.handled = none) (hl : s.heap.IsList l items) (refs : items.toList = ks.map fun p => Value.ref p.1)
    (tups : ∀ p ∈ ks, IsT P w s.heap p.2 p.1) (few : FewUnlike ks) (hu : A.units + 3 < cLine)
    (k : ∀ (h' : Heap) (tk : Nat) L es ep t, SetTR P w h' s.heap.objs.size L es ep t → Got ks ks.length L → (∀ b o, s.heap.get? b = some o → h'.get? b = some o) → Q (.ref s.heap.objs.size) { s with heap := h', toks := tk }) :
    wpAny (model P w) A (call (.type "set") [.ref l]) Q E s := by
  have size : items.size = ks.length := by simpa using congrArg List.length refs
  have refs' : ∀ (i : Nat) (p : Addr × List Int), ks[i]? = some p → items[i]? = some (Value.ref p.1) := fun i p e => by
    rw [← Array.getElem?_toList, refs, List.getElem?_map, e]; rfl
  obtain ⟨c, tl, hm⟩ := F.called_set.mro
  have a1 := F.called_set.made
  have a2 := F.called_set.sub
  have a3 := F.called_set.notType
  have a4 := F.called_set.canCreate
  have a5 := F.typeCall_set_1 (.ref l)
  refine wpAny_call (codeAny_of_tree ?_)
  show wpAny _ _ (callAny (.type "set") _) _ _ _
  refine wpAny_pure ⟨Code.quiet_builtin _ (by decide +kernel), codeAny_builtin F.entry_type_call ?_⟩
  rw [Around.under_plain (weight_type_call_type "set" [.ref l] []) rfl]
  repeat (any_goals (first | assumption | wp_step))
  refine codeAny_mono (code_set_led1 (.ref l) (E := E) (Q₁ := fun obj s₁ => obj = .ref s.heap.objs.size ∧ s₁ = { s with heap := s.heap.push (noneYet w) }) ⟨rfl, rfl⟩) fun r s₁ hr => ?_
  match r, hr with
  | .error e, hr => exact hr
  | .ok .next, hr => exact hr.elim
  | .ok .brk, hr => exact hr.elim
  | .ok .cont, hr => exact hr.elim
  | .ok (.ret obj), hr =>
    obtain ⟨rfl, rfl⟩ := hr
    have hS : (s.heap.push (noneYet w)).get? s.heap.objs.size = some (noneYet w) := Heap.get?_push_size _ rfl
    have hT : Shared.TypeIs { s with heap := s.heap.push (noneYet w) } (.ref s.heap.objs.size) "set" := ⟨_, hS, rfl⟩
    have b1 := F.called_set.init.lookup
    have b2 := F.called_set.init.bind (.ref s.heap.objs.size)
    repeat (any_goals (first | assumption | wp_step))
    refine codeAny_mono (codeAny_call_builtin (R := wants (fun r s₂ => r = .none ∧ ∃ h' tk L es ep t, s₂ = { s with heap := h', toks := tk } ∧ SetTR P w h' s.heap.objs.size L es ep t ∧ Got ks ks.length L ∧
        (∀ b o, s.heap.get? b = some o → h'.get? b = some o)) E) F.called_set.init.plain F.entry_set_init (check_set_init_1 hT ?_)) fun r₂ s₂ hr₂ => ?_
    · obtain ⟨⟨oc, od, dt, os⟩, g1, g2, nl, g3⟩ := hl
      simp only at g2 g3
      subst g2 g3
      have g4 : (s.heap.push (noneYet w)).get? l = some { cls := .type "list", dict := od, data := .seq items nl, slots := os } := Heap.get?_push_of_some _ g1
      have c1 := F.sub_list_set
      have c2 := F.sub_list_frozenset
      have c3 : (Value.type "list" == Value.type "dict") = false := by decide
      have isl : (s.heap.push (noneYet w)).IsList l items := ⟨_, g4, rfl, nl, rfl⟩
      unfold Builtin.«set.__init__» noKeywords Builtin.Frozenset.updateFrom
      generalize hpi : pyIter = pI
      wp_walk
      subst hpi
      refine wpAny_pyIter_list isl (wpAny_bind (wpAny_runValue ?_))
      have lt : l < s.heap.objs.size := Heap.lt_size g1
      have z1 : (s.heap.push (noneYet w)).objs.size = s.heap.objs.size + 1 := Heap.size_push ..
      have none1 : ∀ b, s.heap.objs.size ≤ b → s.heap.get? b = none := fun b hb => by
        cases q : s.heap.get? b with
        | none => rfl
        | some o => exact absurd (Nat.lt_of_lt_of_le (Heap.lt_size q) hb) (Nat.lt_irrefl _)
      refine setN_loop (A := A.in1.in1) (by simp [hh]) s.heap.objs.size l (s.heap.push (noneYet w)).objs.size (Nat.ne_of_gt lt) (by rw [z1]; exact Nat.ne_of_lt (Nat.lt_succ_self _)) (by rw [z1]; exact Nat.ne_of_lt (Nat.lt_succ_of_lt lt)) items ks few refs' size s.heap tups (none1 _ (Nat.le_refl _)) (none1 _ (by rw [z1]; exact Nat.le_succ _)) hu (ks.length - 0) 0 _ rfl (Nat.zero_le _)
        ⟨_, Heap.get?_push_size _ rfl, rfl, rfl⟩ (isl.push _) (fun b o e => Heap.get?_push_of_some _ (Heap.get?_push_of_some _ e)) ⟨[], #[], 0, _, setTR_fresh (Heap.get?_push_of_some _ hS), Got.zero ks⟩ fun h' tk L es ep t q1 q2 q3 => ?_
      show wpAny _ _ _ _ _ _
      refine wpAny_pure ?_
      show wpAny _ _ (ret Value.none) _ _ _
      exact wpAny_pure ⟨rfl, h', tk, L, es, ep, t, rfl, q1, q2, q3⟩
    · match r₂, hr₂ with
      | .error e, hr₂ => exact hr₂
      | .ok .next, hr₂ => exact hr₂.elim
      | .ok .brk, hr₂ => exact hr₂.elim
      | .ok .cont, hr₂ => exact hr₂.elim
      | .ok (.ret r), hr₂ =>
        obtain ⟨rfl, h', tk, L, es, ep, t, rfl, q1, q2, q3⟩ := hr₂
        repeat (any_goals (first | assumption | wp_step))
        exact k _ _ _ _ _ _ q1 q2 q3
end
section
variable {X : Cx}
def rSetN (K : PySem.W.Frag) (P : Program) (w : World) : List V → Hp → VK → Prop := fun xs H Q => ∃ (l : Addr) (ks : List (Addr × List Int)), xs = [V.ref l] ∧ SqL K H l (ks.map fun p => V.ref p.1) ∧ (∀ p ∈ ks, SqT K H p.1 (p.2.map V.int)) ∧ FewUnlike ks ∧
  ∀ a L, H a = none → (∀ p ∈ L, p ∈ ks) → (∀ p ∈ ks, p.2 ∈ L.map (·.2)) → Q (.ref a) (upd H a (SetTO P w a L))
theorem cr_setN (hc : X.calm = true) (hu : X.A.units + 64 < cLine) : CallR X (.type "set") (rSetN X.K X.prog X.w) := by
  intro pins s σ H xs us Q I r h
  obtain ⟨l, ks, rfl, hl, hk, few, q⟩ := h
  rw [Vals.ref1 r]
  obtain ⟨its, rv, pl, hz⟩ := I.list hl
  refine call_setN ks (I.ok.hd hc) pl.isList (by simpa using refs_of_vals rv) (fun p hp => I.isT (hk p hp)) few (by omega) fun h' tk L es ep t R g kp => ?_
  refine ⟨.ref s.heap.objs.size, upd H s.heap.objs.size (SetTO X.prog X.w s.heap.objs.size L), I.laid (t' := tk) kp (Nat.le_refl _) (setTO_new R.t0), rfl, ?_⟩
  exact q _ L (I.hok.fresh (Nat.le_refl _)) (fun p hp => List.mem_of_mem_take (g.sub p hp)) fun p hp => g.all p (by rw [List.take_length]; exact hp)
end
end RV
set_option maxHeartbeats 4000000
namespace RV
open PySem PySem.Spec PyProof.Rows L2
/-! ### heaps -/
theorem same_upd {H : Hp} {p : Addr} {o : HO} (h : H p = none) : Same H (upd H p o) := fun b x e => by
  rw [upd_ne (ne_of_none e h)]
  exact e
theorem sqT_same {K : PySem.W.Frag} {H H' : Hp} {a : Addr} {xs : List V} (e : Same H H') (h : SqT K H a xs) : SqT K H' a xs := SqT.ext h e
theorem sqL_same {K : PySem.W.Frag} {H H' : Hp} {a : Addr} {xs : List V} (e : Same H H') (h : SqL K H a xs) : SqL K H' a xs := SqL.ext h e
theorem tyT {K : PySem.W.Frag} {H : Hp} {a : Addr} {xs : List V} (h : SqT K H a xs) : TyX K H (.ref a) (.type "tuple") := by
  rcases h with (h | ⟨o, h⟩) | ⟨o, its, n, h1, h2, _⟩
  · exact .base (.tup h)
  · exact .fTuple h
  · exact .kTuple h1 h2
theorem tupNew {K : PySem.W.Frag} {H : Hp} {a : Addr} {xs : List V} (h : H a = some (.tup xs)) : SqT K H a xs := .inl (.inl h)
theorem lstNew {K : PySem.W.Frag} {H : Hp} {a : Addr} {xs : List V} (h : H a = some (.lst xs)) : SqL K H a xs := .inl (.inl h)
theorem walk_enT {K : PySem.W.Frag} {a : Addr} {xs : List V} : Walk (IteT K a) xs.length (fun H => SqT K H a xs) (YPair (fun i => some (.int (i : Nat))) (fun i => xs[i]?)) := by
  refine ⟨fun i _ hi q => ⟨xs, xs[i], q, by simp [hi]⟩, fun _ q => ⟨xs, q, Nat.le_refl _⟩, fun i H v H' _ q y => ?_⟩
  obtain ⟨T, x, h1, h2, h3, h4⟩ := y
  exact ⟨T, .int (i : Nat), x, h1, h2, h3, rfl, h4 xs q⟩
theorem walk_zipT {K : PySem.W.Frag} {a b : Addr} {xs ys : List V} {n : Nat} (hn : n = min xs.length ys.length) : Walk (RZ.ItzT K a b) n (fun H => SqT K H a xs ∧ SqT K H b ys) (YPair (fun i => xs[i]?) (fun i => ys[i]?)) := by
  subst hn
  refine ⟨fun i _ hi q => ⟨xs, ys, xs[i]'(by omega), ys[i]'(by omega), q.1, q.2, List.getElem?_eq_getElem _, List.getElem?_eq_getElem _⟩, fun _ q => ⟨xs, ys, q.1, q.2, by omega⟩, fun i H v H' _ q y => ?_⟩
  obtain ⟨T, x, z, h1, h2, h3, h4, h5⟩ := y
  exact ⟨T, x, z, h1, h2, h3, h4 xs q.1, h5 ys q.2⟩
/-- a tuple of tuples of ints -/
def Tups (K : PySem.W.Frag) (H : Hp) (a : Addr) (ps : List (List Int)) : Prop := ∃ ks : List (Addr × List Int), ks.map (·.2) = ps ∧ SqT K H a (ks.map fun p => V.ref p.1) ∧ ∀ p ∈ ks, SqT K H p.1 (p.2.map V.int)
/-- a list of tuples of ints -/
def Lots (K : PySem.W.Frag) (H : Hp) (a : Addr) (ps : List (List Int)) : Prop := ∃ ks : List (Addr × List Int), ks.map (·.2) = ps ∧ SqL K H a (ks.map fun p => V.ref p.1) ∧ ∀ p ∈ ks, SqT K H p.1 (p.2.map V.int)
theorem Tups.same {K : PySem.W.Frag} {H H' : Hp} {a : Addr} {ps : List (List Int)} (h : Tups K H a ps) (e : Same H H') : Tups K H' a ps :=
  let ⟨ks, h1, h2, h3⟩ := h; ⟨ks, h1, sqT_same e h2, fun p hp => sqT_same e (h3 p hp)⟩
theorem Lots.same {K : PySem.W.Frag} {H H' : Hp} {a : Addr} {ps : List (List Int)} (h : Lots K H a ps) (e : Same H H') : Lots K H' a ps :=
  let ⟨ks, h1, h2, h3⟩ := h; ⟨ks, h1, sqL_same e h2, fun p hp => sqT_same e (h3 p hp)⟩
theorem dpInts {K : PySem.W.Frag} {H : Hp} : ∀ ns : List Int, DpAll K H (ns.map V.int) (ns.map PyData.int)
  | [] => .nil
  | n :: r => .cons (.int n) (dpInts r)
def dI (ns : List Int) : PyData := .tuple (ns.map PyData.int)
def dTT (ps : List (List Int)) : PyData := .tuple (ps.map dI)
theorem dpT {K : PySem.W.Frag} {H : Hp} {a : Addr} {ns : List Int} (h : SqT K H a (ns.map V.int)) : Dp K H (.ref a) (dI ns) := .tup h (dpInts ns)
theorem dpTs {K : PySem.W.Frag} {H : Hp} : ∀ ks : List (Addr × List Int), (∀ p ∈ ks, SqT K H p.1 (p.2.map V.int)) → DpAll K H (ks.map fun p => V.ref p.1) ((ks.map (·.2)).map dI)
  | [], _ => .nil
  | p :: r, h => .cons (dpT (h p (List.mem_cons_self ..))) (dpTs r fun q hq => h q (List.mem_cons_of_mem _ hq))
theorem Tups.dp {K : PySem.W.Frag} {H : Hp} {a : Addr} {ps : List (List Int)} (h : Tups K H a ps) : Dp K H (.ref a) (dTT ps) := by
  obtain ⟨ks, rfl, h2, h3⟩ := h
  exact .tup h2 (dpTs ks h3)
theorem map_at {α β : Type} {f : α → β} {l : List α} {i : Nat} {y : β} (h : (l.map f)[i]? = some y) : ∃ x, l[i]? = some x ∧ y = f x := by
  rw [List.getElem?_map] at h
  cases e : l[i]? with
  | none => rw [e] at h; cases h
  | some x => rw [e] at h; exact ⟨x, rfl, (Option.some.inj h).symm⟩
theorem all_true : ∀ n : Nat, (List.replicate n true).all id = true
  | 0 => rfl
  | n + 1 => by rw [List.replicate_succ, List.all_cons, all_true n]; rfl
theorem rep_bl (n : Nat) : List.replicate n (V.bl true) = (List.replicate n true).map V.bl := by rw [List.map_replicate]
theorem rep_next {α : Type} (n : Nat) (x : α) : List.replicate n x ++ [x] = List.replicate (n + 1) x := by rw [List.replicate_succ', ]
theorem tt_yes {σ : L2.St} {H : Hp} {A B : Hp → Prop} (h : A H) : tYes σ H (fun b H3 => if b = true then A H3 else B H3) := iteT (A := A H) (B := B H) h
theorem un65 {k : Nat} {A : Around} (r : Room k A) : A.units + 65 < cLine := by have := r.un; omega
theorem few1 {n : Nat} (h : n ≤ 1000) : n < sizeLine := small1000 h
/-! ### data of ints, tuples of these -/
theorem lay_ints : ∀ ns : List Int, PyData.canLayAll0 (ns.map PyData.int) = true
  | [] => by simp [PyData.canLayAll0]
  | n :: r => by simp [PyData.canLayAll0, PyData.canLay0, lay_ints r]
theorem dep_ints : ∀ ns : List Int, PyData.depthAll (ns.map PyData.int) = 0
  | [] => by simp [PyData.depthAll]
  | n :: r => by simp [PyData.depthAll, PyData.depth, dep_ints r]
theorem dI_lay (ns : List Int) : (dI ns).canLay0 = true := by simp only [dI, PyData.canLay0]; exact lay_ints ns
theorem dI_dep (ns : List Int) : (dI ns).depth = 1 := by simp only [dI, PyData.depth, dep_ints]
theorem lay_dI : ∀ ps : List (List Int), PyData.canLayAll0 (ps.map dI) = true
  | [] => by simp [PyData.canLayAll0]
  | n :: r => by simp [PyData.canLayAll0, dI_lay, lay_dI r]
theorem dep_dI : ∀ ps : List (List Int), PyData.depthAll (ps.map dI) ≤ 1
  | [] => by simp [PyData.depthAll]
  | n :: r => by
    have h := dep_dI r
    simp only [List.map_cons, PyData.depthAll, dI_dep]
    omega
theorem shapedI (ns : List Int) : SeqAt.shaped (dI ns) = true := by
  show ((dI ns).canLay0 && decide ((dI ns).depth ≤ 64)) = true
  rw [dI_lay, dI_dep]; rfl
theorem shapedTT (ps : List (List Int)) : SeqAt.shaped (dTT ps) = true := by
  have h := dep_dI ps
  have e : (dTT ps).depth ≤ 64 := by simp only [dTT, PyData.depth]; omega
  show ((dTT ps).canLay0 && decide ((dTT ps).depth ≤ 64)) = true
  rw [decide_eq_true e, Bool.and_true]
  simp only [dTT, PyData.canLay0]; exact lay_dI ps
theorem eqv_ints : ∀ ns ms : List Int, PyData.eqvAll (ns.map PyData.int) (ms.map PyData.int) = decide (ns = ms)
  | [], [] => by simp [PyData.eqvAll]
  | [], m :: r => by simp [PyData.eqvAll]
  | n :: r, [] => by simp [PyData.eqvAll]
  | n :: r, m :: q => by
    have h := eqv_ints r q
    simp only [List.map_cons, PyData.eqvAll, PyData.eqv, h]
    by_cases e : n = m
    · subst e; by_cases e2 : r = q <;> simp [e2]
    · simp [e]
theorem eqvI (ns ms : List Int) : PyData.eqv (dI ns) (dI ms) = decide (ns = ms) := by simp only [dI, PyData.eqv, eqv_ints]
theorem eqv_dIs : ∀ ns ms : List (List Int), PyData.eqvAll (ns.map dI) (ms.map dI) = decide (ns = ms)
  | [], [] => by simp [PyData.eqvAll]
  | [], m :: r => by simp [PyData.eqvAll]
  | n :: r, [] => by simp [PyData.eqvAll]
  | n :: r, m :: q => by
    have h := eqv_dIs r q
    simp only [List.map_cons, PyData.eqvAll, eqvI, h]
    by_cases e : n = m
    · subst e; by_cases e2 : r = q <;> simp [e2]
    · simp [e]
theorem eqvTT (ns ms : List (List Int)) : PyData.eqv (dTT ns) (dTT ms) = decide (ns = ms) := by simp only [dTT, PyData.eqv, eqv_dIs]
theorem any_dI (p : List Int) : ∀ ps : List (List Int), (ps.map dI).any (fun y => PyData.eqv y (dI p)) = decide (p ∈ ps)
  | [] => rfl
  | q :: r => by
    rw [List.map_cons, List.any_cons, any_dI p r, eqvI]
    by_cases e : q = p
    · subst e; simp
    · have e' : ¬ p = q := fun z => e z.symm
      by_cases e2 : p ∈ r <;> simp [e, e', e2]
section
variable {X : Cx}
/-- t in ts, of tuples of ints -/
def rInTs (K : PySem.W.Frag) : R2 := fun x y H Q => ∃ (a b : Addr) (p : List Int) (ps : List (List Int)), x = .ref a ∧ y = .ref b ∧ SqT K H a (p.map V.int) ∧ Tups K H b ps ∧ Q (.bl (decide (p ∈ ps))) H
theorem op_inTs (hu : X.A.units + 65 < cLine) : OpR X (compareOp .In) (rInTs X.K) := by
  intro pins s σ H x y v u Q I rx ry h
  obtain ⟨a, b, p, ps, rfl, rfl, h1, h2, q⟩ := h
  obtain ⟨as, r1⟩ := Dp.reads I (dI p) (.ref a) v (dpT h1) rx
  obtain ⟨bs, r2⟩ := Dp.reads I (dTT ps) (.ref b) u h2.dp ry
  refine SeqAt.in_tuple_reads (xs := ps.map dI) r2 r1 (lay_dI ps) (dI_lay p) ?_ ⟨.bl _, H, I, rfl, ?_⟩
  · have := Nat.min_le_right (PyData.depthAll (ps.map dI)) (dI p).depth
    have e := dI_dep p
    omega
  · rw [any_dI]; exact q
/-- two tuples of ints, two tuples of tuples of ints compared -/
def rEqI1 (K : PySem.W.Frag) : R2 := fun x y H Q => ∃ (a b : Addr) (p q : List Int), x = .ref a ∧ y = .ref b ∧ SqT K H a (p.map V.int) ∧ SqT K H b (q.map V.int) ∧ Q (.bl (decide (p = q))) H
def rEqTs (K : PySem.W.Frag) : R2 := fun x y H Q => ∃ (a b : Addr) (p q : List (List Int)), x = .ref a ∧ y = .ref b ∧ Tups K H a p ∧ Tups K H b q ∧ Q (.bl (decide (p = q))) H
theorem op_eqI1 (hu : X.A.units + 64 < cLine) : OpR X (compareOp .Eq) (rEqI1 X.K) := by
  intro pins s σ H x y v u Q I rx ry h
  obtain ⟨a, b, p, ps, rfl, rfl, h1, h2, q⟩ := h
  refine op_eqD hu pins s σ H _ _ v u Q I rx ry ⟨dI p, dI ps, dpT h1, dpT h2, shapedI p, shapedI ps, ?_⟩
  rw [eqvI]; exact q
theorem op_eqTs (hu : X.A.units + 64 < cLine) : OpR X (compareOp .Eq) (rEqTs X.K) := by
  intro pins s σ H x y v u Q I rx ry h
  obtain ⟨a, b, p, ps, rfl, rfl, h1, h2, q⟩ := h
  refine op_eqD hu pins s σ H _ _ v u Q I rx ry ⟨dTT p, dTT ps, h1.dp, h2.dp, shapedTT p, shapedTT ps, ?_⟩
  rw [eqvTT]; exact q
end
section
variable {X : Cx} {K : PySem.W.Frag}
/-! the rules whose reading names the written part, for a comprehension's block -/
theorem ix_tupK (h : X.K = K) : IxR X (rIxT K) := h ▸ ix_tup
theorem pg_tupK {es : List Expr} {k : Nat} {t : TGs} {n : Nat} {pos : Pos} (h : X.K = K) (hc : X.calm = true) (hg : PGs X es t)
    (hn : (assignEach es X.env).length = n := by rfl) (hst : (assignEach es X.env).findIdx? (·.1) = none := by rfl) : PG X (.Tuple es k pos) (gTup K n t) := h ▸ pg_tup hc hg hn hst
theorem op_inTsK (h : X.K = K) (hu : X.A.units + 65 < cLine) : OpR X (compareOp .In) (rInTs K) := h ▸ op_inTs hu
theorem op_ltTK (h : X.K = K) (hu : X.A.units < cLine) : OpR X (compareOp .Lt) (rLtT K) := h ▸ op_ltT hu
def rLenS (K : PySem.W.Frag) : List V → Hp → VK → Prop := fun xs H Q => ∃ p ys, xs = [.ref p] ∧ (SqL K H p ys ∨ SqT K H p ys) ∧ Q (.int ys.length) H
theorem call_lenK (h : X.K = K) : CallR X (.builtin "len") (rLenS K) := h ▸ call_len_seq
end
end RV
set_option maxHeartbeats 4000000
namespace K29
open PySem PySem.Spec PyProof.Rows L2 RV
/-! ### the text by places -/
def topS (i : Nat) : Stmt := PySem.Challenge.pw_ringvouch_k29_least_periods_and_turns.main.body.getD i (.Pass ⟨0, 0, 0, 0⟩)
abbrev sBorders : Stmt := topS 1
abbrev sLeastP : Stmt := topS 2
abbrev sLeastT : Stmt := topS 3
abbrev sHand : Stmt := topS 5
abbrev sDraw : Stmt := topS 6
abbrev sOf : Stmt := topS 7
abbrev sRow : Stmt := topS 8
abbrev sLPeriod : Stmt := topS 9
abbrev sRight : Stmt := topS 10
abbrev sLaw : Stmt := topS 11
/-- a def of the text as the top has left it -/
structure DefAt (K : PySem.W.Frag) (mg : Str → Option Value) (x : Str) (st : Stmt) (ps : List Str) (f : Addr) (fd : FuncData) : Prop where
  fn : Fun K x x st f fd
  bi : Binds K fd ps []
  mg : mg x = some (.ref f)
/-- the names that are the interpreter's own -/
structure Bare (mg : Str → Option Value) : Prop where
  len : mg "len" = none
  isinstance : mg "isinstance" = none
  int : mg "int" = none
  bool : mg "bool" = none
  tuple : mg "tuple" = none
  all : mg "all" = none
  enumerate : mg "enumerate" = none
  zip : mg "zip" = none
  range : mg "range" = none
  list : mg "list" = none
  set : mg "set" = none
  sorted : mg "sorted" = none
  abs : mg "abs" = none
  max : mg "max" = none
  min : mg "min" = none
  repr : mg "repr" = none
  dict : mg "dict" = none
end K29
set_option maxHeartbeats 4000000
namespace RV
open PySem PySem.Spec PyProof.Rows L2
theorem nx_step {i : Nat} {v : V} {σ : L2.St} {H : Hp} {G : L2.St → Hp → Prop} (h : G (σ.set i (some v)) H) : gName i v σ H G := h
theorem seq_mid {t1 t2 : TS} {D : Ends} {σ : L2.St} {H : Hp} (J : L2.St → Hp → Prop) (h2 : ∀ σ H, J σ H → t2 D σ H) (h1 : (∀ σ H, J σ H → t2 D σ H) → tSeq t1 t2 D σ H) : tSeq t1 t2 D σ H := h1 h2
section
variable {X : Cx} {K : PySem.W.Frag}
theorem op_notInDK (h : X.K = K) (hu : X.A.units + 65 < cLine) : OpR X (compareOp .NotIn) (rNotInD K) := h ▸ op_notInD hu
theorem pe_backTK {e : Expr} {te : TE} {k : Nat} {p1 p2 p3 pos : Pos} (h : X.K = K) (he : PE X e te) : PE X (.Subscript e (.Slice none none (some (.UnaryOp .USub (.Constant (.int 1) k p1) p2)) p3) pos) (tBackT K te) := h ▸ pe_backT he
end
section
variable {X : Cx} {K : PySem.W.Frag}
theorem op_inDK (h : X.K = K) (hu : X.A.units + 65 < cLine) : OpR X (compareOp .In) (rInD K) := h ▸ op_inD hu
theorem ix_listK (h : X.K = K) : IxR X (rIxL K) := h ▸ ix_list
end
theorem take_filt {α : Type} {c : α → Bool} {ks : List α} {k : α} {i : Nat} (g : ks[i]? = some k) : (ks.take (i + 1)).filter c = (ks.take i).filter c ++ (if c k = true then [k] else []) := by
  rw [List.take_add_one, g]
  show (ks.take i ++ [k]).filter c = _
  rw [List.filter_append]
  by_cases e : c k = true
  · rw [if_pos e]; simp [e]
  · rw [if_neg e]; simp [e]
section
variable {K : PySem.W.Frag} {tt : TT} {te : TE} {f : Int → Bool} {σ : L2.St} {H1 : Hp} {a D : Addr} {v : Nat} {ns : List Int} {Qd : Hp → Prop}
/-- [x for x in t if ..], t a tuple of ints -/
theorem lc_filtT (hT : SqT K H1 a (ns.map V.int)) (hl : ns.length ≤ 1000) (nD : H1 D = none)
    (htest : ∀ x ∈ ns, ∀ H', Same H1 H' → ∀ A B : Hp → Prop, (∀ H2, Same H' H2 → if f x = true then A H2 else B H2) → tt ((wipe σ [v]).set v (some (.int x))) H' (fun b H3 => if b = true then A H3 else B H3))
    (hte : ∀ (x : Int) (H' : Hp) (Q : VK), Q (.int x) H' → te ((wipe σ [v]).set v (some (.int x))) H' Q)
    (hd : ∀ H', Same H1 H' → H' D = some (.lst ((ns.filter f).map V.int)) → Qd H') :
    ∃ W : Nat → Nat → Hp → Prop, (∃ m, W 0 m (upd H1 D (.lst []))) ∧ ∀ i m H, W i m H →
      ((Itt K a).stop i H ∧ Qd H) ∨ ((Itt K a).go i H ∧ ∃ Nx : Hp → Prop, (∀ H', Nx H' → ∃ m', m' < m ∧ W (i + 1) m' H') ∧ ∀ x H', (Itt K a).yld i H x H' → gName v x (wipe σ [v]) H' fun σ2 H2 => wipe σ2 [v] = wipe σ [v] ∧ tt σ2 H2 fun b H3 =>
        if b = true then te σ2 H3 fun y H4 => ∃ acc, H4 D = some (.lst acc) ∧ acc.length < sizeLine ∧ Nx (upd H4 D (.lst (acc ++ [y]))) else Nx H3) := by
  refine lc_tup (K := K) (a := a) (xs := ns.map V.int) (fun i H' => Same H1 H' ∧ H' D = some (.lst (((ns.take i).filter f).map V.int))) ⟨same_upd nD, upd_same⟩ (fun i H' _ p => sqT_same p.1 hT) (fun i x H' hx p => ?_) fun H' p => ?_
  · obtain ⟨k, g, rfl⟩ := map_at hx
    refine ⟨by simp [wipe, List.set_set], htest k (List.mem_of_getElem? g) H' p.1 _ _ fun H2 s2 => ?_⟩
    have s12 := p.1.trans s2
    have e2 := s2 _ _ p.2
    by_cases e : f k = true
    · rw [if_pos e]
      refine hte k H2 _ ⟨_, e2, ?_, fun b o z => ?_, ?_⟩
      · rw [List.length_map]
        exact few1 (Nat.le_trans (List.length_filter_le _ _) (by rw [List.length_take]; omega))
      · rw [upd_ne (ne_of_none z nD)]; exact s12 b o z
      · rw [upd_same, take_filt g, if_pos e, List.map_append]; rfl
    · rw [if_neg e]
      exact ⟨s12, by rw [take_filt g, if_neg e, List.append_nil]; exact e2⟩
  · rw [List.length_map, List.take_of_length_le (Nat.le_refl _)] at p
    exact hd H' p.1 p.2
/-- [x for x in l if ..], l a list of ints -/
theorem lc_filtL (hT : SqL K H1 a (ns.map V.int)) (hl : ns.length ≤ 1000) (nD : H1 D = none)
    (htest : ∀ x ∈ ns, ∀ H', Same H1 H' → ∀ A B : Hp → Prop, (∀ H2, Same H' H2 → if f x = true then A H2 else B H2) → tt ((wipe σ [v]).set v (some (.int x))) H' (fun b H3 => if b = true then A H3 else B H3))
    (hte : ∀ (x : Int) (H' : Hp) (Q : VK), Q (.int x) H' → te ((wipe σ [v]).set v (some (.int x))) H' Q)
    (hd : ∀ H', Same H1 H' → H' D = some (.lst ((ns.filter f).map V.int)) → Qd H') :
    ∃ W : Nat → Nat → Hp → Prop, (∃ m, W 0 m (upd H1 D (.lst []))) ∧ ∀ i m H, W i m H →
      ((Itl K a).stop i H ∧ Qd H) ∨ ((Itl K a).go i H ∧ ∃ Nx : Hp → Prop, (∀ H', Nx H' → ∃ m', m' < m ∧ W (i + 1) m' H') ∧ ∀ x H', (Itl K a).yld i H x H' → gName v x (wipe σ [v]) H' fun σ2 H2 => wipe σ2 [v] = wipe σ [v] ∧ tt σ2 H2 fun b H3 =>
        if b = true then te σ2 H3 fun y H4 => ∃ acc, H4 D = some (.lst acc) ∧ acc.length < sizeLine ∧ Nx (upd H4 D (.lst (acc ++ [y]))) else Nx H3) := by
  refine lc_list (K := K) (a := a) (xs := ns.map V.int) (fun i H' => Same H1 H' ∧ H' D = some (.lst (((ns.take i).filter f).map V.int))) ⟨same_upd nD, upd_same⟩ (fun i H' _ p => sqL_same p.1 hT) (fun i x H' hx p => ?_) fun H' p => ?_
  · obtain ⟨k, g, rfl⟩ := map_at hx
    refine ⟨by simp [wipe, List.set_set], htest k (List.mem_of_getElem? g) H' p.1 _ _ fun H2 s2 => ?_⟩
    have s12 := p.1.trans s2
    have e2 := s2 _ _ p.2
    by_cases e : f k = true
    · rw [if_pos e]
      refine hte k H2 _ ⟨_, e2, ?_, fun b o z => ?_, ?_⟩
      · rw [List.length_map]
        exact few1 (Nat.le_trans (List.length_filter_le _ _) (by rw [List.length_take]; omega))
      · rw [upd_ne (ne_of_none z nD)]; exact s12 b o z
      · rw [upd_same, take_filt g, if_pos e, List.map_append]; rfl
    · rw [if_neg e]
      exact ⟨s12, by rw [take_filt g, if_neg e, List.append_nil]; exact e2⟩
  · rw [List.length_map, List.take_of_length_le (Nat.le_refl _)] at p
    exact hd H' p.1 p.2
end
/-! ### x in l, of ints -/
theorem dpL {K : PySem.W.Frag} {H : Hp} {a : Addr} {ns : List Int} (h : SqL K H a (ns.map V.int)) : Dp K H (.ref a) (.list (ns.map PyData.int)) := .lst h (dpInts ns)
theorem shapedLI (ns : List Int) : SeqAt.shaped (.list (ns.map PyData.int)) = true := by
  have h1 : (PyData.list (ns.map PyData.int)).canLay0 = true := by simp only [PyData.canLay0]; exact lay_ints ns
  have h2 : (PyData.list (ns.map PyData.int)).depth ≤ 64 := by simp only [PyData.depth, dep_ints]; omega
  show ((PyData.list (ns.map PyData.int)).canLay0 && decide ((PyData.list (ns.map PyData.int)).depth ≤ 64)) = true
  rw [h1, decide_eq_true h2]; rfl
theorem shapedN (n : Int) : SeqAt.shaped (.int n) = true := by
  show ((PyData.int n).canLay0 && decide ((PyData.int n).depth ≤ 64)) = true
  simp [PyData.canLay0, PyData.depth]
theorem any_int (x : Int) : ∀ ns : List Int, (ns.map PyData.int).any (fun y => PyData.eqv y (.int x)) = decide (x ∈ ns)
  | [] => rfl
  | n :: r => by
    rw [List.map_cons, List.any_cons, any_int x r]
    by_cases e : x = n
    · subst e; simp [PyData.eqv]
    · have e' : ¬ n = x := fun z => e z.symm
      by_cases e2 : x ∈ r <;> simp [PyData.eqv, e, e', e2]
section
variable {X : Cx}
/-- n in t, t a tuple of ints -/
def rInTI (K : PySem.W.Frag) : R2 := fun x y H Q => ∃ (b : Addr) (n : Int) (ns : List Int), x = .int n ∧ y = .ref b ∧ SqT K H b (ns.map V.int) ∧ Q (.bl (decide (n ∈ ns))) H
theorem op_inTI (hu : X.A.units + 65 < cLine) : OpR X (compareOp .In) (rInTI X.K) := by
  intro pins s σ H x y v u Q I rx ry h
  obtain ⟨b, n, ns, rfl, rfl, h2, q⟩ := h
  obtain ⟨as, r1⟩ := Dp.reads I (.int n) (.int n) v (.int n) rx
  obtain ⟨bs, r2⟩ := Dp.reads I (dI ns) (.ref b) u (dpT h2) ry
  refine SeqAt.in_tuple_reads (xs := ns.map PyData.int) r2 r1 (lay_ints ns) (by simp [PyData.canLay0]) ?_ ⟨.bl _, H, I, rfl, ?_⟩
  · have := Nat.min_le_right (PyData.depthAll (ns.map PyData.int)) (PyData.int n).depth
    have e : (PyData.int n).depth = 0 := by simp [PyData.depth]
    omega
  · rw [any_int]; exact q
theorem op_inTIK {K : PySem.W.Frag} (h : X.K = K) (hu : X.A.units + 65 < cLine) : OpR X (compareOp .In) (rInTI K) := h ▸ op_inTI hu
end
end RV
set_option maxHeartbeats 4000000
namespace K29
open PySem PySem.Spec PyProof.Rows L2 RV
/-- a pail of numbers stands at p, t have been mixed -/
def PailAt (H : Hp) (p : Addr) (t : Nat) : Prop := ∃ x y : Int, H p = some (.lst [.int x, .int y, .int (t : Int)]) ∧ 0 ≤ x ∧ 0 ≤ y ∧ y < 2305843009213693951
/-- all stands but what is at p -/
def But (p : Addr) (H H' : Hp) : Prop := ∀ c o, H c = some o → c ≠ p → H' c = some o
theorem But.refl (p : Addr) (H : Hp) : But p H H := fun _ _ e _ => e
theorem But.trans {p : Addr} {H H1 H2 : Hp} (a : But p H H1) (b : But p H1 H2) : But p H H2 := fun c o e z => b c o (a c o e z) z
theorem But.of {p : Addr} {H H' : Hp} (s : Same H H') : But p H H' := fun c o e _ => s c o e
theorem flag01 (b : Bool) : -(2 ^ 64) < (if b = true then (1 : Int) else 0) ∧ (if b = true then (1 : Int) else 0) < 2 ^ 64 := by cases b <;> decide
theorem mul_flag {x : Int} (h : 0 ≤ x) (b : Bool) : 0 ≤ x * (if b = true then (1 : Int) else 0) := by
  cases b
  · show 0 ≤ x * 0
    rw [Int.mul_zero]; exact Int.le_refl _
  · show 0 ≤ x * 1
    rw [Int.mul_one]; exact h
section
variable {P : Program} {w : World} {K : PySem.W.Frag} {mg : Str → Option Value} {base : Heap}
/-! ### _law_box -/
theorem scHand : FnScope ["_law_script", "_law_k", "_law_cell", "_law_mixed"] ["_law_script", "_law_k"] (defScope sHand) := ⟨rfl, rfl, rfl, by decide +kernel, rfl, by decide +kernel, by decide +kernel⟩
def spHand (K : PySem.W.Frag) : Sp := fun vs H Q _ => ∃ (a : Addr) (ns : List Int) (k : Nat), vs = [.ref a, .int (k : Int)] ∧ SqL K H a (ns.map V.int) ∧ k < 64 ∧ ∀ H' p, Same H H' → H p = none → PailAt H' p 0 → Q (.ref p) H'
theorem ok_hand {f : Addr} {fd : FuncData} (F : Fun K "_law_box" "_law_box" sHand f fd) (B : Bare mg) : FnOk P w K mg base CX0 1 f fd ["_law_script", "_law_k"] (spHand K) := by
  refine F.ok scHand (fun vs H Q E h => ?_) (fun cdv A outer s H vs Q E hr h => ?_)
  · obtain ⟨a, ns, k, rfl, _⟩ := h
    rfl
  · obtain ⟨a, ns, k, rfl, hS, hk, q⟩ := h
    refine ⟨_, pss_cons (ps_set (i := 2) scHand.nd rfl (Or.inl rfl) (pe_ifExp (pt_cmpR op_lt (pv 1) (pe_callB call_len_seq (by rfl) B.len PySem.boot_len (pa_cons (pv 0) pa_nil)) (nomark _)) (pe_ix ix_list (pv 0) (pv 1) (fun _ _ => rfl)) pe_int))
      (pss_cons (ps_set (i := 3) scHand.nd rfl (Or.inl rfl) (pe_op op_mod (pe_op op_mul (pe_op op_add (pe_op op_add (pe_op op_mod (pv 2) pe_int) (pe_op op_mul (pe_op op_mul pe_int (pv 1)) (pv 1))) pe_int) pe_int) pe_int))
      (pss_one (ps_ret (pe_lst (pa_cons (pe_ifExp (pt_cmpR op_ge (pe_callB call_abs (by rfl) B.abs (by decide +kernel) (pa_cons (pv 2) pa_nil)) (pe_op op_pow pe_int pe_int) (nomark _)) (pe_callB call_abs (by rfl) B.abs (by decide +kernel) (pa_cons (pv 2) pa_nil)) pe_int) (pa_cons (pv 3) (pa_cons pe_int pa_nil))))))), ?_⟩
    have tail : ∀ cell : Int, ∃ m : Int, m = ((cell % 2305843009213693951 + 7919 * (k : Int) * (k : Int) + 29) * 48271) % 2305843009213693921 ∧ 0 ≤ m ∧ m < 2305843009213693951 := fun cell => ⟨_, rfl, Int.emod_nonneg _ (by decide), by have := Int.emod_lt_of_pos ((cell % 2305843009213693951 + 7919 * (k : Int) * (k : Int) + 29) * 48271) (show (0 : Int) < 2305843009213693921 by decide); omega⟩
    have three : (3 : Nat) ≤ sizeLine := by decide
    refine ⟨.int (k : Int), rfl, .ref a, rfl, a, _, rfl, .inl hS, (k : Int), _, rfl, rfl, _, rfl, ite2 (fun hlt => ?_) (fun _ => ?_)⟩
    · have hkl : k < ns.length := by
        have z := of_decide_eq_true hlt
        rw [List.length_map] at z; omega
      refine ⟨.ref a, rfl, .int (k : Int), rfl, a, _, (k : Int), .int ns[k], rfl, rfl, hS, atI_nat (by rw [List.getElem?_map, List.getElem?_eq_getElem hkl]; rfl), ?_⟩
      generalize ns[k] = cell
      obtain ⟨m, em, m0, m1⟩ := tail cell
      refine ⟨.int cell, rfl, cell, 2305843009213693951, rfl, rfl, (show (0 : Int) < 2305843009213693951 by decide), .int (k : Int), rfl, 7919, (k : Int), rfl, rfl, .inl ⟨by decide, by decide⟩, .int (k : Int), rfl, _, (k : Int), rfl, rfl, .inr ⟨by omega, by omega⟩, _, _, rfl, rfl, _, 29, rfl, rfl, _, 48271, rfl, rfl, .inr ⟨by decide, by decide⟩, _, 2305843009213693921, rfl, rfl, (show (0 : Int) < 2305843009213693921 by decide), ?_⟩
      show gName 3 (V.int (((cell % 2305843009213693951 + 7919 * (k : Int) * (k : Int) + 29) * 48271) % 2305843009213693921)) _ _ _
      rw [← em]
      refine ⟨_, rfl, cell, rfl, 10, 18, rfl, rfl, ⟨by decide, by decide, by decide⟩, _, _, rfl, rfl, _, rfl, ite2 (fun _ => ?_) (fun _ => ?_)⟩
      · refine ⟨_, rfl, cell, rfl, .int m, rfl, three, fun p np => ?_⟩
        exact q _ p (same_upd np) np ⟨_, m, upd_same, by split <;> omega, m0, m1⟩
      · refine ⟨.int m, rfl, three, fun p np => ?_⟩
        exact q _ p (same_upd np) np ⟨0, m, upd_same, by omega, m0, m1⟩
    · obtain ⟨m, em, m0, m1⟩ := tail 0
      refine ⟨.int 0, rfl, 0, 2305843009213693951, rfl, rfl, (show (0 : Int) < 2305843009213693951 by decide), .int (k : Int), rfl, 7919, (k : Int), rfl, rfl, .inl ⟨by decide, by decide⟩, .int (k : Int), rfl, _, (k : Int), rfl, rfl, .inr ⟨by omega, by omega⟩, _, _, rfl, rfl, _, 29, rfl, rfl, _, 48271, rfl, rfl, .inr ⟨by decide, by decide⟩, _, 2305843009213693921, rfl, rfl, (show (0 : Int) < 2305843009213693921 by decide), ?_⟩
      show gName 3 (V.int (((0 % 2305843009213693951 + 7919 * (k : Int) * (k : Int) + 29) * 48271) % 2305843009213693921)) _ _ _
      rw [← em]
      refine ⟨_, rfl, 0, rfl, 10, 18, rfl, rfl, ⟨by decide, by decide, by decide⟩, _, _, rfl, rfl, _, rfl, ite2 (fun _ => ?_) (fun _ => ?_)⟩
      · refine ⟨_, rfl, 0, rfl, .int m, rfl, three, fun p np => ?_⟩
        exact q _ p (same_upd np) np ⟨_, m, upd_same, by split <;> omega, m0, m1⟩
      · refine ⟨.int m, rfl, three, fun p np => ?_⟩
        exact q _ p (same_upd np) np ⟨0, m, upd_same, by omega, m0, m1⟩
end
end K29
set_option maxHeartbeats 4000000
namespace K29
open PySem PySem.Spec PyProof.Rows L2 RV
section
variable {P : Program} {w : World} {K : PySem.W.Frag} {mg : Str → Option Value} {base : Heap}
/-! ### _law_take -/
theorem scDraw : FnScope ["_law_box_here", "_law_many", "_law_digit", "_law_mixed"] ["_law_box_here", "_law_many"] (defScope sDraw) := ⟨rfl, rfl, rfl, by decide +kernel, rfl, by decide +kernel, by decide +kernel⟩
def spDraw : Sp := fun vs H Q _ => ∃ (p : Addr) (t : Nat) (m : Int), vs = [.ref p, .int m] ∧ PailAt H p t ∧ t ≤ 40000 ∧ 1 ≤ m ∧ m ≤ 1000 ∧
  ∀ (r : Int) (t' : Nat) (H' : Hp), 0 ≤ r → r < m → t' ≤ t + 1 → PailAt H' p t' → But p H H' → Q (.int r) H'
theorem ok_draw {f : Addr} {fd : FuncData} (F : Fun K "_law_take" "_law_take" sDraw f fd) : FnOk P w K mg base CX0 1 f fd ["_law_box_here", "_law_many"] spDraw := by
  refine F.ok scDraw (fun vs H Q E h => ?_) (fun cdv A outer s H vs Q E hr h => ?_)
  · obtain ⟨p, t, m, rfl, _⟩ := h
    rfl
  · obtain ⟨p, t, m, rfl, ⟨x, y, hp, hx, hy0, hy1⟩, ht, hm1, hm2, q⟩ := h
    refine ⟨_, pss_cons (ps_if (pt_cmpR op_gt (pe_ix ix_list (pv 0) pe_int (fun _ _ => rfl)) pe_int (nomark _))
        (pss_cons (ps_set (i := 2) scDraw.nd rfl (Or.inl rfl) (pe_op op_mod (pe_ix ix_list (pv 0) pe_int (fun _ _ => rfl)) (pv 1)))
        (pss_cons (ps_asg (pe_op op_fdiv (pe_ix ix_list (pv 0) pe_int (fun _ _ => rfl)) (pv 1)) (pg_sub (pv 0) pe_int set_list))
        (pss_one (ps_ret (pv 2))))) pss_nil)
      (pss_cons (ps_asg (pe_op op_add (pe_ix ix_list (pv 0) pe_int (fun _ _ => rfl)) pe_int) (pg_sub (pv 0) pe_int set_list))
      (pss_cons (ps_set (i := 3) scDraw.nd rfl (Or.inl rfl) (pe_op op_mod (pe_op op_mul (pe_op op_add (pe_op op_add (pe_ix ix_list (pv 0) pe_int (fun _ _ => rfl)) (pe_op op_mul (pe_op op_mul pe_int (pe_ix ix_list (pv 0) pe_int (fun _ _ => rfl))) (pe_ix ix_list (pv 0) pe_int (fun _ _ => rfl)))) pe_int) pe_int) pe_int))
      (pss_cons (ps_set (i := 3) scDraw.nd rfl (Or.inl rfl) (pe_op op_mod (pe_op op_mul (pv 3) (pe_op op_add (pe_op op_mod (pv 3) pe_int) (pe_op op_mul pe_int (pe_ix ix_list (pv 0) pe_int (fun _ _ => rfl))))) pe_int))
      (pss_one (ps_ret (pe_op op_mod (pe_op op_add (pe_op op_fdiv (pv 3) pe_int) (pe_op op_fdiv (pv 3) pe_int)) (pv 1))))))), ?_⟩
    refine ⟨.ref p, rfl, p, _, 0, .int x, rfl, rfl, lstNew hp, rfl, x, 0, rfl, rfl, _, rfl, ite2 (fun hx0 => ?_) (fun _ => ?_)⟩
    · refine ⟨.ref p, rfl, p, _, 0, .int x, rfl, rfl, lstNew hp, rfl, .int m, rfl, x, m, rfl, rfl, (show 0 < m by omega), ?_⟩
      refine ⟨.ref p, rfl, p, _, 0, .int x, rfl, rfl, lstNew hp, rfl, .int m, rfl, x, m, rfl, rfl, ⟨by omega, by omega⟩, .ref p, rfl, p, _, 0, 0, rfl, rfl, hp, rfl, ?_⟩
      refine ⟨_, rfl, ?_⟩
      exact q (x % m) t _ (Int.emod_nonneg _ (by omega)) (Int.emod_lt_of_pos _ (by omega)) (by omega) ⟨x / m, y, upd_same, Int.ediv_nonneg hx (by omega), hy0, hy1⟩ fun c o e z => by rw [upd_ne z]; exact e
    · refine ⟨.ref p, rfl, p, _, 2, .int (t : Int), rfl, rfl, lstNew hp, rfl, (t : Int), 1, rfl, rfl, .ref p, rfl, p, _, 2, 2, rfl, rfl, hp, rfl, ?_⟩
      have hp2 : (upd H p (.lst [.int x, .int y, .int ((t : Int) + 1)])) p = some (.lst [.int x, .int y, .int ((t : Int) + 1)]) := upd_same
      have b1 : But p H (upd H p (.lst [.int x, .int y, .int ((t : Int) + 1)])) := fun c o e z => by rw [upd_ne z]; exact e
      refine ⟨.ref p, rfl, p, _, 1, .int y, rfl, rfl, lstNew hp2, rfl, .ref p, rfl, p, _, 2, .int ((t : Int) + 1), rfl, rfl, lstNew hp2, rfl, 65537, _, rfl, rfl, .inl ⟨by decide, by decide⟩, .ref p, rfl, p, _, 2, .int ((t : Int) + 1), rfl, rfl, lstNew hp2, rfl, _, _, rfl, rfl, .inl ⟨by omega, by omega⟩, y, _, rfl, rfl, _, 11, rfl, rfl, _, 48271, rfl, rfl, .inr ⟨by decide, by decide⟩, _, 2305843009213693921, rfl, rfl, (show (0 : Int) < 2305843009213693921 by decide), ?_⟩
      have z0 := Int.emod_nonneg ((y + 65537 * ((t : Int) + 1) * ((t : Int) + 1) + 11) * 48271) (show (2305843009213693921 : Int) ≠ 0 by decide)
      have z1 := Int.emod_lt_of_pos ((y + 65537 * ((t : Int) + 1) * ((t : Int) + 1) + 11) * 48271) (show (0 : Int) < 2305843009213693921 by decide)
      show gName 3 (V.int (((y + 65537 * ((t : Int) + 1) * ((t : Int) + 1) + 11) * 48271) % 2305843009213693921)) _ _ _
      generalize ((y + 65537 * ((t : Int) + 1) * ((t : Int) + 1) + 11) * 48271) % 2305843009213693921 = v at z0 z1 ⊢
      refine ⟨.int v, rfl, .int v, rfl, v, 1000003, rfl, rfl, (show (0 : Int) < 1000003 by decide), .ref p, rfl, p, _, 2, .int ((t : Int) + 1), rfl, rfl, lstNew hp2, rfl, 99991, _, rfl, rfl, .inl ⟨by decide, by decide⟩, _, _, rfl, rfl, v, _, rfl, rfl, .inl ⟨by omega, by omega⟩, _, 2305843009213693907, rfl, rfl, (show (0 : Int) < 2305843009213693907 by decide), ?_⟩
      refine ⟨_, rfl, _, 97, rfl, rfl, ⟨by decide, by decide⟩, _, rfl, _, 1000033, rfl, rfl, ⟨by decide, by decide⟩, _, _, rfl, rfl, .int m, rfl, _, m, rfl, rfl, (show 0 < m by omega), ?_⟩
      exact q _ (t + 1) _ (Int.emod_nonneg _ (by omega)) (Int.emod_lt_of_pos _ (by omega)) (Nat.le_refl _) ⟨x, y, hp2, hx, hy0, hy1⟩ b1
end
end K29
namespace RV
open PySem L2
/-! ### lists that rise -/
theorem sorted_eq {α : Type} {f : α → Int} : ∀ {l l' : List α}, l.Pairwise (fun a b => f a < f b) → l'.Pairwise (fun a b => f a < f b) → (∀ x, x ∈ l ↔ x ∈ l') → l = l'
  | [], [], _, _, _ => rfl
  | [], y :: r, _, _, h => nomatch (h y).mpr (List.mem_cons_self ..)
  | x :: r, [], _, _, h => nomatch (h x).mp (List.mem_cons_self ..)
  | x :: l, y :: l', h1, h2, h => by
    rw [List.pairwise_cons] at h1 h2
    have exy : x = y := by
      rcases List.mem_cons.mp ((h x).mp (List.mem_cons_self ..)) with e | e
      · exact e
      · rcases List.mem_cons.mp ((h y).mpr (List.mem_cons_self ..)) with e' | e'
        · exact e'.symm
        · have := h2.1 x e
          have := h1.1 y e'
          omega
    subst exy
    rw [sorted_eq h1.2 h2.2 fun z => ⟨fun hz => ?_, fun hz => ?_⟩]
    · rcases List.mem_cons.mp ((h z).mp (List.mem_cons_of_mem _ hz)) with e | e
      · have := h1.1 z hz
        rw [e] at this; omega
      · exact e
    · rcases List.mem_cons.mp ((h z).mpr (List.mem_cons_of_mem _ hz)) with e | e
      · have := h2.1 z hz
        rw [e] at this; omega
      · exact e
theorem nodup_le {α : Type} [DecidableEq α] : ∀ {l us : List α}, l.Nodup → (∀ x ∈ l, x ∈ us) → l.length ≤ us.length
  | [], _, _, _ => Nat.zero_le _
  | x :: l, us, h, hs => by
    rw [List.nodup_cons] at h
    have hx := hs x (List.mem_cons_self ..)
    have ih : l.length ≤ (us.erase x).length := nodup_le h.2 fun z hz => by
      refine (List.mem_erase_of_ne fun e => ?_).mpr (hs z (List.mem_cons_of_mem _ hz))
      subst e; exact h.1 hz
    have hl := List.length_erase_of_mem hx
    have hp : 0 < us.length := List.length_pos_of_mem hx
    rw [List.length_cons]; omega
/-! ### pairs -/
/-- a pair of marks below b -/
def Pr (b : Int) (p : List Int) : Prop := ∃ x y : Int, p = [x, y] ∧ (0 ≤ x ∧ x < b) ∧ (0 ≤ y ∧ y < b)
abbrev cd (p : List Int) : Int := TS.code 64 p
theorem cd_pair (x y : Int) : cd [x, y] = x * 64 + y := code_pair x y
theorem lt_lex {p q : List Int} (hp : Pr 64 p) (hq : Pr 64 q) (h : cd p < cd q) : HT.lexLt p q = true := by
  obtain ⟨x, y, rfl, hx, hy⟩ := hp
  obtain ⟨x', y', rfl, hx', hy'⟩ := hq
  rw [cd_pair, cd_pair] at h
  rw [HT.lexLt_cons, HT.lexLt_cons, HT.lexLt_nil_nil]
  by_cases e : x = x'
  · rw [if_pos e]
    have : y < y' := by omega
    rw [if_neg (by omega)]; exact decide_eq_true this
  · rw [if_neg e]; exact decide_eq_true (by omega)
theorem lt_of {p q : List Int} (hp : Pr 64 p) (hq : Pr 64 q) (h : cd p ≤ cd q) (ne : p ≠ q) : cd p < cd q := by
  obtain ⟨x, y, rfl, hx, hy⟩ := hp
  obtain ⟨x', y', rfl, hx', hy'⟩ := hq
  have z := pair_lt h ne hx hy hx' hy'
  rw [cd_pair, cd_pair]
  omega
theorem Pr.mono {b c : Int} {p : List Int} (h : Pr b p) (hbc : b ≤ c) : Pr c p := by
  obtain ⟨x, y, e, hx, hy⟩ := h
  exact ⟨x, y, e, by omega, by omega⟩
theorem sorted_lt {l : List (List Int)} (hb : ∀ p ∈ l, Pr 64 p) (nd : l.Nodup) (h : l.Pairwise fun p q => cd p ≤ cd q) : l.Pairwise fun p q => cd p < cd q := by
  have h2 := List.Pairwise.and h nd
  exact List.Pairwise.imp_of_mem (fun {p q} hp hq z => lt_of (hb p hp) (hb q hq) z.1 z.2) h2
theorem adj_rise {l : List (List Int)} (hb : ∀ p ∈ l, Pr 64 p) (h : l.Pairwise fun p q => cd p < cd q) (i : Nat) (p q : List Int) (h1 : l[i]? = some p) (h2 : l[i + 1]? = some q) : HT.lexLt p q = true := by
  obtain ⟨l1, e1⟩ := List.getElem?_eq_some_iff.mp h1
  obtain ⟨l2, e2⟩ := List.getElem?_eq_some_iff.mp h2
  have := List.pairwise_iff_getElem.mp h i (i + 1) l1 l2 (Nat.lt_succ_self _)
  rw [e1, e2] at this
  exact lt_lex (hb p (List.mem_of_getElem? h1)) (hb q (List.mem_of_getElem? h2)) this
/-! ### all pairs, row by row -/
def rowOf (d : Int) (Pd : Int → Int → Bool) (i n : Nat) : List (List Int) := ((List.range n).filter fun (j : Nat) => Pd (i : Int) (j : Int)).map fun (j : Nat) => [d + (i : Int), d + (j : Int)]
def gridOf (d : Int) (Pd : Int → Int → Bool) (m n : Nat) : List (List Int) := (List.range n).flatMap fun (i : Nat) => rowOf d Pd i m
theorem row_next (d : Int) (Pd : Int → Int → Bool) (i n : Nat) : rowOf d Pd i (n + 1) = rowOf d Pd i n ++ (if Pd (i : Int) (n : Int) = true then [[d + (i : Int), d + (n : Int)]] else []) := by
  unfold rowOf
  rw [List.range_succ, List.filter_append, List.map_append]
  by_cases h : Pd (i : Int) (n : Int) = true <;> simp [h]
theorem grid_next (d : Int) (Pd : Int → Int → Bool) (m n : Nat) : gridOf d Pd m (n + 1) = gridOf d Pd m n ++ rowOf d Pd n m := by
  unfold gridOf
  rw [List.range_succ, List.flatMap_append]; simp
theorem row_len (d : Int) (Pd : Int → Int → Bool) (i n : Nat) : (rowOf d Pd i n).length ≤ n := by
  unfold rowOf
  rw [List.length_map]
  exact Nat.le_trans (List.length_filter_le _ _) (by rw [List.length_range]; exact Nat.le_refl _)
theorem grid_len (d : Int) (Pd : Int → Int → Bool) (m : Nat) : ∀ n, (gridOf d Pd m n).length ≤ n * m
  | 0 => by simp [gridOf]
  | n + 1 => by
    have h := grid_len d Pd m n
    have h2 := row_len d Pd n m
    rw [grid_next, List.length_append, Nat.succ_mul]; omega
theorem mem_row {d : Int} {Pd : Int → Int → Bool} {i n : Nat} {p : List Int} : p ∈ rowOf d Pd i n ↔ ∃ j : Nat, j < n ∧ Pd (i : Int) (j : Int) = true ∧ p = [d + (i : Int), d + (j : Int)] := by
  unfold rowOf
  rw [List.mem_map]
  constructor
  · rintro ⟨j, hj, e⟩
    rw [List.mem_filter, List.mem_range] at hj
    exact ⟨j, hj.1, hj.2, e.symm⟩
  · rintro ⟨j, h1, h2, e⟩
    exact ⟨j, List.mem_filter.mpr ⟨List.mem_range.mpr h1, h2⟩, e.symm⟩
theorem mem_grid {d : Int} {Pd : Int → Int → Bool} {m n : Nat} {p : List Int} : p ∈ gridOf d Pd m n ↔ ∃ i j : Nat, i < n ∧ j < m ∧ Pd (i : Int) (j : Int) = true ∧ p = [d + (i : Int), d + (j : Int)] := by
  unfold gridOf
  rw [List.mem_flatMap]
  constructor
  · rintro ⟨i, hi, hp⟩
    obtain ⟨j, h1, h2, h3⟩ := mem_row.mp hp
    exact ⟨i, j, List.mem_range.mp hi, h1, h2, h3⟩
  · rintro ⟨i, j, h1, h2, h3, h4⟩
    exact ⟨i, List.mem_range.mpr h1, mem_row.mpr ⟨j, h2, h3, h4⟩⟩
theorem grid_rise {d : Int} {Pd : Int → Int → Bool} {m n : Nat} (hd : 0 ≤ d) (hm : d + (m : Int) ≤ 64) : (gridOf d Pd m n).Pairwise fun p q => cd p < cd q := by
  unfold gridOf
  rw [List.pairwise_flatMap]
  refine ⟨fun i _ => ?_, ?_⟩
  · unfold rowOf
    rw [List.pairwise_map]
    refine List.Pairwise.imp (fun {a b} (h : a < b) => ?_) (List.Pairwise.filter _ List.pairwise_lt_range)
    rw [cd_pair, cd_pair]; omega
  · refine List.Pairwise.imp (fun {a b} (h : a < b) x hx y hy => ?_) List.pairwise_lt_range
    obtain ⟨j, h1, _, rfl⟩ := mem_row.mp hx
    obtain ⟨k, h2, _, rfl⟩ := mem_row.mp hy
    rw [cd_pair, cd_pair]; omega
theorem grid_pr {d : Int} {Pd : Int → Int → Bool} {m n : Nat} {b : Int} (hd : 0 ≤ d) (hm : d + (m : Int) ≤ b) (hn : d + (n : Int) ≤ b) : ∀ p ∈ gridOf d Pd m n, Pr b p := by
  intro p hp
  obtain ⟨i, j, h1, h2, _, rfl⟩ := mem_grid.mp hp
  exact ⟨_, _, rfl, by omega, by omega⟩
end RV
namespace RV
open PySem L2
/-! ### who comes to whom by one step or more -/
inductive Rch (ps : List (List Int)) : Int → Int → Prop where
  | one {i j : Int} : [i, j] ∈ ps → Rch ps i j
  | more {i j k : Int} : Rch ps i j → [j, k] ∈ ps → Rch ps i k
theorem Rch.trans {ps : List (List Int)} {i j k : Int} (h : Rch ps i j) (g : Rch ps j k) : Rch ps i k := by
  induction g with
  | one e => exact .more h e
  | more _ e ih => exact .more ih e
theorem Rch.bound {ps : List (List Int)} {n : Int} (hb : ∀ p ∈ ps, Pr n p) {i j : Int} (h : Rch ps i j) : (0 ≤ i ∧ i < n) ∧ (0 ≤ j ∧ j < n) := by
  induction h with
  | one e =>
    obtain ⟨x, y, e2, hx, hy⟩ := hb _ e
    injection e2 with e3 e4
    injection e4 with e4 _
    subst e3 e4
    exact ⟨hx, hy⟩
  | more _ e ih =>
    obtain ⟨x, y, e2, hx, hy⟩ := hb _ e
    injection e2 with e3 e4
    injection e4 with e4 _
    subst e3 e4
    exact ⟨ih.1, hy⟩
/-- a lot that holds all right behind m and is closed -/
theorem rch_closed {ps : List (List Int)} {m : Int} {fs : List Int} (h1 : ∀ j, [m, j] ∈ ps → j ∈ fs) (h2 : ∀ x ∈ fs, ∀ j, [x, j] ∈ ps → j ∈ fs) {j : Int} (h : Rch ps m j) : j ∈ fs := by
  induction h with
  | one e => exact h1 _ e
  | more _ e ih => exact h2 _ ih _ e
noncomputable def rB (ps : List (List Int)) (i j : Int) : Bool := @decide (Rch ps i j) (Classical.propDecidable _)
theorem rB_iff {ps : List (List Int)} {i j : Int} : rB ps i j = true ↔ Rch ps i j := by
  unfold rB
  exact @decide_eq_true_iff _ (Classical.propDecidable _)
/-! ### numbers below n -/
def upN (n : Nat) : List Int := (List.range n).map fun (i : Nat) => (i : Int)
theorem upN_get {n k : Nat} (h : k < n) : (upN n)[k]? = some (k : Int) := by
  unfold upN
  rw [List.getElem?_map, List.getElem?_range h]; rfl
theorem upN_len (n : Nat) : (upN n).length = n := by unfold upN; rw [List.length_map, List.length_range]
theorem mem_upN {n : Nat} {x : Int} : x ∈ upN n ↔ 0 ≤ x ∧ x < (n : Int) := by
  unfold upN
  rw [List.mem_map]
  constructor
  · rintro ⟨k, hk, rfl⟩
    have := List.mem_range.mp hk
    omega
  · rintro ⟨h0, h1⟩
    exact ⟨x.toNat, List.mem_range.mpr (by omega), by omega⟩
theorem upN_rise (n : Nat) : (upN n).Pairwise (· < ·) := by
  unfold upN
  rw [List.pairwise_map]
  exact List.Pairwise.imp (fun {a b} (h : a < b) => by omega) List.pairwise_lt_range
/-! ### the lot of a mark -/
noncomputable def lotOf (ps : List (List Int)) (n : Nat) (m : Int) : List Int := (upN n).filter fun j => rB ps m j && rB ps j m
theorem mem_lot {ps : List (List Int)} {n : Nat} {m j : Int} : j ∈ lotOf ps n m ↔ (0 ≤ j ∧ j < (n : Int)) ∧ Rch ps m j ∧ Rch ps j m := by
  unfold lotOf
  rw [List.mem_filter, mem_upN, Bool.and_eq_true, rB_iff, rB_iff]
theorem lot_rise (ps : List (List Int)) (n : Nat) (m : Int) : (lotOf ps n m).Pairwise (· < ·) := (upN_rise n).filter _
theorem lot_len (ps : List (List Int)) (n : Nat) (m : Int) : (lotOf ps n m).length ≤ n := by
  have := List.length_filter_le (fun j => rB ps m j && rB ps j m) (upN n)
  rw [upN_len] at this
  exact this
theorem lot_eq {ps : List (List Int)} {n : Nat} {m j : Int} (h : j ∈ lotOf ps n m) : lotOf ps n j = lotOf ps n m := by
  obtain ⟨_, h1, h2⟩ := mem_lot.mp h
  unfold lotOf
  refine List.filter_congr fun x _ => ?_
  rw [Bool.eq_iff_iff, Bool.and_eq_true, Bool.and_eq_true, rB_iff, rB_iff, rB_iff, rB_iff]
  exact ⟨fun ⟨a, b⟩ => ⟨h1.trans a, b.trans h2⟩, fun ⟨a, b⟩ => ⟨h2.trans a, b.trans h1⟩⟩
theorem lot_self {ps : List (List Int)} {n : Nat} {m : Int} (hm : 0 ≤ m ∧ m < (n : Int)) (h : Rch ps m m) : m ∈ lotOf ps n m := mem_lot.mpr ⟨hm, h, h⟩
theorem lot_none {ps : List (List Int)} {n : Nat} {m : Int} (h : ¬ Rch ps m m) : lotOf ps n m = [] := by
  refine List.eq_nil_iff_forall_not_mem.mpr fun j hj => ?_
  obtain ⟨_, h1, h2⟩ := mem_lot.mp hj
  exact h (h1.trans h2)
theorem lot_some {ps : List (List Int)} {n : Nat} {m j : Int} (h : j ∈ lotOf ps n m) : Rch ps m m := by
  obtain ⟨_, h1, h2⟩ := mem_lot.mp h
  exact h1.trans h2
/-! ### the parts -/
noncomputable def isHead (ps : List (List Int)) (n : Nat) (m : Int) : Bool := decide ((lotOf ps n m).head? = some m)
noncomputable def partsOf (ps : List (List Int)) (n : Nat) : List (List Int) := ((upN n).filter (isHead ps n)).map (lotOf ps n)
theorem mem_parts {ps : List (List Int)} {n : Nat} {p : List Int} : p ∈ partsOf ps n ↔ ∃ m : Int, (0 ≤ m ∧ m < (n : Int)) ∧ (lotOf ps n m).head? = some m ∧ p = lotOf ps n m := by
  unfold partsOf isHead
  rw [List.mem_map]
  constructor
  · rintro ⟨m, hm, rfl⟩
    obtain ⟨h1, h2⟩ := List.mem_filter.mp hm
    exact ⟨m, mem_upN.mp h1, of_decide_eq_true h2, rfl⟩
  · rintro ⟨m, h1, h2, rfl⟩
    exact ⟨m, List.mem_filter.mpr ⟨mem_upN.mpr h1, decide_eq_true h2⟩, rfl⟩
theorem lot_part {ps : List (List Int)} {n : Nat} {m j : Int} (h : j ∈ lotOf ps n m) : lotOf ps n m ∈ partsOf ps n := by
  cases e : lotOf ps n m with
  | nil => rw [e] at h; cases h
  | cons x r =>
    have hx : x ∈ lotOf ps n m := by rw [e]; exact List.mem_cons_self ..
    have ex := lot_eq hx
    refine mem_parts.mpr ⟨x, (mem_lot.mp hx).1, ?_, ?_⟩
    · rw [ex, e]; rfl
    · rw [ex, e]
theorem part_ne {ps : List (List Int)} {n : Nat} {p : List Int} (h : p ∈ partsOf ps n) : p ≠ [] := by
  obtain ⟨m, _, h2, rfl⟩ := mem_parts.mp h
  intro e
  rw [e] at h2; cases h2
theorem part_lot {ps : List (List Int)} {n : Nat} {p : List Int} {x : Int} (h : p ∈ partsOf ps n) (hx : x ∈ p) : lotOf ps n x = p := by
  obtain ⟨m, _, _, rfl⟩ := mem_parts.mp h
  exact lot_eq hx
def hd0 (l : List Int) : Int := l.headD 0
theorem parts_rise (ps : List (List Int)) (n : Nat) : (partsOf ps n).Pairwise fun p q => hd0 p < hd0 q := by
  unfold partsOf
  rw [List.pairwise_map]
  refine List.Pairwise.imp_of_mem (fun {a b} ha hb (h : a < b) => ?_) ((upN_rise n).filter _)
  have ea : (lotOf ps n a).head? = some a := of_decide_eq_true (List.mem_filter.mp ha).2
  have eb : (lotOf ps n b).head? = some b := of_decide_eq_true (List.mem_filter.mp hb).2
  unfold hd0
  rw [List.headD_eq_head?_getD, List.headD_eq_head?_getD, ea, eb]
  exact h
theorem parts_nodup (ps : List (List Int)) (n : Nat) : (partsOf ps n).Nodup := (parts_rise ps n).imp fun {a b} h e => by rw [e] at h; omega
theorem parts_len (ps : List (List Int)) (n : Nat) : (partsOf ps n).length ≤ n := by
  unfold partsOf
  rw [List.length_map]
  have := List.length_filter_le (isHead ps n) (upN n)
  rw [upN_len] at this
  exact this
/-- of two lots unlike heads tell which is ahead -/
theorem part_hd {ps : List (List Int)} {n : Nat} {p q : List Int} (hp : p ∈ partsOf ps n) (hq : q ∈ partsOf ps n) (h : hd0 p = hd0 q) : p = q := by
  obtain ⟨a, _, ea, rfl⟩ := mem_parts.mp hp
  obtain ⟨b, _, eb, rfl⟩ := mem_parts.mp hq
  unfold hd0 at h
  rw [List.headD_eq_head?_getD, List.headD_eq_head?_getD, ea, eb] at h
  have h' : a = b := h
  rw [h']
/-! ### the table that is gone on with, mark by mark -/
def Wsh (ps : List (List Int)) : Nat → Int → Int → Prop
  | 0, i, j => [i, j] ∈ ps
  | k + 1, i, j => Wsh ps k i j ∨ (Wsh ps k i (k : Int) ∧ Wsh ps k (k : Int) j)
theorem Wsh.up {ps : List (List Int)} {i j : Int} (h : [i, j] ∈ ps) : ∀ k, Wsh ps k i j
  | 0 => h
  | k + 1 => .inl (Wsh.up h k)
theorem Wsh.rch {ps : List (List Int)} : ∀ {k : Nat} {i j : Int}, Wsh ps k i j → Rch ps i j
  | 0, _, _, h => .one h
  | k + 1, _, _, .inl h => Wsh.rch h
  | k + 1, _, _, .inr h => (Wsh.rch h.1).trans (Wsh.rch h.2)
theorem Wsh.amid {ps : List (List Int)} : ∀ (k : Nat) (m : Nat) (i j : Int), m < k → Wsh ps k i (m : Int) → Wsh ps k (m : Int) j → Wsh ps k i j
  | 0, _, _, _, h, _, _ => absurd h (Nat.not_lt_zero _)
  | k + 1, m, i, j, h, h1, h2 => by
    by_cases e : m = k
    · subst e
      have a1 : Wsh ps m i (m : Int) := h1.elim id fun z => z.1
      have a2 : Wsh ps m (m : Int) j := h2.elim id fun z => z.2
      exact .inr ⟨a1, a2⟩
    · have hm : m < k := by omega
      have T := fun i j => Wsh.amid (ps := ps) k m i j hm
      rcases h1 with h1 | ⟨p1, p2⟩
      · rcases h2 with h2 | ⟨q1, q2⟩
        · exact .inl (T _ _ h1 h2)
        · exact .inr ⟨T _ _ h1 q1, q2⟩
      · rcases h2 with h2 | ⟨q1, q2⟩
        · exact .inr ⟨p1, T _ _ p2 h2⟩
        · exact .inr ⟨p1, q2⟩
theorem rch_wsh {ps : List (List Int)} {n : Nat} (hb : ∀ p ∈ ps, Pr (n : Int) p) {i j : Int} (h : Rch ps i j) : Wsh ps n i j := by
  induction h with
  | one e => exact Wsh.up e n
  | @more j k _ e ih =>
    have b := (Rch.bound hb (.one e)).1
    have ej : j = ((j.toNat : Nat) : Int) := by omega
    rw [ej] at ih e
    exact Wsh.amid n j.toNat _ _ (by omega) ih (Wsh.up e n)
end RV
set_option maxHeartbeats 4000000
namespace RV
open PySem PySem.Spec PyProof.Rows L2
section
variable {K : PySem.W.Frag} {tt : TT} {te : TE} {f : Int → Bool} {σ : L2.St} {H1 : Hp} {D : Addr} {v n : Nat} {Qd : Hp → Prop}
/-- [x for x in range(n) if ..] -/
theorem lc_filtR (hl : n ≤ 1000) (nD : H1 D = none)
    (htest : ∀ x : Int, 0 ≤ x → x < (n : Int) → ∀ H', Same H1 H' → ∀ A B : Hp → Prop, (∀ H2, Same H' H2 → if f x = true then A H2 else B H2) → tt ((wipe σ [v]).set v (some (.int x))) H' (fun b H3 => if b = true then A H3 else B H3))
    (hte : ∀ (x : Int) (H' : Hp) (Q : VK), Q (.int x) H' → te ((wipe σ [v]).set v (some (.int x))) H' Q)
    (hd : ∀ H', Same H1 H' → H' D = some (.lst (((upN n).filter f).map V.int)) → Qd H') :
    ∃ W : Nat → Nat → Hp → Prop, (∃ m, W 0 m (upd H1 D (.lst []))) ∧ ∀ i m H, W i m H →
      ((Itr 0 n).stop i H ∧ Qd H) ∨ ((Itr 0 n).go i H ∧ ∃ Nx : Hp → Prop, (∀ H', Nx H' → ∃ m', m' < m ∧ W (i + 1) m' H') ∧ ∀ x H', (Itr 0 n).yld i H x H' → gName v x (wipe σ [v]) H' fun σ2 H2 => wipe σ2 [v] = wipe σ [v] ∧ tt σ2 H2 fun b H3 =>
        if b = true then te σ2 H3 fun y H4 => ∃ acc, H4 D = some (.lst acc) ∧ acc.length < sizeLine ∧ Nx (upd H4 D (.lst (acc ++ [y]))) else Nx H3) := by
  refine lc_range (lo := 0) (n := n) (fun i H' => Same H1 H' ∧ H' D = some (.lst ((((upN n).take i).filter f).map V.int))) ⟨same_upd nD, upd_same⟩ (fun i H' hi p => ?_) fun H' p => ?_
  · have g : (upN n)[i]? = some (i : Int) := upN_get hi
    rw [Int.zero_add]
    refine ⟨by simp [wipe, List.set_set], htest (i : Int) (by omega) (by omega) H' p.1 _ _ fun H2 s2 => ?_⟩
    have s12 := p.1.trans s2
    have e2 := s2 _ _ p.2
    by_cases e : f (i : Int) = true
    · rw [if_pos e]
      refine hte _ H2 _ ⟨_, e2, ?_, fun b o z => ?_, ?_⟩
      · rw [List.length_map]
        exact few1 (Nat.le_trans (List.length_filter_le _ _) (by rw [List.length_take, upN_len]; omega))
      · rw [upd_ne (ne_of_none z nD)]; exact s12 b o z
      · rw [upd_same, take_filt g, if_pos e, List.map_append]; rfl
    · rw [if_neg e]
      exact ⟨s12, by rw [take_filt g, if_neg e, List.append_nil]; exact e2⟩
  · rw [List.take_of_length_le (by rw [upN_len]; exact Nat.le_refl _)] at p
    exact hd H' p.1 p.2
end
end RV
set_option maxHeartbeats 4000000
namespace RV
open PySem PySem.Spec PyProof.Rows L2
def fromN (lo : Int) (n : Nat) : List Int := (List.range n).map fun (i : Nat) => lo + (i : Int)
theorem fromN_get {lo : Int} {n k : Nat} (h : k < n) : (fromN lo n)[k]? = some (lo + (k : Int)) := by
  unfold fromN
  rw [List.getElem?_map, List.getElem?_range h]; rfl
theorem fromN_len (lo : Int) (n : Nat) : (fromN lo n).length = n := by unfold fromN; rw [List.length_map, List.length_range]
theorem mem_fromN {lo : Int} {n : Nat} {x : Int} : x ∈ fromN lo n ↔ lo ≤ x ∧ x < lo + (n : Int) := by
  unfold fromN
  rw [List.mem_map]
  constructor
  · rintro ⟨k, hk, rfl⟩
    have := List.mem_range.mp hk
    omega
  · rintro ⟨h0, h1⟩
    exact ⟨(x - lo).toNat, List.mem_range.mpr (by omega), by omega⟩
theorem pe_weakR {X : Cx} {e : Expr} {t t' : TE} (h : PE X e t) (imp : ∀ σ H Q, t' σ H Q → t σ H Q) : PE X e t' := ⟨fun pins s σ H Q I q => h.run pins s σ H Q I (imp σ H Q q)⟩
section
variable {X : Cx} {K : PySem.W.Frag}
theorem cr_allK (h : X.K = K) (hc : X.calm = true) : CallR X (.builtin "all") (rAll K) := h ▸ cr_all hc
theorem pi_listK {tg l : Expr} {tl : TE} (h : X.K = K) (hl : PE X l tl) : PI X tg l (iList K tl) := h ▸ pi_list hl
theorem pi_tupK {tg l : Expr} {tl : TE} (h : X.K = K) (hl : PE X l tl) : PI X tg l (iTup K tl) := h ▸ pi_tup hl
end
section
variable {K : PySem.W.Frag} {tt : TT} {te : TE} {f : Int → Bool} {h : Int → Int} {σ : L2.St} {H1 : Hp} {D : Addr} {v n : Nat} {lo : Int} {Qd : Hp → Prop}
/-- [h(x) for x in range(lo, ..) if f(x)] -/
theorem lc_mapR (hl : n ≤ 1000) (nD : H1 D = none)
    (htest : ∀ x ∈ fromN lo n, ∀ H', Same H1 H' → ∀ A B : Hp → Prop, (∀ H2, Same H' H2 → if f x = true then A H2 else B H2) → tt ((wipe σ [v]).set v (some (.int x))) H' (fun b H3 => if b = true then A H3 else B H3))
    (hte : ∀ x ∈ fromN lo n, ∀ (H' : Hp) (Q : VK), Same H1 H' → f x = true → (∀ H2, Same H' H2 → Q (.int (h x)) H2) → te ((wipe σ [v]).set v (some (.int x))) H' Q)
    (hd : ∀ H', Same H1 H' → H' D = some (.lst ((((fromN lo n).filter f).map h).map V.int)) → Qd H') :
    ∃ W : Nat → Nat → Hp → Prop, (∃ m, W 0 m (upd H1 D (.lst []))) ∧ ∀ i m H, W i m H →
      ((Itr lo n).stop i H ∧ Qd H) ∨ ((Itr lo n).go i H ∧ ∃ Nx : Hp → Prop, (∀ H', Nx H' → ∃ m', m' < m ∧ W (i + 1) m' H') ∧ ∀ x H', (Itr lo n).yld i H x H' → gName v x (wipe σ [v]) H' fun σ2 H2 => wipe σ2 [v] = wipe σ [v] ∧ tt σ2 H2 fun b H3 =>
        if b = true then te σ2 H3 fun y H4 => ∃ acc, H4 D = some (.lst acc) ∧ acc.length < sizeLine ∧ Nx (upd H4 D (.lst (acc ++ [y]))) else Nx H3) := by
  refine lc_range (lo := lo) (n := n) (fun i H' => Same H1 H' ∧ H' D = some (.lst (((((fromN lo n).take i).filter f).map h).map V.int))) ⟨same_upd nD, upd_same⟩ (fun i H' hi p => ?_) fun H' p => ?_
  · have g : (fromN lo n)[i]? = some (lo + (i : Int)) := fromN_get hi
    have hm := List.mem_of_getElem? g
    refine ⟨by simp [wipe, List.set_set], htest _ hm H' p.1 _ _ fun H2 s2 => ?_⟩
    have s12 := p.1.trans s2
    have e2 := s2 _ _ p.2
    by_cases e : f (lo + (i : Int)) = true
    · rw [if_pos e]
      refine hte _ hm H2 _ s12 e fun H3 s3 => ⟨_, s3 _ _ e2, ?_, fun b o z => ?_, ?_⟩
      · rw [List.length_map, List.length_map]
        exact few1 (Nat.le_trans (List.length_filter_le _ _) (by rw [List.length_take, fromN_len]; omega))
      · rw [upd_ne (ne_of_none z nD)]; exact s3 _ _ (s12 b o z)
      · rw [upd_same, take_filt g, if_pos e, List.map_append, List.map_append]; rfl
    · rw [if_neg e]
      exact ⟨s12, by rw [take_filt g, if_neg e, List.append_nil]; exact e2⟩
  · rw [List.take_of_length_le (by rw [fromN_len]; exact Nat.le_refl _)] at p
    exact hd H' p.1 p.2
end
/-- [c(x) for x in l] of truths, l a list of ints -/
theorem lc_blL {K : PySem.W.Frag} {te : TE} {c : Int → Bool} {σ : L2.St} {H1 : Hp} {a D : Addr} {v : Nat} {ns : List Int} {Qd : Hp → Prop} (hT : SqL K H1 a (ns.map V.int)) (hl : ns.length ≤ 1000) (nD : H1 D = none)
    (hte : ∀ x ∈ ns, ∀ (H' : Hp) (Q : VK), Same H1 H' → Q (.bl (c x)) H' → te ((wipe σ [v]).set v (some (.int x))) H' Q)
    (hd : ∀ H', Same H1 H' → H' D = some (.lst ((ns.map c).map V.bl)) → Qd H') :
    ∃ W : Nat → Nat → Hp → Prop, (∃ m, W 0 m (upd H1 D (.lst []))) ∧ ∀ i m H, W i m H →
      ((Itl K a).stop i H ∧ Qd H) ∨ ((Itl K a).go i H ∧ ∃ Nx : Hp → Prop, (∀ H', Nx H' → ∃ m', m' < m ∧ W (i + 1) m' H') ∧ ∀ x H', (Itl K a).yld i H x H' → gName v x (wipe σ [v]) H' fun σ2 H2 => wipe σ2 [v] = wipe σ [v] ∧ tYes σ2 H2 fun b H3 =>
        if b = true then te σ2 H3 fun y H4 => ∃ acc, H4 D = some (.lst acc) ∧ acc.length < sizeLine ∧ Nx (upd H4 D (.lst (acc ++ [y]))) else Nx H3) := by
  refine lc_list (K := K) (a := a) (xs := ns.map V.int) (fun i H' => Same H1 H' ∧ H' D = some (.lst (((ns.take i).map c).map V.bl))) ⟨same_upd nD, upd_same⟩ (fun i H' _ p => sqL_same p.1 hT) (fun i x H' hx p => ?_) fun H' p => ?_
  · obtain ⟨k, g, rfl⟩ := map_at hx
    refine ⟨by simp [wipe, List.set_set], tt_yes (hte k (List.mem_of_getElem? g) H' _ p.1 ⟨_, p.2, ?_, fun b o z => ?_, ?_⟩)⟩
    · rw [List.length_map, List.length_map, List.length_take]; exact few1 (by omega)
    · rw [upd_ne (ne_of_none z nD)]; exact p.1 b o z
    · rw [upd_same, List.take_add_one, g, List.map_append, List.map_append]; rfl
  · rw [List.length_map, List.take_of_length_le (Nat.le_refl _)] at p
    exact hd H' p.1 p.2
end RV
set_option maxHeartbeats 4000000
namespace RV
open PySem PySem.Spec PyProof.Rows L2
section
variable {X : Cx} {K : PySem.W.Frag}
/-- t + u of any two tuples, wherever the sum stands -/
def rCatW (K : PySem.W.Frag) : R2 := fun x y H Q => ∃ a b xs ys, x = .ref a ∧ y = .ref b ∧ SqT K H a xs ∧ SqT K H b ys ∧ xs.length + ys.length ≤ sizeLine ∧ ∀ (p : Addr) (H' : Hp), Same H H' → SqT K H' p (xs ++ ys) → Q (.ref p) H'
theorem op_catW : OpR X (binaryOp .Add) (rCatW X.K) := by
  intro pins s σ H x y v u Q I rx ry h
  obtain ⟨a, b, xs, ys, e1, e2, h1, h2, hl, q⟩ := h
  refine op_catA pins s σ H x y v u Q I rx ry ⟨a, b, xs, ys, e1, e2, h1, h2, hl, fun z => ?_, fun _ z => ?_, fun _ _ p np => ?_⟩
  · exact q b H (fun _ _ e => e) (by rw [z]; exact h2)
  · exact q a H (fun _ _ e => e) (by rw [z, List.append_nil]; exact h1)
  · exact q p _ (same_upd np) (tupNew upd_same)
theorem op_catWK (h : X.K = K) : OpR X (binaryOp .Add) (rCatW K) := h ▸ op_catW
/-- t[lo:hi], wherever the slice stands -/
def rSlW (K : PySem.W.Frag) : V → Option Int → Option Int → Hp → VK → Prop := fun x lo hi H Q => ∃ a xs, x = .ref a ∧ SqT K H a xs ∧ ∀ (p : Addr) (H' : Hp), Same H H' → SqT K H' p (cutV xs lo hi) → Q (.ref p) H'
theorem sl_tupW : SlR X (rSlW X.K) := by
  intro pins s σ H x v vl vu lo hi sl Q I rx hs pl pu h
  obtain ⟨a, xs, e, h1, q⟩ := h
  refine sl_tupA pins s σ H x v vl vu lo hi sl Q I rx hs pl pu ⟨a, xs, e, h1, fun z => ?_, fun _ p np => ?_⟩
  · refine q a H (fun _ _ e => e) ?_
    unfold cutV
    rw [z.1, z.2, List.drop_zero, Nat.sub_zero, List.take_of_length_le (Nat.le_refl _)]
    exact h1
  · exact q p _ (same_upd np) (tupNew upd_same)
theorem sl_tupWK (h : X.K = K) : SlR X (rSlW K) := h ▸ sl_tupW
theorem cut_from (xs : List V) (k : Nat) : cutV xs (some (k : Int)) none = xs.drop k := by
  unfold cutV
  rw [HT.sIx_nat, HT.sIx_none]
  rcases Nat.le_total k xs.length with h | h
  · rw [Nat.min_eq_left h, List.take_of_length_le (by rw [List.length_drop]; exact Nat.le_refl _)]
  · rw [Nat.min_eq_right h, Nat.sub_self, List.take_zero, List.drop_eq_nil_of_le h]
theorem cut_to (xs : List V) (k : Nat) : cutV xs none (some (k : Int)) = xs.take k := by
  unfold cutV
  rw [HT.sIx_nat, HT.sIx_none, List.drop_zero, Nat.sub_zero]
  rcases Nat.le_total k xs.length with h | h
  · rw [Nat.min_eq_left h]
  · rw [Nat.min_eq_right h, List.take_of_length_le (Nat.le_refl _), List.take_of_length_le h]
theorem tuple_mul1 (l : Addr) (items : Array Value) (n : Nat) (dd : Option Addr) (sl : Array (Option Value)) (x : Int) (u : Tok) (c0 : (decide (x < -(2 ^ 63)) || decide (x ≥ 2 ^ 63)) = false) (c1 : (items.isEmpty || x == 1) = true) :
    Meets (Builtin.«tuple.__mul__» ⟨[.ref l, .int x u], []⟩) (fun _ R s => s.heap.get? l = some { cls := .type "tuple", dict := dd, data := .seq items n, slots := sl } ∧ R (.ok (.ret (Value.ref l))) s) :=
  .of_wp fun prog w A R s h => by
    obtain ⟨hp, g, d, tk, os⟩ := s
    obtain ⟨hl, h⟩ := h
    have f1 := AutoSeq1.idx_int
    wp_walk using wpAny_loadPart' hl
    repeat (first
      | (refine wpAny_ite_false (decide_eq_false (by rw [c0]; exact Bool.false_ne_true)) ?_; wp_walk using wpAny_loadPart' hl)
      | (refine wpAny_ite_true (decide_eq_true (by rw [c1])) ?_; wp_walk using wpAny_loadPart' hl))
    exact ⟨_, rfl, h⟩
theorem tuple_mul0 (l : Addr) (items : Array Value) (n : Nat) (dd : Option Addr) (sl : Array (Option Value)) (x : Int) (u : Tok) (c0 : (decide (x < -(2 ^ 63)) || decide (x ≥ 2 ^ 63)) = false) (c1 : (items.isEmpty || x == 1) = false) (c2 : (decide (x ≤ 0) || items.isEmpty) = true) :
    Meets (Builtin.«tuple.__mul__» ⟨[.ref l, .int x u], []⟩) (fun _ R s => s.heap.get? l = some { cls := .type "tuple", dict := dd, data := .seq items n, slots := sl } ∧ R (.ok (.ret (Value.ref s.heap.objs.size))) { s with heap := s.heap.push { cls := Value.type "tuple", data := Data.seq #[] }, toks := s.toks }) :=
  .of_wp fun prog w A R s h => by
    obtain ⟨hp, g, d, tk, os⟩ := s
    obtain ⟨hl, h⟩ := h
    have f1 := AutoSeq1.idx_int
    wp_walk using wpAny_loadPart' hl
    repeat (first
      | (refine wpAny_ite_false (decide_eq_false (by rw [c0]; exact Bool.false_ne_true)) ?_; wp_walk using wpAny_loadPart' hl)
      | (refine wpAny_ite_false (decide_eq_false (by rw [c1]; exact Bool.false_ne_true)) ?_; wp_walk using wpAny_loadPart' hl)
      | (refine wpAny_ite_true (decide_eq_true (by rw [c2])) ?_; wp_walk using wpAny_loadPart' hl))
    exact ⟨_, rfl, h⟩
/-- t * k, k from 0 on -/
def rRepW (K : PySem.W.Frag) : R2 := fun x y H Q => ∃ l k xs, x = .ref l ∧ y = .int k ∧ SqT K H l xs ∧ 0 ≤ k ∧ k ≤ 1000 ∧ xs.length ≤ 1000 ∧ ∀ (p : Addr) (H' : Hp), Same H H' → SqT K H' p (List.replicate k.toNat xs).flatten → Q (.ref p) H'
theorem flat_nil : ∀ m : Nat, (List.replicate m ([] : List V)).flatten = []
  | 0 => rfl
  | m + 1 => by rw [List.replicate_succ, List.flatten_cons, flat_nil m]; rfl
theorem op_repW : OpR X (binaryOp .Mult) (rRepW X.K) := by
  intro pins s σ H x y v u Q I rx ry h
  obtain ⟨l, k, xs, rfl, rfl, hT, h0, h1, hz, q⟩ := h
  by_cases hbig : xs ≠ [] ∧ 2 ≤ k
  · exact op_repT pins s σ H _ _ v u Q I rx ry ⟨l, k, xs, rfl, rfl, hT, hbig.1, hbig.2, h1, hz, fun p np => q p _ (same_upd np) (tupNew upd_same)⟩
  cases rx
  obtain ⟨t, rfl⟩ := ry
  obtain ⟨its, r, ⟨⟨cls, dd, data, sl⟩, ho, hc, n, hd⟩, hs⟩ := I.tuple hT
  simp only at hc hd
  subst hc hd
  have hle : its.length = xs.length := r.length.symm
  have c0 : (decide (k < -(2 ^ 63)) || decide (k ≥ 2 ^ 63)) = false := by
    rw [decide_eq_false (by omega), decide_eq_false (by omega)] <;> rfl
  by_cases e1 : xs = [] ∨ k = 1
  · have c1 : (its.toArray.isEmpty || k == 1) = true := by
      rcases e1 with e | e
      · have : its = [] := List.eq_nil_of_length_eq_zero (by rw [hle, e]; rfl)
        rw [this]; rfl
      · rw [e]; simp
    refine wpAny_binaryOp_repeat_ref (T := "tuple") (U := "int") (by decide) ⟨_, ho, rfl⟩ (fun s' => typeIs_int s' k t) noFill_tuple_mul F.fills_int_mul F.slot_int_rmul repeat_tuple F.slot_int_index.lookup
      (call_meets F.slot_int_rmul (typeIs_int s k t) F.entry_int_rmul (F.args_int_rmul_2 _ _) (int_rmul_tuple k t l its.toArray n dd sl)
        ⟨ho, rfl, ⟨_, ho, rfl⟩, call_meets F.slot_tuple_mul ⟨_, ho, rfl⟩ F.entry_tuple_mul (F.args_tuple_mul_2 _ _) (tuple_mul1 l its.toArray n dd sl k t c0 c1) ⟨ho, ?_⟩⟩)
    refine ⟨.ref l, H, I, rfl, q l H (fun _ _ e => e) ?_⟩
    rcases e1 with e | e
    · subst e; rw [flat_nil]; exact hT
    · subst e
      show SqT X.K H l ([xs].flatten)
      rw [List.flatten_cons, List.flatten_nil, List.append_nil]; exact hT
  · have e2 : xs ≠ [] := fun e => e1 (.inl e)
    have e3 : k = 0 := by
      rcases Int.lt_or_le k 2 with z | z
      · have : k ≠ 1 := fun e => e1 (.inr e)
        omega
      · exact absurd ⟨e2, z⟩ hbig
    have hi : its.toArray.isEmpty = false := by
      cases its with
      | nil => exact absurd (List.eq_nil_of_length_eq_zero hle.symm) e2
      | cons a b => rfl
    have c1 : (its.toArray.isEmpty || k == 1) = false := by
      rw [hi, e3]; rfl
    have c2 : (decide (k ≤ 0) || its.toArray.isEmpty) = true := by
      rw [e3]; rfl
    refine wpAny_binaryOp_repeat_ref (T := "tuple") (U := "int") (by decide) ⟨_, ho, rfl⟩ (fun s' => typeIs_int s' k t) noFill_tuple_mul F.fills_int_mul F.slot_int_rmul repeat_tuple F.slot_int_index.lookup
      (call_meets F.slot_int_rmul (typeIs_int s k t) F.entry_int_rmul (F.args_int_rmul_2 _ _) (int_rmul_tuple k t l its.toArray n dd sl)
        ⟨ho, rfl, ⟨_, ho, rfl⟩, call_meets F.slot_tuple_mul ⟨_, ho, rfl⟩ F.entry_tuple_mul (F.args_tuple_mul_2 _ _) (tuple_mul0 l its.toArray n dd sl k t c0 c1 c2) ⟨ho, ?_⟩⟩)
    refine ⟨.ref s.heap.objs.size, _, I.laid (t' := s.toks) (o := .tup []) (fun b ob q => Heap.get?_push_of_some _ q) (Nat.le_refl _) ?_, rfl, q _ _ (same_upd (I.hok.fresh (Nat.le_refl _))) (by rw [e3]; exact tupNew upd_same)⟩
    exact ⟨Nat.zero_le _, [], .nil, IsTup.new _ _⟩
theorem op_eqI1K (h : X.K = K) (hu : X.A.units + 64 < cLine) : OpR X (compareOp .Eq) (rEqI1 K) := h ▸ op_eqI1 hu
theorem op_repWK (h : X.K = K) : OpR X (binaryOp .Mult) (rRepW K) := h ▸ op_repW
end
/-- [h(x) for x in t], t a tuple of ints -/
theorem lc_mapT {K : PySem.W.Frag} {te : TE} {h : Int → Int} {σ : L2.St} {H1 : Hp} {a D : Addr} {v : Nat} {ns : List Int} {Qd : Hp → Prop} (hT : SqT K H1 a (ns.map V.int)) (hl : ns.length ≤ 1000) (nD : H1 D = none)
    (hte : ∀ x ∈ ns, ∀ (H' : Hp) (Q : VK), Same H1 H' → (∀ H2, Same H' H2 → Q (.int (h x)) H2) → te ((wipe σ [v]).set v (some (.int x))) H' Q)
    (hd : ∀ H', Same H1 H' → H' D = some (.lst ((ns.map h).map V.int)) → Qd H') :
    ∃ W : Nat → Nat → Hp → Prop, (∃ m, W 0 m (upd H1 D (.lst []))) ∧ ∀ i m H, W i m H →
      ((Itt K a).stop i H ∧ Qd H) ∨ ((Itt K a).go i H ∧ ∃ Nx : Hp → Prop, (∀ H', Nx H' → ∃ m', m' < m ∧ W (i + 1) m' H') ∧ ∀ x H', (Itt K a).yld i H x H' → gName v x (wipe σ [v]) H' fun σ2 H2 => wipe σ2 [v] = wipe σ [v] ∧ tYes σ2 H2 fun b H3 =>
        if b = true then te σ2 H3 fun y H4 => ∃ acc, H4 D = some (.lst acc) ∧ acc.length < sizeLine ∧ Nx (upd H4 D (.lst (acc ++ [y]))) else Nx H3) := by
  refine lc_tup (K := K) (a := a) (xs := ns.map V.int) (fun i H' => Same H1 H' ∧ H' D = some (.lst (((ns.take i).map h).map V.int))) ⟨same_upd nD, upd_same⟩ (fun i H' _ p => sqT_same p.1 hT) (fun i x H' hx p => ?_) fun H' p => ?_
  · obtain ⟨k, g, rfl⟩ := map_at hx
    refine ⟨by simp [wipe, List.set_set], tt_yes (hte k (List.mem_of_getElem? g) H' _ p.1 fun H2 s2 => ⟨_, s2 _ _ p.2, ?_, fun b o z => ?_, ?_⟩)⟩
    · rw [List.length_map, List.length_map, List.length_take]; exact few1 (by omega)
    · rw [upd_ne (ne_of_none z nD)]; exact s2 _ _ (p.1 b o z)
    · rw [upd_same, List.take_add_one, g, List.map_append, List.map_append]; rfl
  · rw [List.length_map, List.take_of_length_le (Nat.le_refl _)] at p
    exact hd H' p.1 p.2
end RV
set_option maxHeartbeats 4000000
namespace RV
open PySem PySem.Spec PyProof.Rows L2
theorem walk_revT {K : PySem.W.Frag} {a : Addr} {xs : List V} : Walk (RT.ItvT K a xs.length) xs.length (fun H => SqT K H a xs) (YAt xs.reverse) := by
  refine ⟨fun i H hi g => ⟨hi, xs, xs[xs.length - 1 - i], g, List.getElem?_eq_getElem (by omega)⟩, fun H _ => Nat.le_refl _, fun i H x H' hi g y => ⟨y.1, ?_⟩⟩
  rw [List.getElem?_reverse hi]
  exact y.2 xs g
/-- [h(x) for x in reversed(t)], t a tuple of ints -/
theorem lc_mapRev {K : PySem.W.Frag} {te : TE} {h : Int → Int} {σ : L2.St} {H1 : Hp} {a D : Addr} {v : Nat} {ns : List Int} {Qd : Hp → Prop} (hT : SqT K H1 a (ns.map V.int)) (hl : ns.length ≤ 1000) (nD : H1 D = none)
    (hte : ∀ x ∈ ns, ∀ (H' : Hp) (Q : VK), Same H1 H' → (∀ H2, Same H' H2 → Q (.int (h x)) H2) → te ((wipe σ [v]).set v (some (.int x))) H' Q)
    (hd : ∀ H', Same H1 H' → H' D = some (.lst ((ns.reverse.map h).map V.int)) → Qd H') :
    ∃ W : Nat → Nat → Hp → Prop, (∃ m, W 0 m (upd H1 D (.lst []))) ∧ ∀ i m H, W i m H →
      ((RT.ItvT K a (ns.map V.int).length).stop i H ∧ Qd H) ∨ ((RT.ItvT K a (ns.map V.int).length).go i H ∧ ∃ Nx : Hp → Prop, (∀ H', Nx H' → ∃ m', m' < m ∧ W (i + 1) m' H') ∧ ∀ x H', (RT.ItvT K a (ns.map V.int).length).yld i H x H' → gName v x (wipe σ [v]) H' fun σ2 H2 => wipe σ2 [v] = wipe σ [v] ∧ tYes σ2 H2 fun b H3 =>
        if b = true then te σ2 H3 fun y H4 => ∃ acc, H4 D = some (.lst acc) ∧ acc.length < sizeLine ∧ Nx (upd H4 D (.lst (acc ++ [y]))) else Nx H3) := by
  refine lc_it walk_revT (fun i H' => Same H1 H' ∧ H' D = some (.lst (((ns.reverse.take i).map h).map V.int))) ⟨same_upd nD, upd_same⟩ (fun i H' _ p => sqT_same p.1 hT) (fun i x Hx H' hx p y => ?_) fun H' p => ?_
  · obtain ⟨rfl, hx⟩ := y
    rw [← List.map_reverse] at hx
    obtain ⟨k, g, rfl⟩ := map_at hx
    refine ⟨by simp [wipe, List.set_set], tt_yes (hte k (List.mem_reverse.mp (List.mem_of_getElem? g)) H' _ p.1 fun H2 s2 => ⟨_, s2 _ _ p.2, ?_, fun b o z => ?_, ?_⟩)⟩
    · rw [List.length_map, List.length_map, List.length_take, List.length_reverse]; exact few1 (by omega)
    · rw [upd_ne (ne_of_none z nD)]; exact s2 _ _ (p.1 b o z)
    · rw [upd_same, List.take_add_one, g, List.map_append, List.map_append]; rfl
  · rw [List.length_map, List.take_of_length_le (by rw [List.length_reverse]; exact Nat.le_refl _)] at p
    exact hd H' p.1 p.2
/-- [c(x) for x in range(n)] of truths -/
theorem lc_blR {te : TE} {c : Int → Bool} {σ : L2.St} {H1 : Hp} {D : Addr} {v n : Nat} {Qd : Hp → Prop} (hl : n ≤ 1000) (nD : H1 D = none)
    (hte : ∀ x : Int, 0 ≤ x → x < (n : Int) → ∀ (H' : Hp) (Q : VK), Same H1 H' → (∀ H2, Same H' H2 → Q (.bl (c x)) H2) → te ((wipe σ [v]).set v (some (.int x))) H' Q)
    (hd : ∀ H', Same H1 H' → H' D = some (.lst (((upN n).map c).map V.bl)) → Qd H') :
    ∃ W : Nat → Nat → Hp → Prop, (∃ m, W 0 m (upd H1 D (.lst []))) ∧ ∀ i m H, W i m H →
      ((Itr 0 n).stop i H ∧ Qd H) ∨ ((Itr 0 n).go i H ∧ ∃ Nx : Hp → Prop, (∀ H', Nx H' → ∃ m', m' < m ∧ W (i + 1) m' H') ∧ ∀ x H', (Itr 0 n).yld i H x H' → gName v x (wipe σ [v]) H' fun σ2 H2 => wipe σ2 [v] = wipe σ [v] ∧ tYes σ2 H2 fun b H3 =>
        if b = true then te σ2 H3 fun y H4 => ∃ acc, H4 D = some (.lst acc) ∧ acc.length < sizeLine ∧ Nx (upd H4 D (.lst (acc ++ [y]))) else Nx H3) := by
  refine lc_range (lo := 0) (n := n) (fun i H' => Same H1 H' ∧ H' D = some (.lst ((((upN n).take i).map c).map V.bl))) ⟨same_upd nD, upd_same⟩ (fun i H' hi p => ?_) fun H' p => ?_
  · have g : (upN n)[i]? = some (i : Int) := upN_get hi
    rw [Int.zero_add]
    refine ⟨by simp [wipe, List.set_set], tt_yes (hte (i : Int) (by omega) (by omega) H' _ p.1 fun H2 s2 => ⟨_, s2 _ _ p.2, ?_, fun b o z => ?_, ?_⟩)⟩
    · rw [List.length_map, List.length_map, List.length_take, upN_len]; exact few1 (by omega)
    · rw [upd_ne (ne_of_none z nD)]; exact s2 _ _ (p.1 b o z)
    · rw [upd_same, List.take_add_one, g, List.map_append, List.map_append]; rfl
  · rw [List.take_of_length_le (by rw [upN_len]; exact Nat.le_refl _)] at p
    exact hd H' p.1 p.2
theorem decV (a b : Int) : decide (V.int a = V.int b) = decide (a = b) := by
  by_cases h : a = b
  · rw [h, decide_eq_true rfl, decide_eq_true rfl]
  · rw [decide_eq_false h, decide_eq_false fun z => h (V.int.inj z)]
end RV
set_option maxHeartbeats 4000000
namespace K29
open PySem PySem.Spec PyProof.Rows L2 RV
/-! ### what a draw leaves -/
theorem sqT_pail {K : PySem.W.Frag} {H H' : Hp} {p : Addr} {t : Nat} (hp : PailAt H p t) (b : But p H H') {a : Addr} {xs : List V} (h : SqT K H a xs) : SqT K H' a xs := by
  obtain ⟨x, y, e, _⟩ := hp
  rcases h with (h | ⟨o, h⟩) | h
  · exact .inl (.inl (b _ _ h fun z => by rw [z, e] at h; cases h))
  · exact .inl (.inr ⟨o, b _ _ h fun z => by rw [z, e] at h; cases h⟩)
  · exact .inr h
theorem sqL_but {K : PySem.W.Frag} {H H' : Hp} {p a : Addr} (b : But p H H') (n : a ≠ p) {xs : List V} (h : SqL K H a xs) : SqL K H' a xs := by
  rcases h with (h | ⟨o, h⟩) | h
  · exact .inl (.inl (b _ _ h n))
  · exact .inl (.inr ⟨o, b _ _ h n⟩)
  · exact .inr h
theorem same_but {p : Addr} {H H1 H2 : Hp} (s : Same H H1) (n : H p = none) (b : But p H1 H2) : Same H H2 := fun c o e => b c o (s c o e) (ne_of_none e n)
theorem pail_same {p : Addr} {H H' : Hp} {t : Nat} (h : PailAt H p t) (s : Same H H') : PailAt H' p t := by
  obtain ⟨x, y, e, r⟩ := h
  exact ⟨x, y, s _ _ e, r⟩
theorem pail_new {p a : Addr} {H : Hp} {o : HO} {t : Nat} (h : PailAt H p t) (n : H a = none) : PailAt (upd H a o) p t := pail_same h (same_upd n)
theorem pail_set {p l : Addr} {H : Hp} {o : HO} {t : Nat} (h : PailAt H p t) (n : l ≠ p) : PailAt (upd H l o) p t := by
  obtain ⟨x, y, e, r⟩ := h
  exact ⟨x, y, by rw [upd_ne n.symm]; exact e, r⟩
theorem pail_ne {p a : Addr} {H : Hp} {t : Nat} (h : PailAt H p t) (n : H a = none) : a ≠ p := by
  obtain ⟨x, y, e, r⟩ := h
  exact (ne_of_none e n).symm
theorem sqT_lst {K : PySem.W.Frag} {H : Hp} {D : Addr} {vs : List V} {o' : HO} (e : H D = some (.lst vs)) {a : Addr} {xs : List V} (h : SqT K H a xs) : SqT K (upd H D o') a xs := by
  rcases h with (h | ⟨o, h⟩) | h
  · exact .inl (.inl (by rw [upd_ne (fun z => by rw [z, e] at h; cases h)]; exact h))
  · exact .inl (.inr ⟨o, by rw [upd_ne (fun z => by rw [z, e] at h; cases h)]; exact h⟩)
  · exact .inr h
theorem but_free {p a : Addr} {H H' : Hp} {t : Nat} (b : But p H H') (hp : PailAt H' p t) (n : H' a = none) : H a = none := by
  cases e : H a with
  | none => rfl
  | some o =>
    have z := b a o e (pail_ne hp n)
    rw [n] at z; cases z
/-- marks below n -/
def Rg (n : Nat) (xs : List Int) : Prop := ∀ x ∈ xs, 0 ≤ x ∧ x < (n : Int)
theorem Rg.app {n : Nat} {xs ys : List Int} (h : Rg n xs) (h' : Rg n ys) : Rg n (xs ++ ys) := fun x hx => (List.mem_append.mp hx).elim (h x) (h' x)
theorem Rg.sub {n : Nat} {xs ys : List Int} (h : Rg n xs) (s : ∀ y ∈ ys, y ∈ xs) : Rg n ys := fun y hy => h y (s y hy)
theorem Rg.nil {n : Nat} : Rg n [] := fun _ h => nomatch h
theorem Rg.one {n : Nat} {x : Int} (h : 0 ≤ x ∧ x < (n : Int)) : Rg n [x] := fun y hy => by rw [List.mem_singleton.mp hy]; exact h
theorem Rg.mono {n m : Nat} {xs : List Int} (h : Rg n xs) (l : n ≤ m) : Rg m xs := fun x hx => by have := h x hx; omega
theorem flat_map (xs : List Int) (k : Nat) : (List.replicate k (xs.map V.int)).flatten = ((List.replicate k xs).flatten).map V.int := by
  rw [List.map_flatten, List.map_replicate]
theorem flat_mem {xs : List Int} {k : Nat} {y : Int} (h : y ∈ (List.replicate k xs).flatten) : y ∈ xs := by
  obtain ⟨l', hl', hy'⟩ := List.mem_flatten.mp h
  rw [List.eq_of_mem_replicate hl'] at hy'; exact hy'
theorem flat_len (xs : List Int) (k : Nat) : (List.replicate k xs).flatten.length = k * xs.length := by rw [List.length_flatten, List.map_replicate, List.sum_replicate_nat]
/-- [take(box, m) for turn in range(n)] -/
theorem lc_draws {K : PySem.W.Frag} {te : TE} {σ : L2.St} {H1 : Hp} {p D : Addr} {v n m t : Nat} {Qd : Hp → Prop} (hn : n ≤ 900) (hp : PailAt H1 p t) (nD : H1 D = none)
    (hte : ∀ (x : Int) (H' : Hp) (t' : Nat) (Q : VK), PailAt H' p t' → t' ≤ t + n → (∀ (r : Int) (t'' : Nat) (H'' : Hp), 0 ≤ r → r < (m : Int) → t'' ≤ t' + 1 → PailAt H'' p t'' → But p H' H'' → Q (.int r) H'') → te ((wipe σ [v]).set v (some (.int x))) H' Q)
    (hd : ∀ (H' : Hp) (t' : Nat) (xs : List Int), But p H1 H' → PailAt H' p t' → t' ≤ t + n → H' D = some (.lst (xs.map V.int)) → xs.length = n → Rg m xs → Qd H') :
    ∃ W : Nat → Nat → Hp → Prop, (∃ m, W 0 m (upd H1 D (.lst []))) ∧ ∀ i m H, W i m H →
      ((Itr 0 n).stop i H ∧ Qd H) ∨ ((Itr 0 n).go i H ∧ ∃ Nx : Hp → Prop, (∀ H', Nx H' → ∃ m', m' < m ∧ W (i + 1) m' H') ∧ ∀ x H', (Itr 0 n).yld i H x H' → gName v x (wipe σ [v]) H' fun σ2 H2 => wipe σ2 [v] = wipe σ [v] ∧ tYes σ2 H2 fun b H3 =>
        if b = true then te σ2 H3 fun y H4 => ∃ acc, H4 D = some (.lst acc) ∧ acc.length < sizeLine ∧ Nx (upd H4 D (.lst (acc ++ [y]))) else Nx H3) := by
  have hDp := pail_ne hp nD
  refine lc_range (lo := 0) (n := n) (fun i H' => ∃ (t' : Nat) (xs : List Int), But p H1 H' ∧ PailAt H' p t' ∧ t' ≤ t + i ∧ H' D = some (.lst (xs.map V.int)) ∧ xs.length = i ∧ Rg m xs)
    ⟨t, [], But.of (same_upd nD), pail_same hp (same_upd nD), by omega, upd_same, rfl, .nil⟩ (fun i H' hi h => ?_) fun H2 h => ?_
  · obtain ⟨t', xs, b', hp', ht', eD, hx, hR⟩ := h
    refine ⟨by simp [wipe, List.set_set], tt_yes (hte _ H' t' _ hp' (by omega) fun r t2 H2 r0 r1 ht2 hp2 b2 => ?_)⟩
    have eD2 := b2 _ _ eD hDp
    refine ⟨_, eD2, by rw [List.length_map]; exact few1 (by omega), t2, xs ++ [r], fun c o e w => ?_, pail_set hp2 hDp, by omega, ?_, by rw [List.length_append]; simp [hx], hR.app (Rg.one ⟨r0, r1⟩)⟩
    · rw [upd_ne (ne_of_none e nD)]; exact (b'.trans b2) c o e w
    · rw [upd_same, List.map_append]; rfl
  · obtain ⟨t', xs, b', hp', ht', eD, hx, hR⟩ := h
    exact hd H2 t' xs b' hp' ht' eD hx hR
section
variable {P : Program} {w : World} {K : PySem.W.Frag} {mg : Str → Option Value} {base : Heap}
/-! ### _law_of -/
theorem scOf : FnScope ["_law_box_here", "_law_some"] ["_law_box_here", "_law_some"] (defScope sOf) := ⟨rfl, rfl, rfl, by decide +kernel, rfl, by decide +kernel, by decide +kernel⟩
def spOf (K : PySem.W.Frag) : Sp := fun vs H Q _ => ∃ (p a : Addr) (t : Nat) (xs : List V), vs = [.ref p, .ref a] ∧ PailAt H p t ∧ t ≤ 40000 ∧ SqL K H a xs ∧ a ≠ p ∧ 0 < xs.length ∧ xs.length ≤ 1000 ∧
  ∀ (j : Nat) (v : V) (t' : Nat) (H' : Hp), xs[j]? = some v → t' ≤ t + 1 → PailAt H' p t' → But p H H' → Q v H'
theorem ok_of {f fD : Addr} {fd fdD : FuncData} (F : Fun K "_law_of" "_law_of" sOf f fd) (DD : DefAt K mg "_law_take" sDraw ["_law_box_here", "_law_many"] fD fdD) (B : Bare mg) : FnOk P w K mg base CX0 2 f fd ["_law_box_here", "_law_some"] (spOf K) := by
  have GD : FnOk P w K mg base CX0 1 fD fdD ["_law_box_here", "_law_many"] spDraw := ok_draw DD.fn
  refine F.ok scOf (fun vs H Q E h => ?_) (fun cdv A outer s H vs Q E hr h => ?_)
  · obtain ⟨p, a, t, xs, rfl, _⟩ := h
    rfl
  · obtain ⟨p, a, t, xs, rfl, hp, ht, hS, hne, h0, h1, q⟩ := h
    refine ⟨_, pss_one (ps_ret (pe_ix ix_list (pv 1) (pe_call GD hr (by rfl) DD.mg DD.fn.kp DD.bi .nil pass0 (pa_cons (pv 0) (pa_cons (pe_callB call_len_seq (by rfl) B.len PySem.boot_len (pa_cons (pv 1) pa_nil)) pa_nil))) (fun _ _ => rfl))), ?_⟩
    refine ⟨.ref a, rfl, .ref p, rfl, .ref a, rfl, a, xs, rfl, .inl hS, p, t, (xs.length : Int), rfl, hp, ht, by omega, by omega, fun r t1 H1 r0 r1 ht1 hp1 b1 => ?_⟩
    obtain ⟨v, hv⟩ : ∃ v, xs[r.toNat]? = some v := ⟨_, List.getElem?_eq_getElem (by omega)⟩
    refine ⟨a, xs, r, v, rfl, rfl, sqL_but b1 hne hS, ?_, q r.toNat v t1 H1 hv ht1 hp1 b1⟩
    rw [show r = ((r.toNat : Nat) : Int) by omega]
    exact atI_nat hv
end
end K29
set_option maxHeartbeats 4000000
/-! borders and periods of a row of ints -/
namespace RV
def ga (ms : List Int) (i : Nat) : Int := ms.getD i 0
/-- the first m of the first k are the last m of these, m less than k -/
def Bor (ms : List Int) (k m : Nat) : Prop := m < k ∧ ∀ j, j < m → ga ms j = ga ms (k - m + j)
/-- the greatest of these -/
def IsB (ms : List Int) (k m : Nat) : Prop := Bor ms k m ∧ ∀ m', Bor ms k m' → m' ≤ m
theorem bor0 (ms : List Int) {k : Nat} (h : 0 < k) : Bor ms k 0 := ⟨h, fun j hj => absurd hj (Nat.not_lt_zero _)⟩
theorem isB1 (ms : List Int) : IsB ms 1 0 := ⟨bor0 ms (by decide), fun m h => by have := h.1; omega⟩
theorem Bor.trans {ms : List Int} {k m l : Nat} (h : Bor ms k m) (h' : Bor ms m l) : Bor ms k l := by
  refine ⟨by have := h.1; have := h'.1; omega, fun j hj => ?_⟩
  have a1 := h.1
  have a2 := h'.1
  rw [h'.2 j hj, h.2 (m - l + j) (by omega)]
  congr 1; omega
theorem Bor.less {ms : List Int} {k m l : Nat} (h : Bor ms k m) (h' : Bor ms k l) (hl : l < m) : Bor ms m l := by
  refine ⟨hl, fun j hj => ?_⟩
  have a1 := h.1
  rw [h'.2 j hj, h.2 (m - l + j) (by omega)]
  congr 1; omega
theorem Bor.more {ms : List Int} {k m : Nat} (h : Bor ms k m) (e : ga ms m = ga ms k) : Bor ms (k + 1) (m + 1) := by
  have a1 := h.1
  refine ⟨by omega, fun j hj => ?_⟩
  rcases Nat.lt_or_ge j m with z | z
  · rw [h.2 j z]; congr 1; omega
  · have : j = m := by omega
    subst this
    rw [e]; congr 1; omega
theorem Bor.back {ms : List Int} {k m : Nat} (h : Bor ms (k + 1) (m + 1)) : Bor ms k m ∧ ga ms m = ga ms k := by
  have a1 := h.1
  refine ⟨⟨by omega, fun j hj => ?_⟩, ?_⟩
  · rw [h.2 j (by omega)]; congr 1; omega
  · rw [h.2 m (by omega)]; congr 1; omega
/-- what the inner loop keeps -/
def Wh (ms : List Int) (k m : Nat) : Prop := Bor ms k m ∧ ∀ m', Bor ms k m' → ga ms m' = ga ms k → m' ≤ m
theorem IsB.wh {ms : List Int} {k m : Nat} (h : IsB ms k m) : Wh ms k m := ⟨h.1, fun m' b _ => h.2 m' b⟩
theorem Wh.step {ms : List Int} {k m b : Nat} (h : Wh ms k m) (ne : ga ms m ≠ ga ms k) (hb : IsB ms m b) : Wh ms k b := by
  refine ⟨h.1.trans hb.1, fun m' b' e => ?_⟩
  have l := h.2 m' b' e
  have : m' ≠ m := fun z => ne (by rw [← z]; exact e)
  exact hb.2 m' (h.1.less b' (by omega))
theorem Wh.found {ms : List Int} {k m : Nat} (h : Wh ms k m) (e : ga ms m = ga ms k) : IsB ms (k + 1) (m + 1) := by
  refine ⟨h.1.more e, fun l hl => ?_⟩
  cases l with
  | zero => omega
  | succ l => have z := hl.back; have := h.2 l z.1 z.2; omega
theorem Wh.none {ms : List Int} {k : Nat} (h : Wh ms k 0) (ne : ga ms 0 ≠ ga ms k) : IsB ms (k + 1) 0 := by
  refine ⟨bor0 ms (by omega), fun l hl => ?_⟩
  cases l with
  | zero => omega
  | succ l =>
    have z := hl.back
    have y := h.2 l z.1 z.2
    have : l = 0 := by omega
    subst this
    exact absurd z.2 ne
/-- p is a period of the row -/
def Per (ms : List Int) (p : Nat) : Prop := ∀ j, j + p < ms.length → ga ms j = ga ms (j + p)
theorem per_bor {ms : List Int} {p : Nat} (h1 : 1 ≤ p) (h2 : p ≤ ms.length) : Per ms p ↔ Bor ms ms.length (ms.length - p) := by
  constructor
  · intro h
    refine ⟨by omega, fun j hj => ?_⟩
    rw [h j (by omega)]; congr 1; omega
  · intro h j hj
    rw [h.2 j (by omega)]; congr 1; omega
theorem ga_some {ms : List Int} {i : Nat} (h : i < ms.length) : ms[i]? = some (ga ms i) := by
  unfold ga
  rw [List.getElem?_eq_getElem h]; simp [List.getD, h]
theorem per_eq {ms : List Int} {p : Nat} : ms.drop p = ms.take (ms.length - p) ↔ Per ms p := by
  constructor
  · intro h j hj
    have z := congrArg (fun l : List Int => l[j]?) h
    have z : (ms.drop p)[j]? = (ms.take (ms.length - p))[j]? := z
    rw [List.getElem?_drop, List.getElem?_take, if_pos (by omega), ga_some (by omega), ga_some (by omega)] at z
    rw [Nat.add_comm j p]
    exact (Option.some.inj z).symm
  · intro h
    refine List.ext_getElem? fun j => ?_
    rw [List.getElem?_drop, List.getElem?_take]
    by_cases hj : j < ms.length - p
    · rw [if_pos hj, ga_some (by omega), ga_some (by omega), h j (by omega), Nat.add_comm j p]
    · rw [if_neg hj, List.getElem?_eq_none (by omega)]
/-- some number from 1 to k is a period -/
def tameB (ms : List Int) (k : Nat) : Bool := (fromN 1 k).any fun p => decide (ms.drop p.toNat = ms.take (ms.length - p.toNat))
theorem tame_iff {ms : List Int} {k : Nat} : tameB ms k = true ↔ ∃ p, 1 ≤ p ∧ p ≤ k ∧ Per ms p := by
  unfold tameB
  rw [List.any_eq_true]
  constructor
  · rintro ⟨x, hx, e⟩
    have z := mem_fromN.mp hx
    exact ⟨x.toNat, by omega, by omega, per_eq.mp (of_decide_eq_true e)⟩
  · rintro ⟨p, h1, h2, h3⟩
    refine ⟨(p : Int), mem_fromN.mpr (by omega), decide_eq_true ?_⟩
    rw [Int.toNat_natCast]
    exact per_eq.mpr h3
theorem tame_bord {ms : List Int} {k b : Nat} (hk : k ≤ ms.length) (hb : IsB ms ms.length b) : decide (ms.length - b ≤ k) = tameB ms k := by
  rw [Bool.eq_iff_iff, decide_eq_true_iff, tame_iff]
  have b1 := hb.1.1
  constructor
  · intro h
    refine ⟨ms.length - b, by omega, h, (per_bor (by omega) (by omega)).mpr ?_⟩
    rw [show ms.length - (ms.length - b) = b by omega]
    exact hb.1
  · rintro ⟨p, h1, h2, h3⟩
    have z := hb.2 _ ((per_bor h1 (by omega)).mp h3)
    omega
theorem ga_rev {ms : List Int} {j : Nat} (h : j < ms.length) : ga ms.reverse j = ga ms (ms.length - 1 - j) := by
  have z := List.getElem?_reverse (l := ms) h
  rw [ga_some (by rw [List.length_reverse]; exact h), ga_some (by omega)] at z
  exact Option.some.inj z
theorem per_rev {ms : List Int} {p : Nat} (h : Per ms p) : Per ms.reverse p := by
  intro j hj
  rw [List.length_reverse] at hj
  rw [ga_rev (by omega), ga_rev hj, h (ms.length - 1 - (j + p)) (by omega)]
  congr 1; omega
theorem tame_rev (ms : List Int) (k : Nat) : tameB ms.reverse k = tameB ms k := by
  rw [Bool.eq_iff_iff, tame_iff, tame_iff]
  constructor
  · rintro ⟨p, h1, h2, h3⟩
    have z := per_rev h3
    rw [List.reverse_reverse] at z
    exact ⟨p, h1, h2, z⟩
  · rintro ⟨p, h1, h2, h3⟩
    exact ⟨p, h1, h2, per_rev h3⟩
end RV
set_option maxHeartbeats 4000000
/-! min of tuples of ints: of two, of a list of them -/
namespace RV
open PySem PySem.Spec PyProof.Rows L2
theorem lex_irr (xs : List Int) : HT.lexLt xs xs = false := by
  cases e : HT.lexLt xs xs with
  | false => rfl
  | true => have := NtL.lex_asym _ _ e; rw [e] at this; cases this
/-- the place of the first least -/
theorem best_least (l : Nat → List Int) : ∀ n : Nat, argBest (fun i j => HT.lexLt (l i) (l j)) n ≤ n ∧ ∀ j, j ≤ n → HT.lexLt (l j) (l (argBest (fun i j => HT.lexLt (l i) (l j)) n)) = false
  | 0 => ⟨Nat.le_refl _, fun j hj => by
    have : j = 0 := by omega
    subst this
    exact lex_irr _⟩
  | n + 1 => by
    obtain ⟨h1, h2⟩ := best_least l n
    have e0 : argBest (fun i j => HT.lexLt (l i) (l j)) (n + 1) = if HT.lexLt (l (n + 1)) (l (argBest (fun i j => HT.lexLt (l i) (l j)) n)) then n + 1 else argBest (fun i j => HT.lexLt (l i) (l j)) n := rfl
    rw [e0]
    generalize argBest (fun i j => HT.lexLt (l i) (l j)) n = b at h1 h2
    cases e : HT.lexLt (l (n + 1)) (l b) with
    | true =>
      rw [if_pos rfl]
      refine ⟨Nat.le_refl _, fun j hj => ?_⟩
      rcases Nat.lt_or_ge j (n + 1) with z | z
      · exact NtL.lex_tr _ _ _ (NtL.lex_asym _ _ e) (h2 j (by omega))
      · have : j = n + 1 := by omega
        subst this; exact lex_irr _
    | false =>
      rw [if_neg (by decide)]
      refine ⟨by omega, fun j hj => ?_⟩
      rcases Nat.lt_or_ge j (n + 1) with z | z
      · exact h2 j (by omega)
      · have : j = n + 1 := by omega
        subst this; exact e
section
variable {prog : Program} {w : World} {A : Around} {E : Value → Shared → Prop} {s : Shared}
/-- v is a tuple of the ints ns in h -/
def TupIn (h : Heap) (v : Value) (ns : List Int) : Prop := ∃ (a : Addr) (items : Array Value), v = .ref a ∧ IsTup h a items ∧ IntsAre items.toList ns
theorem TupIn.keep {h h' : Heap} {v : Value} {ns : List Int} (t : TupIn h v ns) (k : ∀ b o, h.get? b = some o → h'.get? b = some o) : TupIn h' v ns := by
  obtain ⟨a, items, e, ⟨o, h1, h2, h3⟩, hi⟩ := t
  exact ⟨a, items, e, ⟨o, k _ _ h1, h2, h3⟩, hi⟩
theorem cmp_tups {vs : Array Value} {l : Nat → List Int} (hu : A.units < cLine) (ht : ∀ i v, vs[i]? = some v → TupIn s.heap v (l i)) :
    CmpIn prog w A .Lt s.heap (fun i v => vs[i]? = some v) (fun i j => HT.lexLt (l i) (l j)) := fun i j vi vj s' Q E hk hi hj hq => by
  obtain ⟨a, it1, rfl, t1, i1⟩ := (ht i vi hi).keep hk
  obtain ⟨b, it2, rfl, t2, i2⟩ := (ht j vj hj).keep hk
  exact HT.lt_tupInts t1 t2 i1 i2 hu hq
/-- min(l) of a list of tuples of ints -/
theorem min_tups {a : Addr} {vs : Array Value} {l : Nat → List Int} {Q : Value → Shared → Prop} (hh : A.handled = none) (hl : s.heap.IsList a vs) (h0 : 0 < vs.size) (hu : A.units + 1 < cLine) (ht : ∀ i v, vs[i]? = some v → TupIn s.heap v (l i))
    (h : ∀ (i : Nat) v h' tk, vs[i]? = some v → (∀ j, j < vs.size → HT.lexLt (l j) (l i) = false) → (∀ b o, s.heap.get? b = some o → h'.get? b = some o) → Q v { s with heap := h', toks := tk }) :
    wpAny (model prog w) A (call (.builtin "min") [.ref a]) Q E s := by
  refine call_min_walkH (PySem.W.iter_listW (A := A.in1) hh hl fun s₂ e W st hfp hw hk => ?_)
  refine ⟨_, _, _, _, _, _, _, s.heap, _, rfl, W, st, hfp, h0, hw, hk, cmp_tups (A := A.in1) (show A.units + 1 < cLine from hu) ht, fun v s' hP m => ?_⟩
  obtain ⟨h', tk, rfl, hk'⟩ := PySem.W.moved_old e rfl m
  obtain ⟨b1, b2⟩ := best_least l (vs.size - 1)
  exact h _ v h' tk hP (fun j hj => b2 j (by omega)) hk'
/-- min(v, u) of two tuples of ints -/
theorem min_two_tups {v u : Value} {ns ms : List Int} {Q : Value → Shared → Prop} (hh : A.handled = none) (hu : A.units + 1 < cLine) (hv : TupIn s.heap v ns) (hw : TupIn s.heap u ms)
    (h : ∀ h' tk, (∀ b o, s.heap.get? b = some o → h'.get? b = some o) → Q (if HT.lexLt ms ns = true then u else v) { s with heap := h', toks := tk }) :
    wpAny (model prog w) A (call (.builtin "min") [v, u]) Q E s := by
  have hname : (toString "min" ++ toString ".loop" : String) = "min.loop" := by decide
  refine call_function_tree F.kind_min F.plain_min F.entry_min (F.args_min2 _ _) ?_
  show wpAny _ A.in1 (Builtin.Builtins.bindParams "min" ["key", "default"] 0 ⟨[], []⟩ >>= _) _ _ s
  refine wpAny_bind (wpAny_of_eq (show Builtin.Builtins.bindParams "min" ["key", "default"] 0 ⟨[], []⟩ = pure [none, none] from rfl) ?_)
  show wpAny _ A.in1 (newTuple [v, u] >>= _) _ _ s
  refine wpAny_bind (wpAny_newObj_type ?_)
  have hT : (s.heap.push { cls := .type "tuple", data := .seq #[v, u] }).IsTuple s.heap.objs.size #[v, u] := ⟨_, Heap.get?_push_size _ rfl, rfl, 0, rfl⟩
  have k0 : ∀ b o, s.heap.get? b = some o → (s.heap.push { cls := .type "tuple", data := .seq #[v, u] }).get? b = some o := fun b o e => Heap.get?_push_of_some _ e
  have ht : ∀ i x, (#[v, u] : Array Value)[i]? = some x → TupIn (s.heap.push { cls := .type "tuple", data := .seq #[v, u] }) x ((fun i : Nat => if i = 0 then ns else ms) i) := fun i x hx => by
    match i, hx with
    | 0, hx => cases hx; exact hv.keep k0
    | 1, hx => cases hx; exact hw.keep k0
    | i + 2, hx => simp at hx
  refine wpAny_bind (PySem.W.iter_tupleW (s := { s with heap := s.heap.push { cls := .type "tuple", data := .seq #[v, u] } }) (A := A.in1) hh hT fun s₂ e W st hfp hw' hk => ?_)
  refine wpAny_bind (wpAny_newObj_type ?_)
  have hSf : s₂.heap.objs.size ∉ [(s.heap.push { cls := .type "tuple", data := .seq #[v, u] }).objs.size, s.heap.objs.size] := fun hm => Nat.lt_irrefl _ (hfp _ hm)
  rw [hname]
  refine wpAny_pure ⟨plainId_quiet F.plain_min_loop _, codeAny_min_loop_firstH W _ hw' _ (cmp_tups (s := { s with heap := s.heap.push { cls := .type "tuple", data := .seq #[v, u] } }) (A := A.in1) (show A.units + 1 < cLine from hu) ht) s₂.heap.objs.size hSf (fresh_in hk) _ (by show 0 < 2; decide) (fun b o e => Heap.get?_push_of_some _ (hk b o e)) (W.frame 0 s₂ _ s₂.toks st (Nat.le_refl _) fun b _ o e => Heap.get?_push_of_some _ e) (Heap.get?_push_size _ rfl) fun x s' hP hm => ?_⟩
  have m := Moved.drop_new (tk := s₂.toks) hm (Nat.le_refl _)
  obtain ⟨h', tk, rfl, hk'⟩ := PySem.W.moved_old e rfl m
  have z := h h' tk fun b o eb => hk' b o (k0 b o eb)
  have ex : x = if HT.lexLt ms ns = true then u else v := by
    have hP1 : (#[v, u] : Array Value)[argBest (fun i j => HT.lexLt ((fun i : Nat => if i = 0 then ns else ms) i) ((fun i : Nat => if i = 0 then ns else ms) j)) 1]? = some x := hP
    cases el : HT.lexLt ms ns with
    | true =>
      have e1 : argBest (fun i j => HT.lexLt ((fun i : Nat => if i = 0 then ns else ms) i) ((fun i : Nat => if i = 0 then ns else ms) j)) 1 = 1 := by simp [argBest, el]
      rw [e1] at hP1
      rw [if_pos rfl]; cases hP1; rfl
    | false =>
      have e1 : argBest (fun i j => HT.lexLt ((fun i : Nat => if i = 0 then ns else ms) i) ((fun i : Nat => if i = 0 then ns else ms) j)) 1 = 0 := by simp [argBest, el]
      rw [e1] at hP1
      rw [if_neg (by decide)]; cases hP1; rfl
  rw [ex]; exact z
end
section
variable {X : Cx}
theorem tupIn_of {pins : List (Addr × Obj)} {s : Shared} {σ : L2.St} {H : Hp} (I : Inv X pins σ H s) {a : Addr} {ns : List Int} (h : SqT X.K H a (ns.map V.int)) : TupIn s.heap (.ref a) ns := by
  obtain ⟨its, r1, p1, _⟩ := I.tuple h
  exact ⟨a, _, rfl, p1, intsAre_of r1⟩
/-- min(t, u) of two tuples of ints -/
def rMin2T (K : PySem.W.Frag) : List V → Hp → VK → Prop := fun vs H Q => ∃ (a b : Addr) (ns ms : List Int), vs = [.ref a, .ref b] ∧ SqT K H a (ns.map V.int) ∧ SqT K H b (ms.map V.int) ∧ Q (.ref (if HT.lexLt ms ns = true then b else a)) H
theorem cr_min2T (hc : X.calm = true) (hu : X.A.units + 1 < cLine) : CallR X (.builtin "min") (rMin2T X.K) := by
  intro pins s σ H vs us Q I r h
  obtain ⟨a, b, ns, ms, rfl, ha, hb, q⟩ := h
  obtain ⟨u, w', rfl, e1, e2⟩ := vals2 r
  cases e1
  cases e2
  refine min_two_tups (I.ok.hd hc) hu (tupIn_of I ha) (tupIn_of I hb) fun h' tk k => ⟨_, H, I.kept k, ?_, q⟩
  cases HT.lexLt ms ns <;> rfl
/-! sorted of two tuples of ints of one length -/
theorem code_lex {B : Int} : ∀ {xs ys : List Int}, xs.length = ys.length → TS.Bd B xs → TS.Bd B ys → HT.lexLt xs ys = decide (TS.code B xs < TS.code B ys)
  | [], [], _, _, _ => by
    show false = decide (TS.code B [] < TS.code B [])
    rw [decide_eq_false (Int.lt_irrefl _)]
  | x :: xs, y :: ys, hl, h1, h2 => by
    have hl' : xs.length = ys.length := by simpa using hl
    have t1 : TS.Bd B xs := fun m hm => h1 m (List.mem_cons_of_mem _ hm)
    have t2 : TS.Bd B ys := fun m hm => h2 m (List.mem_cons_of_mem _ hm)
    rw [HT.lexLt_cons]
    by_cases e : x = y
    · rw [if_pos e, code_lex hl' t1 t2, e]
      refine decide_eq_decide.mpr ?_
      show TS.code B xs < TS.code B ys ↔ y * B ^ xs.length + TS.code B xs < y * B ^ ys.length + TS.code B ys
      rw [hl']
      omega
    · rw [if_neg e]
      refine decide_eq_decide.mpr ⟨fun z => TS.code_lt hl' t1 t2 z, fun z => ?_⟩
      rcases Int.lt_trichotomy x y with c | c | c
      · exact c
      · exact absurd c e
      · have := TS.code_lt hl'.symm t2 t1 c
        omega
theorem lex_tot : ∀ {xs ys : List Int}, HT.lexLt xs ys = false → HT.lexLt ys xs = false → xs = ys
  | [], [], _, _ => rfl
  | [], y :: ys, h, _ => by cases h
  | x :: xs, [], _, h => by cases h
  | x :: xs, y :: ys, h1, h2 => by
    rw [HT.lexLt_cons] at h1 h2
    by_cases e : x = y
    · rw [if_pos e] at h1
      rw [if_pos e.symm] at h2
      rw [e, lex_tot h1 h2]
    · rw [if_neg e] at h1
      rw [if_neg (fun z => e z.symm)] at h2
      have a1 := of_decide_eq_false h1
      have a2 := of_decide_eq_false h2
      omega
def rSort2T (K : PySem.W.Frag) : List V → Hp → VK → Prop := fun vs H Q => ∃ (l a b : Addr) (ns ms : List Int) (B : Int), vs = [.ref l] ∧ SqL K H l [.ref a, .ref b] ∧ SqT K H a (ns.map V.int) ∧ SqT K H b (ms.map V.int) ∧ ns.length = ms.length ∧ 1 ≤ ns.length ∧ TS.Bd B ns ∧ TS.Bd B ms ∧
  ∀ (c d p : Addr), SqT K H c ((if HT.lexLt ms ns = true then ms else ns).map V.int) → H p = none → Q (.ref p) (upd H p (.lst [.ref c, .ref d]))
theorem cr_sort2T : CallR X (.builtin "sorted") (rSort2T X.K) := by
  intro pins s σ H vs us Q I r h
  obtain ⟨l, a, b, ns, ms, B, rfl, hL, ha, hb, hlen, h1, B1, B2, q⟩ := h
  refine cr_sortT (d := ns.length) (B := B) h1 pins s σ H _ us Q I r ⟨l, _, rfl, hL, by show 2 < 64; decide, fun x hx => ?_, fun ys p pm pw np => ?_⟩
  · simp only [List.mem_cons, List.not_mem_nil, or_false] at hx
    rcases hx with rfl | rfl
    · exact ⟨ns, ⟨a, rfl, ha⟩, rfl, B1⟩
    · exact ⟨ms, ⟨b, rfl, hb⟩, hlen.symm, B2⟩
  · have hl2 : ys.length = 2 := pm.length_eq
    match ys, hl2, pm, pw with
    | [x, y], _, pm, pw =>
      have rel : ∀ n m, TupI X.K H x n → TupI X.K H y m → TS.code B n ≤ TS.code B m := by
        have z := pw
        rw [List.pairwise_cons] at z
        exact z.1 y (List.mem_singleton.mpr rfl)
      have ma : V.ref a = x ∨ V.ref a = y := by
        have z := pm.mem_iff.mpr (show V.ref a ∈ [V.ref a, V.ref b] by simp)
        simpa using z
      have mb : V.ref b = x ∨ V.ref b = y := by
        have z := pm.mem_iff.mpr (show V.ref b ∈ [V.ref a, V.ref b] by simp)
        simpa using z
      have my : y = V.ref a ∨ y = V.ref b := by
        have z := pm.mem_iff.mp (show y ∈ [x, y] by simp)
        simpa using z
      obtain ⟨d, ed⟩ : ∃ d, y = V.ref d := my.elim (fun e => ⟨_, e⟩) fun e => ⟨_, e⟩
      have fst : ∀ ty : TupI X.K H y ms, x = V.ref a → Q (.ref p) (upd H p (.lst [x, y])) := fun ty ex => by
        have le := rel ns ms ⟨a, ex, ha⟩ ty
        have z := code_lex hlen.symm B2 B1
        rw [decide_eq_false (by omega)] at z
        rw [ex, ed]
        refine q a d p ?_ np
        rw [z, if_neg (by decide)]; exact ha
      rcases ma with ea | ea
      · rcases mb with eb | eb
        · have eab : a = b := V.ref.inj (ea.trans eb.symm)
          refine fst ?_ ea.symm
          rcases my with e | e
          · exact ⟨a, e, by rw [eab]; exact hb⟩
          · exact ⟨b, e, hb⟩
        · exact fst ⟨b, eb.symm, hb⟩ ea.symm
      · rcases mb with eb | eb
        · have le := rel ms ns ⟨b, eb.symm, hb⟩ ⟨a, ea.symm, ha⟩
          rw [← eb, ed]
          refine q b d p ?_ np
          have z := code_lex hlen.symm B2 B1
          cases el : HT.lexLt ms ns with
          | true => rw [if_pos rfl]; exact hb
          | false =>
            rw [if_neg (by decide)]
            have z2 := code_lex hlen B1 B2
            rw [decide_eq_false (by omega)] at z2
            rw [lex_tot z2 el]; exact hb
        · have eab : a = b := V.ref.inj (ea.trans eb.symm)
          have mx : x = V.ref a ∨ x = V.ref b := by
            have z := pm.mem_iff.mp (show x ∈ [x, y] by simp)
            simpa using z
          refine fst ⟨b, eb.symm, hb⟩ ?_
          rcases mx with e | e
          · exact e
          · rw [e, eab]
end
end RV
set_option maxHeartbeats 4000000
/-! turns of a row, powers of it, their periods -/
namespace RV
open PyProof.Rows
theorem ga_ext {xs ys : List Int} (hl : xs.length = ys.length) (h : ∀ j, j < xs.length → ga xs j = ga ys j) : xs = ys := by
  refine List.ext_getElem? fun j => ?_
  by_cases z : j < xs.length
  · rw [ga_some z, ga_some (by omega), h j z]
  · rw [List.getElem?_eq_none (by omega), List.getElem?_eq_none (by omega)]
theorem ga_cat (xs ys : List Int) (k : Nat) : ga (xs ++ ys) k = if k < xs.length then ga xs k else ga ys (k - xs.length) := by
  unfold ga
  by_cases h : k < xs.length
  · rw [if_pos h]; simp [List.getD, List.getElem?_append_left h]
  · rw [if_neg h]; simp [List.getD, List.getElem?_append_right (Nat.le_of_not_lt h)]
theorem ga_tk (xs : List Int) (n k : Nat) (h : k < n) : ga (xs.take n) k = ga xs k := by unfold ga; simp [List.getD, List.getElem?_take, h]
theorem ga_dr (xs : List Int) (n k : Nat) : ga (xs.drop n) k = ga xs (n + k) := by unfold ga; simp [List.getD, List.getElem?_drop]
/-- turned by k -/
def trn (xs : List Int) (k : Nat) : List Int := xs.drop k ++ xs.take k
theorem trn_len {xs : List Int} {k : Nat} : (trn xs k).length = xs.length := by
  unfold trn; rw [List.length_append, List.length_drop, List.length_take]; omega
theorem ga_trn {xs : List Int} {k j : Nat} (hk : k ≤ xs.length) (hj : j < xs.length) : ga (trn xs k) j = ga xs ((k + j) % xs.length) := by
  unfold trn
  rw [ga_cat, List.length_drop]
  by_cases z : j < xs.length - k
  · rw [if_pos z, ga_dr, Nat.mod_eq_of_lt (by omega)]
  · rw [if_neg z, ga_tk _ _ _ (by omega)]
    congr 1
    rw [Nat.mod_eq_sub_mod (by omega), Nat.mod_eq_of_lt (by omega)]
    omega
theorem trn_trn {xs : List Int} {a k : Nat} (ha : a ≤ xs.length) (hk : k < xs.length) : trn (trn xs a) k = trn xs ((a + k) % xs.length) := by
  have m1 := Nat.mod_lt (a + k) (show xs.length > 0 by omega)
  refine ga_ext (by rw [trn_len, trn_len, trn_len]) fun j hj => ?_
  rw [trn_len, trn_len] at hj
  have m2 := Nat.mod_lt (k + j) (show xs.length > 0 by omega)
  rw [ga_trn (by rw [trn_len]; omega) (by rw [trn_len]; exact hj), trn_len, ga_trn ha m2, ga_trn (by omega) hj]
  congr 1
  rw [Nat.add_mod_mod, Nat.mod_add_mod, Nat.add_assoc]
theorem trn_zero (xs : List Int) : trn xs 0 = xs := by unfold trn; rw [List.drop_zero, List.take_zero, List.append_nil]
/-- ys is the least of all turns of xs -/
def IsLT (xs ys : List Int) : Prop := (∃ k, k < xs.length ∧ ys = trn xs k) ∧ ∀ k, k < xs.length → HT.lexLt (trn xs k) ys = false
theorem IsLT.uniq {xs ys zs : List Int} (h : IsLT xs ys) (h' : IsLT xs zs) : ys = zs := by
  obtain ⟨⟨k, hk, e⟩, l⟩ := h
  obtain ⟨⟨k', hk', e'⟩, l'⟩ := h'
  refine lex_tot ?_ ?_
  · rw [e]; exact l' k hk
  · rw [e']; exact l k' hk'
theorem IsLT.len {xs ys : List Int} (h : IsLT xs ys) : ys.length = xs.length := by
  obtain ⟨⟨k, hk, e⟩, _⟩ := h
  rw [e, trn_len]
theorem IsLT.turn {xs ys : List Int} (h : IsLT xs ys) {a : Nat} (ha : a < xs.length) : IsLT (trn xs a) ys := by
  obtain ⟨⟨k, hk, e⟩, l⟩ := h
  refine ⟨⟨(k + (xs.length - a)) % xs.length, ?_, ?_⟩, fun j hj => ?_⟩
  · rw [trn_len]; exact Nat.mod_lt _ (by omega)
  · rw [trn_trn (by omega) (Nat.mod_lt _ (by omega)), e, Nat.add_mod_mod, show a + (k + (xs.length - a)) = k + xs.length by omega, Nat.add_mod_right, Nat.mod_eq_of_lt hk]
  · rw [trn_len] at hj
    rw [trn_trn (by omega) hj]
    exact l _ (Nat.mod_lt _ (by omega))
theorem IsLT.self {xs ys : List Int} (h : IsLT xs ys) : IsLT ys ys := by
  obtain ⟨k, hk, e⟩ := h.1
  have z := h.turn hk
  rw [← e] at z; exact z
/-- xs so many times -/
def pw (m : Nat) (xs : List Int) : List Int := (List.replicate m xs).flatten
theorem pw_len (m : Nat) (xs : List Int) : (pw m xs).length = m * xs.length := by unfold pw; rw [List.length_flatten, List.map_replicate, List.sum_replicate_nat]
theorem pw_succ (m : Nat) (xs : List Int) : pw (m + 1) xs = xs ++ pw m xs := by unfold pw; rw [List.replicate_succ, List.flatten_cons]
theorem ga_pw (w : List Int) (h0 : 0 < w.length) : ∀ (r k : Nat), k < r * w.length → ga (pw r w) k = ga w (k % w.length)
  | 0, k, h => by simp at h
  | r + 1, k, h => by
    rw [pw_succ, ga_cat]
    by_cases hk : k < w.length
    · rw [if_pos hk, Nat.mod_eq_of_lt hk]
    · rw [if_neg hk, ga_pw w h0 r (k - w.length) (by rw [Nat.add_mul, Nat.one_mul] at h; omega)]
      rw [Nat.mod_eq_sub_mod (show k ≥ w.length by omega)]
theorem lex_cat : ∀ {u v : List Int} (a b : List Int), u.length = v.length → HT.lexLt (u ++ a) (v ++ b) = if u = v then HT.lexLt a b else HT.lexLt u v
  | [], [], a, b, _ => by rw [if_pos rfl]; rfl
  | x :: u, y :: v, a, b, h => by
    have hl : u.length = v.length := by simpa using h
    rw [List.cons_append, List.cons_append, HT.lexLt_cons, HT.lexLt_cons, lex_cat a b hl]
    by_cases e : x = y
    · subst e
      by_cases e2 : u = v
      · subst e2; simp
      · simp [e2]
    · simp [e]
theorem lex_pw {u v : List Int} (hl : u.length = v.length) (h : HT.lexLt u v = false) : ∀ m, HT.lexLt (pw m u) (pw m v) = false
  | 0 => rfl
  | m + 1 => by
    rw [pw_succ, pw_succ, lex_cat _ _ hl]
    split
    · exact lex_pw hl h m
    · exact h
theorem trn_pw {xs : List Int} {m k : Nat} (hk : k < m * xs.length) : trn (pw m xs) k = pw m (trn xs (k % xs.length)) := by
  have h0 : 0 < xs.length := by
    rcases Nat.eq_zero_or_pos xs.length with z | z
    · rw [z, Nat.mul_zero] at hk; omega
    · exact z
  have mk := Nat.mod_lt k h0
  refine ga_ext (by rw [trn_len, pw_len, pw_len, trn_len]) fun j hj => ?_
  rw [trn_len, pw_len] at hj
  have mj := Nat.mod_lt j h0
  rw [ga_trn (by rw [pw_len]; omega) (by rw [pw_len]; exact hj), pw_len, ga_pw _ h0 _ _ (Nat.mod_lt _ (by omega)), ga_pw _ (by rw [trn_len]; exact h0) _ _ (by rw [trn_len]; exact hj), trn_len, ga_trn (by omega) mj]
  congr 1
  rw [Nat.mod_mod_of_dvd _ (Nat.dvd_mul_left _ _), Nat.add_mod_mod, Nat.mod_add_mod]
theorem IsLT.pow {xs ys : List Int} (h : IsLT xs ys) {m : Nat} (hm : 0 < m) : IsLT (pw m xs) (pw m ys) := by
  obtain ⟨⟨k, hk, e⟩, l⟩ := h
  have h0 : 0 < xs.length := by omega
  have hmn : xs.length ≤ m * xs.length := Nat.le_mul_of_pos_left _ hm
  refine ⟨⟨k, by rw [pw_len]; omega, ?_⟩, fun j hj => ?_⟩
  · rw [trn_pw (by omega), Nat.mod_eq_of_lt hk, e]
  · rw [pw_len] at hj
    rw [trn_pw hj]
    refine lex_pw ?_ (l _ (Nat.mod_lt _ h0)) m
    rw [trn_len, e, trn_len]
/-- p is the least period -/
def LP (xs : List Int) (p : Nat) : Prop := 1 ≤ p ∧ p ≤ xs.length ∧ Per xs p ∧ ∀ q, 1 ≤ q → q ≤ xs.length → Per xs q → p ≤ q
theorem LP.uniq {xs : List Int} {p q : Nat} (h : LP xs p) (h' : LP xs q) : p = q := Nat.le_antisymm (h.2.2.2 q h'.1 h'.2.1 h'.2.2.1) (h'.2.2.2 p h.1 h.2.1 h.2.2.1)
theorem lp_bord {xs : List Int} {b : Nat} (h : IsB xs xs.length b) : LP xs (xs.length - b) := by
  have b1 := h.1.1
  refine ⟨by omega, by omega, (per_bor (by omega) (by omega)).mpr (by rw [show xs.length - (xs.length - b) = b by omega]; exact h.1), fun q h1 h2 h3 => ?_⟩
  have := h.2 _ ((per_bor h1 h2).mp h3)
  omega
/-- u is a piece of what goes on by c -/
theorem per_all {w : Nat → Int} {c : Nat} (hc : 0 < c) (hw : ∀ i, w (i + c) = w i) {u : List Int} {s q : Nat} (hs : s ≤ c) (hu : ∀ j, j < u.length → ga u j = w (s + j)) (hq : q + c ≤ u.length) (h : Per u q) : ∀ i, w (i + q) = w i := by
  have wm : ∀ k i, w (i + c * k) = w i := by
    intro k
    induction k with
    | zero => intro i; rfl
    | succ k ih => intro i; rw [Nat.mul_succ, ← Nat.add_assoc, hw, ih]
  have wr : ∀ i, w (i % c) = w i := fun i => by
    have z := wm (i / c) (i % c)
    rw [Nat.mod_add_div] at z; exact z.symm
  intro i
  have mj := Nat.mod_lt (i + (c - s)) hc
  have e := h ((i + (c - s)) % c) (by omega)
  rw [hu _ (by omega), hu _ (by omega)] at e
  have e1 : (s + (i + (c - s)) % c) % c = i % c := by
    rw [Nat.add_mod_mod, show s + (i + (c - s)) = i + c by omega, Nat.add_mod_right]
  have e2 : (s + ((i + (c - s)) % c + q)) % c = (i + q) % c := by
    rw [← Nat.add_assoc, Nat.add_mod, e1, ← Nat.add_mod]
  rw [← wr i, ← wr (i + q), ← e1, ← e2, wr, wr]; exact e.symm
theorem per_piece {w : Nat → Int} {u : List Int} {s q : Nat} (hu : ∀ j, j < u.length → ga u j = w (s + j)) (h : ∀ i, w (i + q) = w i) : Per u q := fun j hj => by
  rw [hu _ (by omega), hu _ hj, ← Nat.add_assoc, h]
def rnd (xs : List Int) (i : Nat) : Int := ga xs (i % xs.length)
theorem two_pieces {xs : List Int} (h0 : 0 < xs.length) {a : Nat} (ha : a < xs.length) : ∀ j, j < (pw 2 (trn xs a)).length → ga (pw 2 (trn xs a)) j = rnd xs (a + j) := fun j hj => by
  rw [pw_len, trn_len] at hj
  rw [ga_pw _ (by rw [trn_len]; exact h0) _ _ (by rw [trn_len]; exact hj), trn_len, ga_trn (by omega) (Nat.mod_lt _ h0)]
  unfold rnd
  rw [Nat.add_mod_mod]
theorem LP.round {xs : List Int} (h0 : 0 < xs.length) {p : Nat} (h : LP (pw 2 xs) p) : p ≤ xs.length ∧ (∀ a, a < xs.length → LP (pw 2 (trn xs a)) p) ∧ LP (pw 3 (xs.take p)) p := by
  have hz : ∀ j, j < (pw 2 xs).length → ga (pw 2 xs) j = rnd xs (0 + j) := by
    have z := two_pieces h0 h0
    rw [trn_zero] at z; exact z
  have l2 : (pw 2 xs).length = 2 * xs.length := pw_len _ _
  have hn : ∀ i, rnd xs (i + xs.length) = rnd xs i := fun i => by unfold rnd; rw [Nat.add_mod_right]
  have hp : p ≤ xs.length := h.2.2.2 _ h0 (by omega) (per_piece hz hn)
  have p1 := h.1
  have hG : ∀ i, rnd xs (i + p) = rnd xs i := per_all h0 hn (Nat.zero_le _) hz (by omega) h.2.2.1
  refine ⟨hp, fun a ha => ?_, ?_⟩
  · have la : (pw 2 (trn xs a)).length = 2 * xs.length := by rw [pw_len, trn_len]
    refine ⟨p1, by omega, per_piece (two_pieces h0 ha) hG, fun q q1 q2 hq => ?_⟩
    rcases Nat.lt_or_ge q p with z | z
    · exact h.2.2.2 q q1 (by omega) (per_piece hz (per_all h0 hn (by omega) (two_pieces h0 ha) (by omega) hq))
    · exact z
  · have lt : (xs.take p).length = p := by rw [List.length_take]; omega
    have l3 : (pw 3 (xs.take p)).length = 3 * p := by rw [pw_len, lt]
    have wm : ∀ k i, rnd xs (i + p * k) = rnd xs i := by
      intro k
      induction k with
      | zero => intro i; rfl
      | succ k ih => intro i; rw [Nat.mul_succ, ← Nat.add_assoc, hG, ih]
    have h3 : ∀ j, j < (pw 3 (xs.take p)).length → ga (pw 3 (xs.take p)) j = rnd xs (0 + j) := fun j hj => by
      rw [l3] at hj
      have m := Nat.mod_lt j (show p > 0 by omega)
      rw [ga_pw _ (by omega) _ _ (by rw [lt]; exact hj), lt, ga_tk _ _ _ m, Nat.zero_add]
      have z := wm (j / p) (j % p)
      rw [Nat.mod_add_div] at z
      rw [z]
      unfold rnd
      rw [Nat.mod_eq_of_lt (show j % p < xs.length by omega)]
    refine ⟨p1, by omega, per_piece h3 hG, fun q q1 q2 hq => ?_⟩
    rcases Nat.lt_or_ge q p with z | z
    · exact h.2.2.2 q q1 (by omega) (per_piece hz (per_all (c := p) (by omega) hG (Nat.zero_le _) h3 (by omega) hq))
    · exact z
end RV
set_option maxHeartbeats 4000000
namespace K29
open PySem PySem.Spec PyProof.Rows L2 RV
theorem atI_map {ns : List Int} {i : Int} (h0 : 0 ≤ i) (h1 : i < (ns.length : Int)) : atI (ns.map V.int) i = some (.int (ns.getD i.toNat 0)) := by
  rw [show i = ((i.toNat : Nat) : Int) by omega]
  refine atI_nat ?_
  have : i.toNat < ns.length := by omega
  rw [List.getElem?_map, List.getElem?_eq_getElem this, Int.toNat_natCast]
  simp [List.getD, this]
theorem few2 {n : Nat} (h : n ≤ 3000) : n < sizeLine := by rw [sizeLine_eq]; omega
theorem atI_ga {ns : List Int} {i : Int} (h0 : 0 ≤ i) (h1 : i < (ns.length : Int)) : atI (ns.map V.int) i = some (.int (ga ns i.toNat)) := atI_map h0 h1
/-- the borders of the beginnings of the row -/
def Bds (ms fs : List Int) : Prop := ∀ k : Nat, k < fs.length → ∃ b : Nat, fs[k]? = some (b : Int) ∧ IsB ms (k + 1) b
theorem Bds.at {ms fs : List Int} (h : Bds ms fs) {k : Nat} (hk : k < fs.length) : ∃ b : Nat, atI (fs.map V.int) (k : Int) = some (.int (b : Int)) ∧ IsB ms (k + 1) b ∧ b < k + 1 := by
  obtain ⟨b, h1, h2⟩ := h k hk
  exact ⟨b, atI_nat (by rw [List.getElem?_map, h1]; rfl), h2, h2.1.1⟩
theorem Bds.add {ms fs : List Int} {b : Nat} (h : Bds ms fs) (hb : IsB ms (fs.length + 1) b) : Bds ms (fs ++ [(b : Int)]) := by
  intro k hk
  rw [List.length_append] at hk
  by_cases z : k < fs.length
  · obtain ⟨c, h1, h2⟩ := h k z
    exact ⟨c, by rw [List.getElem?_append_left z]; exact h1, h2⟩
  · have : k = fs.length := by simp at hk; omega
    subst this
    exact ⟨b, by rw [List.getElem?_append_right (Nat.le_refl _), Nat.sub_self]; rfl, hb⟩
theorem Bds.last {ms fs : List Int} (h : Bds ms fs) (h0 : 0 < fs.length) : ∃ b : Nat, atI (fs.map V.int) (-1) = some (.int (b : Int)) ∧ IsB ms fs.length b ∧ b < fs.length := by
  obtain ⟨b, h1, h2⟩ := h (fs.length - 1) (by omega)
  rw [show fs.length - 1 + 1 = fs.length by omega] at h2
  refine ⟨b, ?_, h2, h2.1.1⟩
  have e : ixN (fs.map V.int).length (-1) = some (fs.length - 1) := by
    unfold ixN
    rw [if_neg (by decide), if_pos (by rw [List.length_map]; omega), List.length_map]
    congr 1; omega
  unfold atI
  rw [e]
  show (fs.map V.int)[fs.length - 1]? = _
  rw [List.getElem?_map, h1]; rfl
section
variable {P : Program} {w : World} {K : PySem.W.Frag} {mg : Str → Option Value} {base : Heap}
/-! ### borders -/
theorem scBorders : FnScope ["marks", "found", "mark", "matched"] ["marks"] (defScope sBorders) := ⟨rfl, rfl, rfl, by decide +kernel, rfl, by decide +kernel, by decide +kernel⟩
def spBorders (K : PySem.W.Frag) : Sp := fun vs H Q _ => ∃ (a : Addr) (ms : List Int), vs = [.ref a] ∧ SqT K H a (ms.map V.int) ∧ 0 < ms.length ∧ ms.length ≤ 2000 ∧
  ∀ (H' : Hp) (l : Addr) (fs : List Int), Same H H' → H' l = some (.lst (fs.map V.int)) → fs.length = ms.length → Bds ms fs → Q (.ref l) H'
def mOf : L2.St → Nat
  | [_, _, _, some (.int a)] => a.toNat
  | _ => 0
theorem ok_borders {f : Addr} {fd : FuncData} (F : Fun K "borders" "borders" sBorders f fd) : FnOk P w K mg base CX0 1 f fd ["marks"] (spBorders K) := by
  refine F.ok scBorders (fun vs H Q E h => ?_) (fun cdv A outer s H vs Q E hr h => ?_)
  · obtain ⟨a, ms, rfl, _⟩ := h
    rfl
  · obtain ⟨a, ms, rfl, hT, h0, hl, q⟩ := h
    refine ⟨_, pss_cons (ps_set (i := 1) scBorders.nd rfl (Or.inl rfl) (pe_lst (pa_cons pe_int pa_nil)))
      (pss_cons (ps_for PassesOwn.never rfl (pi_tup (pe_slice sl_tupW (pv 0) (po_some pe_int) po_none)) (pg_name (i := 2) scBorders.nd rfl (Or.inl rfl))
        (pss_cons (ps_set (i := 3) scBorders.nd rfl (Or.inl rfl) (pe_ix ix_list (pv 1) (pe_un un_neg pe_int) (fun _ _ => rfl)))
        (pss_cons (ps_while PassesOwn.never (PW.pt (pw_and (pt_cmpR op_gt (pv 3) pe_int (nomark _)) (pw_and1 (pt_cmpR op_ne (pe_ix ix_tup (pv 0) (pv 3) (fun _ _ => rfl)) (pv 2) (nomark _)))))
          (pss_one (ps_set (i := 3) scBorders.nd rfl (Or.inl rfl) (pe_ix ix_list (pv 1) (pe_op op_sub (pv 3) pe_int) (fun _ _ => rfl)))))
        (pss_one (ps_expr (pe_bm PySem.F.plainAttrs_list PySem.F.slot_list_append PySem.F.type_list_append mt_append (pv 1) (pa_cons (pe_ifExp (pt_cmpR op_eq (pe_ix ix_tup (pv 0) (pv 3) (fun _ _ => rfl)) (pv 2) (nomark _)) (pe_op op_add (pv 3) pe_int) pe_int) pa_nil)))))))
      (pss_one (ps_ret (pv 1)))), ?_⟩
    refine ⟨(by show 1 ≤ sizeLine; decide), fun l nl => ?_⟩
    have sl := same_upd (o := .lst [.int 0]) nl
    refine ⟨.ref a, rfl, _, rfl, a, _, rfl, sqT_same sl hT, fun c H1 s1 hc => ?_⟩
    have hc : SqT K H1 c ((ms.drop 1).map V.int) := by
      have z := hc
      rw [show (some (1 : Int)) = some ((1 : Nat) : Int) from rfl, cut_from, ← List.map_drop] at z; exact z
    have s01 := sl.trans s1
    have el : H1 l = some (.lst ([0].map V.int)) := s1 _ _ upd_same
    refine ⟨c, rfl, ⟨_, hc⟩, ?_⟩
    refine for_tup (K := K) (a := c) (xs := (ms.drop 1).map V.int) (fun i σ H' => ∃ (y2 y3 : Option V) (fs : List Int), σ = [some (.ref a), some (.ref l), y2, y3] ∧ Same H H' ∧ SqT K H' c ((ms.drop 1).map V.int) ∧ H' l = some (.lst (fs.map V.int)) ∧ fs.length = i + 1 ∧ Bds ms fs)
      ⟨_, _, [0], rfl, s01, hc, el, rfl, fun k hk => ?_⟩ (fun i σ H' _ h => ?_) (fun i x σ H2 hx h => ?_) (fun σ H2 h => ?_)
    · have : k = 0 := by simp at hk; exact hk
      subst this
      exact ⟨0, rfl, isB1 ms⟩
    · obtain ⟨_, _, _, _, _, h3, _⟩ := h
      exact h3
    · obtain ⟨y2, y3, fs, rfl, s2, hc2, e2, lf, hB⟩ := h
      obtain ⟨mk, gk, rfl⟩ := map_at hx
      rw [List.getElem?_drop] at gk
      have hk : 1 + i < ms.length := (List.getElem?_eq_some_iff.mp gk).1
      have emk : mk = ga ms fs.length := by
        rw [ga_some hk] at gk
        rw [lf, Nat.add_comm i 1]; exact (Option.some.inj gk).symm
      have hT2 := sqT_same s2 hT
      obtain ⟨b, ab, hb, b1⟩ := hB.last (by omega)
      refine ⟨.ref l, rfl, 1, rfl, l, _, _, _, rfl, rfl, lstNew e2, ab, ?_⟩
      refine while_by (fun σ H' => ∃ m : Nat, σ = [some (.ref a), some (.ref l), some (.int mk), some (.int (m : Int))] ∧ H' = H2 ∧ Wh ms fs.length m) (fun σ _ => mOf σ) ?_ ?_ ?_
      · exact ⟨b, rfl, rfl, hb.wh⟩
      · rintro σ H3 ⟨m, rfl, rfl, hw⟩
        have hm := hw.1.1
        have am : atI (ms.map V.int) ((m : Nat) : Int) = some (.int (ga ms m)) := by
          have z := atI_ga (ns := ms) (i := ((m : Nat) : Int)) (by omega) (by omega)
          rwa [Int.toNat_natCast] at z
        have nxt : ∀ b' : Nat, IsB ms (fs.length + 1) b' → ∃ (y2 y3 : Option V) (gs : List Int), [some (V.ref a), some (V.ref l), some (V.int mk), some (V.int (m : Int))] = [some (.ref a), some (.ref l), y2, y3] ∧ Same H (upd H3 l (.lst (fs.map V.int ++ [.int (b' : Int)]))) ∧ SqT K (upd H3 l (.lst (fs.map V.int ++ [.int (b' : Int)]))) c ((ms.drop 1).map V.int) ∧ (upd H3 l (.lst (fs.map V.int ++ [.int (b' : Int)]))) l = some (.lst (gs.map V.int)) ∧ gs.length = i + 1 + 1 ∧ Bds ms gs := fun b' hb' => by
          refine ⟨_, _, fs ++ [(b' : Int)], rfl, fun x o e => ?_, ?_, ?_, ?_, hB.add hb'⟩
          · rw [upd_ne (ne_of_none e nl)]; exact s2 x o e
          · rcases hc2 with (h | ⟨o, h⟩) | h
            · exact .inl (.inl (by rw [upd_ne (fun z => by rw [z, e2] at h; cases h)]; exact h))
            · exact .inl (.inr ⟨o, by rw [upd_ne (fun z => by rw [z, e2] at h; cases h)]; exact h⟩)
            · exact .inr h
          · rw [upd_same, List.map_append]; rfl
          · rw [List.length_append, lf]; rfl
        have lim : (fs.map V.int).length < sizeLine := by rw [List.length_map]; exact few2 (by omega)
        refine ⟨.int (m : Int), rfl, _, _, rfl, rfl, _, rfl, ite2 (fun hm0 => ?_) (fun hm0 => ?_)⟩
        · have hm0 : 0 < m := by
            have z := of_decide_eq_true hm0
            omega
          refine ⟨.ref a, rfl, .int (m : Int), rfl, a, _, _, _, rfl, rfl, hT2, am, .int mk, rfl, rfl, _, rfl, ?_⟩
          rw [decV]
          by_cases e : ga ms m = mk
          · rw [decide_eq_true e]
            refine iteF ?_
            refine ⟨.ref l, rfl, .inl ⟨rfl, _, lstNew e2⟩, .ref a, rfl, .int (m : Int), rfl, a, _, _, _, rfl, rfl, hT2, am, .int mk, rfl, rfl, _, rfl, ?_⟩
            rw [decV, decide_eq_true e]
            refine iteT ⟨.int (m : Int), rfl, _, 1, rfl, rfl, l, _, _, rfl, rfl, e2, lim, ?_⟩
            exact nxt (m + 1) (hw.found (e.trans emk))
          · rw [decide_eq_false e]
            refine iteT ?_
            obtain ⟨b', ab', hb', b1'⟩ := hB.at (k := m - 1) (by omega)
            rw [show m - 1 + 1 = m by omega] at hb' b1'
            refine ⟨.ref l, rfl, .int (m : Int), rfl, _, 1, rfl, rfl, l, _, _, .int (b' : Int), rfl, rfl, lstNew e2, ?_, ?_⟩
            · rw [show (m : Int) - 1 = ((m - 1 : Nat) : Int) by omega]; exact ab'
            · refine ⟨⟨b', rfl, rfl, hw.step (fun z => e (z.trans emk.symm)) hb'⟩, ?_⟩
              show ((b' : Nat) : Int).toNat < ((m : Nat) : Int).toNat
              omega
        · have hm0 : m = 0 := by
            have z := hm0
            simp at z; exact z
          refine iteF (A := True) ?_
          refine ⟨.ref l, rfl, .inl ⟨rfl, _, lstNew e2⟩, .ref a, rfl, .int (m : Int), rfl, a, _, _, _, rfl, rfl, hT2, am, .int mk, rfl, rfl, _, rfl, ?_⟩
          rw [decV]
          by_cases e : ga ms m = mk
          · rw [decide_eq_true e]
            refine iteT ⟨.int (m : Int), rfl, _, 1, rfl, rfl, l, _, _, rfl, rfl, e2, lim, ?_⟩
            exact nxt (m + 1) (hw.found (e.trans emk))
          · rw [decide_eq_false e]
            refine iteF ⟨l, _, _, rfl, rfl, e2, lim, ?_⟩
            subst hm0
            exact nxt 0 (hw.none fun z => e (z.trans emk.symm))
      · intro σ H3 Q1 Q2 hq h
        obtain ⟨v, e, i', j', h1, h2, k, h3, h4⟩ := h
        refine ⟨v, e, i', j', h1, h2, k, h3, ?_⟩
        cases k with
        | false => exact hq _ _ h4
        | true =>
          obtain ⟨v1, g1, v2, g2, p1, p2, p3, p4, p5, p6, p7, p8, v3, g3, p9, k2, g4, g5⟩ := h4
          exact ⟨v1, g1, v2, g2, p1, p2, p3, p4, p5, p6, p7, p8, v3, g3, p9, k2, g4, hq _ _ g5⟩
    · obtain ⟨y2, y3, fs, rfl, s2, hc2, e2, lf, hB⟩ := h
      refine ⟨.ref l, rfl, q H2 l fs s2 e2 ?_ hB⟩
      rw [lf, List.length_map, List.length_drop]; omega
/-! ### least_period -/
theorem scLeastP : FnScope ["marks"] ["marks"] (defScope sLeastP) := ⟨rfl, rfl, rfl, by decide +kernel, rfl, by decide +kernel, by decide +kernel⟩
def spLeastP (K : PySem.W.Frag) : Sp := fun vs H Q _ => ∃ (a : Addr) (ms : List Int), vs = [.ref a] ∧ SqT K H a (ms.map V.int) ∧ 0 < ms.length ∧ ms.length ≤ 2000 ∧
  ∀ (H' : Hp) (p : Nat), Same H H' → LP ms p → Q (.int (p : Int)) H'
theorem ok_leastP {f fB : Addr} {fd dB : FuncData} (F : Fun K "least_period" "least_period" sLeastP f fd) (DB : DefAt K mg "borders" sBorders ["marks"] fB dB) (B : Bare mg) : FnOk P w K mg base CX0 2 f fd ["marks"] (spLeastP K) := by
  have GB : FnOk P w K mg base CX0 1 fB dB ["marks"] (spBorders K) := ok_borders DB.fn
  refine F.ok scLeastP (fun vs H Q E h => ?_) (fun cdv A outer s H vs Q E hr h => ?_)
  · obtain ⟨a, ms, rfl, _⟩ := h
    rfl
  · obtain ⟨a, ms, rfl, hT, h0, hl, q⟩ := h
    refine ⟨_, pss_one (ps_ret (pe_op op_sub (pe_callB call_len_seq (by rfl) B.len PySem.boot_len (pa_cons (pv 0) pa_nil)) (pe_ix ix_list (pe_call GB hr (by rfl) DB.mg DB.fn.kp DB.bi .nil pass0 (pa_cons (pv 0) pa_nil)) (pe_un un_neg pe_int) (fun _ _ => rfl)))), ?_⟩
    refine ⟨.ref a, rfl, a, _, rfl, .inr hT, .ref a, rfl, a, ms, rfl, hT, h0, hl, fun H1 l fs s1 e1 lf hB => ?_⟩
    obtain ⟨b, ab, hb, b1⟩ := hB.last (by omega)
    refine ⟨1, rfl, l, _, _, _, rfl, rfl, lstNew e1, ab, _, _, rfl, rfl, ?_⟩
    rw [List.length_map]
    rw [lf] at hb
    have b2 := hb.1.1
    have z := q H1 _ s1 (lp_bord hb)
    rw [show ((ms.length - b : Nat) : Int) = (ms.length : Int) - (b : Int) by omega] at z
    exact z
end
end K29
set_option maxHeartbeats 4000000
namespace K29
open PySem PySem.Spec PyProof.Rows L2 RV
section
variable {P : Program} {w : World} {K : PySem.W.Frag} {mg : Str → Option Value} {base : Heap}
/-! ### least_turn -/
theorem scLeastT : FnScope ["marks", "least", "at", "turn"] ["marks"] (defScope sLeastT) := ⟨rfl, rfl, rfl, by decide +kernel, rfl, by decide +kernel, by decide +kernel⟩
def spLeastT (K : PySem.W.Frag) : Sp := fun vs H Q _ => ∃ (a : Addr) (ms : List Int), vs = [.ref a] ∧ SqT K H a (ms.map V.int) ∧ 0 < ms.length ∧ ms.length ≤ 2000 ∧
  ∀ (H' : Hp) (t : Addr) (ys : List Int), Same H H' → SqT K H' t (ys.map V.int) → IsLT ms ys → Q (.ref t) H'
theorem ok_leastT {f : Addr} {fd : FuncData} (F : Fun K "least_turn" "least_turn" sLeastT f fd) (B : Bare mg) : FnOk P w K mg base CX0 2 f fd ["marks"] (spLeastT K) := by
  refine F.ok scLeastT (fun vs H Q E h => ?_) (fun cdv A outer s H vs Q E hr h => ?_)
  · obtain ⟨a, ms, rfl, _⟩ := h
    rfl
  · obtain ⟨a, ms, rfl, hT, h0, hl, q⟩ := h
    refine ⟨_, pss_cons (ps_set (i := 1) scLeastT.nd rfl (Or.inl rfl) (pv 0))
      (pss_cons (ps_for PassesOwn.never rfl (pi_range2 (by rfl) B.range (pa_cons pe_int (pa_cons (pe_callB call_len_seq (by rfl) B.len PySem.boot_len (pa_cons (pv 0) pa_nil)) pa_nil))) (pg_name (i := 2) scLeastT.nd rfl (Or.inl rfl))
        (pss_cons (ps_set (i := 3) scLeastT.nd rfl (Or.inl rfl) (pe_op op_catW (pe_slice sl_tupW (pv 0) (po_some (pv 2)) po_none) (pe_slice sl_tupW (pv 0) po_none (po_some (pv 2)))))
        (pss_one (ps_if (pt_cmpR (op_ltT (Nat.lt_of_le_of_lt (Nat.le_add_right _ 64) hr.units)) (pv 3) (pv 1) (nomark _)) (pss_one (ps_set (i := 1) scLeastT.nd rfl (Or.inl rfl) (pv 3))) pss_nil))))
      (pss_one (ps_ret (pv 1)))), ?_⟩
    refine ⟨.ref a, rfl, .ref a, rfl, a, _, rfl, .inr hT, 1, _, rfl, ⟨by decide, by decide, by rw [List.length_map]; omega, by rw [List.length_map]; omega⟩, ?_⟩
    rw [List.length_map, show ((ms.length : Int) - 1).toNat = ms.length - 1 by omega]
    refine for_range (lo := 1) (n := ms.length - 1) (fun i σ H' => ∃ (y2 y3 : Option V) (L : Addr) (ys : List Int), σ = [some (.ref a), some (.ref L), y2, y3] ∧ Same H H' ∧ SqT K H' L (ys.map V.int) ∧ (∃ k, k < ms.length ∧ ys = trn ms k) ∧ ∀ k, k < i + 1 → HT.lexLt (trn ms k) ys = false)
      ⟨none, none, a, ms, rfl, Same.refl H, hT, ⟨0, h0, (trn_zero ms).symm⟩, fun k hk => ?_⟩ (fun i σ H1 hi h => ?_) (fun σ H1 h => ?_)
    · have : k = 0 := by omega
      subst this
      rw [trn_zero]; exact lex_irr _
    · obtain ⟨y2, y3, L, ys, rfl, s1, hL, hk, hle⟩ := h
      have hT1 := sqT_same s1 hT
      refine ⟨.ref a, rfl, _, rfl, _, rfl, a, _, rfl, hT1, fun p1 G1 u1 w1 => ?_⟩
      rw [show (1 : Int) + (i : Int) = ((i + 1 : Nat) : Int) by omega] at *
      rw [cut_from, ← List.map_drop] at w1
      refine ⟨.ref a, rfl, _, rfl, _, rfl, a, _, rfl, sqT_same u1 hT1, fun p2 G2 u2 w2 => ?_⟩
      rw [cut_to, ← List.map_take] at w2
      refine ⟨p1, p2, _, _, rfl, rfl, sqT_same u2 w1, w2, ?_, fun p3 G3 u3 w3 => ?_⟩
      · rw [List.length_map, List.length_map, List.length_drop, List.length_take]; exact Nat.le_of_lt (few2 (by omega))
      have w3 : SqT K G3 p3 ((trn ms (i + 1)).map V.int) := by
        have z := w3
        rw [← List.map_append] at z; exact z
      have s3 := (u1.trans u2).trans u3
      refine ⟨.ref p3, rfl, .ref L, rfl, p3, L, _, _, rfl, rfl, w3, sqT_same s3 hL, _, rfl, ite2 (fun hlt => ?_) (fun hlt => ?_)⟩
      · refine ⟨.ref p3, rfl, ?_⟩
        refine ⟨_, _, p3, _, rfl, s1.trans s3, w3, ⟨i + 1, by omega, rfl⟩, fun k hk' => ?_⟩
        rcases Nat.lt_or_ge k (i + 1) with z | z
        · exact NtL.lex_tr _ _ _ (NtL.lex_asym _ _ hlt) (hle k z)
        · have : k = i + 1 := by omega
          subst this; exact lex_irr _
      · refine ⟨_, _, L, ys, rfl, s1.trans s3, sqT_same s3 hL, hk, fun k hk' => ?_⟩
        rcases Nat.lt_or_ge k (i + 1) with z | z
        · exact hle k z
        · have : k = i + 1 := by omega
          subst this
          exact Bool.eq_false_iff.mpr hlt
    · obtain ⟨y2, y3, L, ys, rfl, s1, hL, hk, hle⟩ := h
      exact ⟨.ref L, rfl, q H1 L ys s1 hL ⟨hk, fun k hk' => hle k (by omega)⟩⟩
/-! ### _law_period -/
theorem scLPeriod : FnScope ["_law_row_here", "_law_p"] ["_law_row_here"] (defScope sLPeriod) := ⟨rfl, rfl, rfl, by decide +kernel, rfl, by decide +kernel, by decide +kernel⟩
theorem ok_lperiod {f : Addr} {fd : FuncData} (F : Fun K "_law_period" "_law_period" sLPeriod f fd) (B : Bare mg) : FnOk P w K mg base CX0 1 f fd ["_law_row_here"] (spLeastP K) := by
  refine F.ok scLPeriod (fun vs H Q E h => ?_) (fun cdv A outer s H vs Q E hr h => ?_)
  · obtain ⟨a, ms, rfl, _⟩ := h
    rfl
  · obtain ⟨a, ms, rfl, hT, h0, hl, q⟩ := h
    refine ⟨_, pss_cons (ps_for PassesOwn.never rfl (pi_range2 (by rfl) B.range (pa_cons pe_int (pa_cons (pe_callB call_len_seq (by rfl) B.len PySem.boot_len (pa_cons (pv 0) pa_nil)) pa_nil))) (pg_name (i := 1) scLPeriod.nd rfl (Or.inl rfl))
        (pss_one (ps_if (pt_cmpR (op_eqI1 hr.units) (pe_slice sl_tupW (pv 0) (po_some (pv 1)) po_none) (pe_slice sl_tupW (pv 0) po_none (po_some (pe_op op_sub (pe_callB call_len_seq (by rfl) B.len PySem.boot_len (pa_cons (pv 0) pa_nil)) (pv 1)))) (nomark _)) (pss_one (ps_ret (pv 1))) pss_nil)))
      (pss_one (ps_ret (pe_callB call_len_seq (by rfl) B.len PySem.boot_len (pa_cons (pv 0) pa_nil)))), ?_⟩
    refine ⟨.ref a, rfl, a, _, rfl, .inr hT, 1, _, rfl, ⟨by decide, by decide, by rw [List.length_map]; omega, by rw [List.length_map]; omega⟩, ?_⟩
    rw [List.length_map, show ((ms.length : Int) - 1).toNat = ms.length - 1 by omega]
    refine for_range (lo := 1) (n := ms.length - 1) (fun i σ H' => ∃ (y1 : Option V), σ = [some (.ref a), y1] ∧ Same H H' ∧ ∀ k, 1 ≤ k → k < i + 1 → ¬ Per ms k)
      ⟨none, rfl, Same.refl H, fun k h1 h2 => by omega⟩ (fun i σ H1 hi h => ?_) (fun σ H1 h => ?_)
    · obtain ⟨y1, rfl, s1, hno⟩ := h
      have hT1 := sqT_same s1 hT
      refine ⟨.ref a, rfl, _, rfl, _, rfl, a, _, rfl, hT1, fun p1 G1 u1 w1 => ?_⟩
      rw [show (1 : Int) + (i : Int) = ((i + 1 : Nat) : Int) by omega] at *
      rw [cut_from, ← List.map_drop] at w1
      refine ⟨.ref a, rfl, .ref a, rfl, a, _, rfl, .inr (sqT_same u1 hT1), _, rfl, _, _, rfl, rfl, _, rfl, a, _, rfl, sqT_same u1 hT1, fun p2 G2 u2 w2 => ?_⟩
      have w2 : SqT K G2 p2 ((ms.take (ms.length - (i + 1))).map V.int) := by
        have z := w2
        rw [List.length_map, show (ms.length : Int) - ((i + 1 : Nat) : Int) = ((ms.length - (i + 1) : Nat) : Int) by omega, cut_to, ← List.map_take] at z; exact z
      refine ⟨p1, p2, _, _, rfl, rfl, sqT_same u2 w1, w2, _, rfl, ite2 (fun he => ?_) (fun he => ?_)⟩
      · have hP := per_eq.mp (of_decide_eq_true he)
        refine ⟨_, rfl, q G2 (i + 1) ((s1.trans u1).trans u2) ⟨by omega, by omega, hP, fun k k1 _ hk => ?_⟩⟩
        rcases Nat.lt_or_ge k (i + 1) with z | z
        · exact absurd hk (hno k k1 z)
        · exact z
      · refine ⟨_, rfl, (s1.trans u1).trans u2, fun k k1 k2 hk => ?_⟩
        rcases Nat.lt_or_ge k (i + 1) with z | z
        · exact hno k k1 z hk
        · have : k = i + 1 := by omega
          subst this
          exact absurd (per_eq.mpr hk) (fun z => he (decide_eq_true z))
    · obtain ⟨y1, rfl, s1, hno⟩ := h
      refine ⟨.ref a, rfl, a, _, rfl, .inr (sqT_same s1 hT), ?_⟩
      have z := q H1 ms.length s1 ⟨h0, Nat.le_refl _, fun j hj => by omega, fun k k1 k2 hk => ?_⟩
      · rw [List.length_map]; exact z
      · rcases Nat.lt_or_ge k (ms.length - 1 + 1) with z | z
        · exact absurd hk (hno k k1 z)
        · omega
end
end K29
set_option maxHeartbeats 4000000
namespace K29
open PySem PySem.Spec PyProof.Rows L2 RV
section
variable {P : Program} {w : World} {K : PySem.W.Frag} {mg : Str → Option Value} {base : Heap}
/-! ### _law_row -/
abbrev nRow : List Str := ["_law_box_here", "_law_sort", "_law_marks", "_law_some", "_law_turn", "_law_many", "_law_at"]
theorem scRow : FnScope nRow ["_law_box_here"] (defScope sRow) := ⟨rfl, rfl, rfl, by decide +kernel, rfl, by decide +kernel, by decide +kernel⟩
def spRow (K : PySem.W.Frag) : Sp := fun vs H Q _ => ∃ (p : Addr) (t : Nat), vs = [.ref p] ∧ PailAt H p t ∧ t ≤ 20000 ∧
  ∀ (H' : Hp) (a : Addr) (t' : Nat) (ms : List Int), PailAt H' p t' → t' ≤ t + 60 → But p H H' → SqT K H' a (ms.map V.int) → Rg 8 ms → 1 ≤ ms.length → ms.length ≤ 610 → Q (.ref a) H'
theorem ok_row {f fD fO : Addr} {fd fdD fdO : FuncData} (F : Fun K "_law_row" "_law_row" sRow f fd) (DD : DefAt K mg "_law_take" sDraw ["_law_box_here", "_law_many"] fD fdD) (DO : DefAt K mg "_law_of" sOf ["_law_box_here", "_law_some"] fO fdO) (B : Bare mg) : FnOk P w K mg base CX0 3 f fd ["_law_box_here"] (spRow K) := by
  have GD : FnOk P w K mg base CX0 1 fD fdD ["_law_box_here", "_law_many"] spDraw := ok_draw DD.fn
  have GO : FnOk P w K mg base CX0 2 fO fdO ["_law_box_here", "_law_some"] (spOf K) := ok_of DO.fn DD B
  refine F.ok scRow (fun vs H Q E h => ?_) (fun cdv A outer s H vs Q E hr h => ?_)
  · obtain ⟨p, t, rfl, _⟩ := h
    rfl
  · obtain ⟨p, t, rfl, hp, ht, q⟩ := h
    have r1 := hr.mono (show 1 ≤ 2 by decide)
    have one : (1 : Nat) ≤ sizeLine := by decide
    have two : (2 : Nat) ≤ sizeLine := by decide
    have four : (4 : Nat) ≤ sizeLine := by decide
    refine ⟨_, pss_cons (ps_asg (pe_tup (pa_cons (pe_call GD r1 (by rfl) DD.mg DD.fn.kp DD.bi .nil pass0 (pa_cons (pv 0) (pa_cons pe_int pa_nil))) (pa_cons (pe_call GO hr (by rfl) DO.mg DO.fn.kp DO.bi .nil pass0 (pa_cons (pv 0) (pa_cons (pe_lst (pa_cons pe_int (pa_cons pe_int (pa_cons pe_int (pa_cons pe_int pa_nil))))) pa_nil))) pa_nil))) (pg_tup rfl (pgs_cons (pg_name (i := 1) scRow.nd rfl (Or.inl rfl)) (pgs_cons (pg_name (i := 2) scRow.nd rfl (Or.inr rfl)) pgs_nil))))
      (pss_cons (ps_set (i := 3) scRow.nd rfl (Or.inl rfl) (pe_tupleOf (by rfl) B.tuple
        (pe_lc (own := [("_law_turn", 4)]) (g := gName 4) (tt := tYes) rfl scRow.nd (pi_range1 (by rfl) B.range (pa_cons (pe_op op_add pe_int (pe_call GD r1 (by rfl) DD.mg DD.fn.kp DD.bi .nil pass0 (pa_cons (pv 0) (pa_cons pe_int pa_nil)))) pa_nil)) (blkOk_by (N := nRow) (sc := defScope sRow) (by decide +kernel))
          (fun _ _ _ _ _ => pg_name (i := 4) scRow.nd rfl (Or.inl rfl)) (fun _ _ _ _ _ => pts_nil) (fun _ _ _ _ _ => pe_call GD r1 (by rfl) DD.mg DD.fn.kp DD.bi .nil pass0 (pa_cons (pv 0) (pa_cons (pv 2) pa_nil))))))
      (pss_cons (ps_if (pt_cmpR op_eq (pv 1) pe_int (nomark _))
        (pss_one (ps_ret (pe_tupleOf (by rfl) B.tuple
          (pe_lc (own := [("_law_turn", 4)]) (g := gName 4) (tt := tYes) rfl scRow.nd (pi_range1 (by rfl) B.range (pa_cons (pe_op op_add pe_int (pe_call GD r1 (by rfl) DD.mg DD.fn.kp DD.bi .nil pass0 (pa_cons (pv 0) (pa_cons pe_int pa_nil)))) pa_nil)) (blkOk_by (N := nRow) (sc := defScope sRow) (by decide +kernel))
            (fun _ _ _ _ _ => pg_name (i := 4) scRow.nd rfl (Or.inl rfl)) (fun _ _ _ _ _ => pts_nil) (fun _ _ _ _ _ => pe_call GD r1 (by rfl) DD.mg DD.fn.kp DD.bi .nil pass0 (pa_cons (pv 0) (pa_cons (pv 2) pa_nil))))))) pss_nil)
      (pss_cons (ps_set (i := 5) scRow.nd rfl (Or.inl rfl) (pe_op op_catW (pe_op op_repW (pv 3) (pe_op op_add pe_int (pe_call GD r1 (by rfl) DD.mg DD.fn.kp DD.bi .nil pass0 (pa_cons (pv 0) (pa_cons pe_int pa_nil))))) (pe_slice sl_tupW (pv 3) po_none (po_some (pe_call GD r1 (by rfl) DD.mg DD.fn.kp DD.bi .nil pass0 (pa_cons (pv 0) (pa_cons (pe_callB call_len_seq (by rfl) B.len PySem.boot_len (pa_cons (pv 3) pa_nil)) pa_nil)))))))
      (pss_cons (ps_if (pt_cmpR op_eq (pv 1) pe_int (nomark _)) (pss_one (ps_ret (pv 5))) pss_nil)
      (pss_cons (ps_if (pt_cmpR op_eq (pv 1) pe_int (nomark _))
        (pss_cons (ps_set (i := 6) scRow.nd rfl (Or.inl rfl) (pe_call GD r1 (by rfl) DD.mg DD.fn.kp DD.bi .nil pass0 (pa_cons (pv 0) (pa_cons (pe_callB call_len_seq (by rfl) B.len PySem.boot_len (pa_cons (pv 5) pa_nil)) pa_nil))))
        (pss_one (ps_ret (pe_op op_catW (pe_op op_catW (pe_slice sl_tupW (pv 5) po_none (po_some (pv 6))) (pe_tup (pa_cons (pe_call GD r1 (by rfl) DD.mg DD.fn.kp DD.bi .nil pass0 (pa_cons (pv 0) (pa_cons (pv 2) pa_nil))) pa_nil))) (pe_slice sl_tupW (pv 5) (po_some (pe_op op_add (pv 6) pe_int)) po_none))))) pss_nil)
      (pss_cons (ps_if (pt_cmpR op_eq (pv 1) pe_int (nomark _))
        (pss_one (ps_ret (pe_op op_catW (pe_op op_catW (pe_op op_repW (pe_tup (pa_cons pe_int pa_nil)) (pe_call GD r1 (by rfl) DD.mg DD.fn.kp DD.bi .nil pass0 (pa_cons (pv 0) (pa_cons pe_int pa_nil)))) (pv 3)) (pe_op op_repW (pe_tup (pa_cons pe_int pa_nil)) (pe_call GD r1 (by rfl) DD.mg DD.fn.kp DD.bi .nil pass0 (pa_cons (pv 0) (pa_cons pe_int pa_nil))))))) pss_nil)
      (pss_one (ps_ret (pe_ifExp (pt_cmpR op_eq (pv 1) pe_int (nomark _)) (pe_op op_catW (pe_op op_repW (pv 3) (pe_op op_fdiv pe_int (pe_callB call_len_seq (by rfl) B.len PySem.boot_len (pa_cons (pv 3) pa_nil)))) (pe_slice sl_tupW (pv 3) po_none (po_some (pe_call GD r1 (by rfl) DD.mg DD.fn.kp DD.bi .nil pass0 (pa_cons (pv 0) (pa_cons pe_int pa_nil)))))) (pv 3)))))))))), ?_⟩
    -- sort, marks
    refine ⟨.ref p, rfl, p, t, 6, rfl, hp, by omega, by decide, by decide, fun st t1 H1 st0 st1 ht1 hp1 b1 => ?_⟩
    refine ⟨.ref p, rfl, four, fun l nl => ?_⟩
    have sl := same_upd (o := .lst [.int 2, .int 1, .int 3, .int 8]) nl
    refine ⟨p, l, t1, _, rfl, pail_same hp1 sl, by omega, lstNew upd_same, pail_ne hp1 nl, by show 0 < 4; decide, by show 4 ≤ 1000; decide, fun j v t2 H2 hj ht2 hp2 b2 => ?_⟩
    obtain ⟨mk, hmk, z1, z2⟩ : ∃ mk : Nat, v = .int (mk : Int) ∧ 1 ≤ mk ∧ mk ≤ 8 := by
      have hj5 : j < 4 := (List.getElem?_eq_some_iff.mp hj).1
      have h5 : j = 0 ∨ j = 1 ∨ j = 2 ∨ j = 3 := by omega
      rcases h5 with e | e | e | e <;> subst e <;> cases hj
      · exact ⟨2, rfl, by decide, by decide⟩
      · exact ⟨1, rfl, by decide, by decide⟩
      · exact ⟨3, rfl, by decide, by decide⟩
      · exact ⟨8, rfl, by decide, by decide⟩
    subst hmk
    refine ⟨two, fun U nU => ⟨U, _, rfl, tupNew upd_same, rfl, _, _, rfl, _, _, rfl, rfl, ?_⟩⟩
    have sU := same_upd (o := .tup [.int st, .int (mk : Int)]) nU
    have b02 := ((b1.trans (But.of (p := p) sl)).trans b2).trans (But.of (p := p) sU)
    have hp3 := pail_same hp2 sU
    generalize upd H2 U (.tup [.int st, .int (mk : Int)]) = H3 at b02 hp3 ⊢
    clear hp1 hp2 b1 b2 sl nl sU nU
    -- some
    refine ⟨.ref p, rfl, p, t2, 7, rfl, hp3, by omega, by decide, by decide, fun c t4 H4 c0 c1 ht4 hp4 b4 => ⟨1, c, rfl, rfl, _, rfl, by omega, by omega, fun D nD => ?_⟩⟩
    obtain ⟨n, en⟩ : ∃ n : Nat, (1 + c).toNat = n := ⟨_, rfl⟩
    rw [en]
    refine lc_draws (K := K) (m := mk) (by omega) hp4 nD (fun x H' t' Q' h1 h2 kq => ⟨.ref p, rfl, .int (mk : Int), rfl, p, t', _, rfl, h1, by omega, by omega, by omega, fun r t'' H'' r0 r1 h3 h4 h5 => kq r t'' H'' r0 r1 h3 h4 h5⟩) fun H5 t5 some b5 hp5 ht5 e5 ls Rs => ?_
    refine .inl ⟨D, _, rfl, lstNew e5, fun sm nsm => ?_⟩
    have ssm := same_upd (o := .tup (some.map V.int)) nsm
    have hsm : SqT K (upd H5 sm (.tup (some.map V.int))) sm (some.map V.int) := tupNew upd_same
    have b06 := ((b02.trans b4).trans b5).trans (But.of (p := p) ssm)
    have hp6 := pail_same hp5 ssm
    generalize upd H5 sm (.tup (some.map V.int)) = H6 at hsm b06 hp6 ⊢
    have Rs8 : Rg 8 some := Rs.mono z2
    clear hp3 hp4 hp5 b02 b4 b5 ssm nsm e5
    have cat : ∀ {a b : List Int}, a.length ≤ 620 → b.length ≤ 620 → (a.map V.int).length + (b.map V.int).length ≤ sizeLine := fun h1 h2 => by
      rw [List.length_map, List.length_map]; exact Nat.le_of_lt (few2 (by omega))
    refine ⟨.int st, rfl, rfl, _, rfl, ite2 (fun _ => ?_) (fun _ => ?_)⟩
    · refine ⟨.ref p, rfl, p, t5, 30, rfl, hp6, by omega, by decide, by decide, fun c' t7 H7 c0' c1' ht7 hp7 b7 => ⟨1, c', rfl, rfl, _, rfl, by omega, by omega, fun D nD => ?_⟩⟩
      obtain ⟨n', en'⟩ : ∃ n : Nat, (1 + c').toNat = n := ⟨_, rfl⟩
      rw [en']
      refine lc_draws (K := K) (m := mk) (by omega) hp7 nD (fun x H' t' Q' h1 h2 kq => ⟨.ref p, rfl, .int (mk : Int), rfl, p, t', _, rfl, h1, by omega, by omega, by omega, fun r t'' H'' r0 r1 h3 h4 h5 => kq r t'' H'' r0 r1 h3 h4 h5⟩) fun H8 t8 xs b8 hp8 ht8 e8 l8 R8 => ?_
      refine .inl ⟨D, _, rfl, lstNew e8, fun u nu => ?_⟩
      exact q _ u t8 xs (pail_new hp8 nu) (by omega) (((b06.trans b7).trans b8).trans (But.of (same_upd nu))) (tupNew upd_same) (R8.mono z2) (by omega) (by omega)
    -- many
    refine ⟨.ref sm, rfl, .ref p, rfl, p, t5, 6, rfl, hp6, by omega, by decide, by decide, fun c2 t7 H7 c20 c21 ht7 hp7 b7 => ⟨1, c2, rfl, rfl, sm, _, _, rfl, rfl, sqT_pail hp6 b7 hsm, by omega, by omega, by rw [List.length_map]; omega, fun rp H8 s8 hrp => ?_⟩⟩
    rw [flat_map] at hrp
    have hp8 := pail_same hp7 s8
    have hsm8 := sqT_same s8 (sqT_pail hp6 b7 hsm)
    refine ⟨.ref sm, rfl, .ref p, rfl, .ref sm, rfl, sm, _, rfl, .inr hsm8, p, t7, _, rfl, hp8, by omega, by rw [List.length_map]; omega, by rw [List.length_map]; omega, fun c3 t9 H9 c30 c31 ht9 hp9 b9 => ?_⟩
    have hsm9 := sqT_pail hp8 b9 hsm8
    have hrp9 := sqT_pail hp8 b9 hrp
    refine ⟨_, rfl, sm, _, rfl, hsm9, fun p1 G1 u1 w1 => ?_⟩
    rw [show c3 = ((c3.toNat : Nat) : Int) by omega, cut_to, ← List.map_take] at w1
    have lm1 : (List.replicate (1 + c2).toNat some).flatten.length ≤ 50 := by
      rw [flat_len]
      have : (1 + c2).toNat * some.length ≤ 6 * 7 := Nat.mul_le_mul (by omega) (by omega)
      omega
    have lm0 : 1 ≤ (List.replicate (1 + c2).toNat some).flatten.length := by
      rw [flat_len]
      have : 1 * 1 ≤ (1 + c2).toNat * some.length := Nat.mul_le_mul (by omega) (by omega)
      omega
    refine ⟨rp, p1, _, _, rfl, rfl, sqT_same u1 hrp9, w1, cat (by omega) (by rw [List.length_take]; omega), fun ma G2 u2 hma => ?_⟩
    rw [← List.map_append] at hma
    have Rm : Rg 8 ((List.replicate (1 + c2).toNat some).flatten ++ some.take c3.toNat) := (Rs8.sub fun y hy => flat_mem hy).app (Rs8.sub fun y hy => List.mem_of_mem_take hy)
    have lm : 1 ≤ ((List.replicate (1 + c2).toNat some).flatten ++ some.take c3.toNat).length ∧ ((List.replicate (1 + c2).toNat some).flatten ++ some.take c3.toNat).length ≤ 60 := by
      rw [List.length_append, List.length_take]; omega
    generalize (List.replicate (1 + c2).toNat some).flatten ++ some.take c3.toNat = many at hma Rm lm
    have s92 := u1.trans u2
    have hp10 := pail_same hp9 s92
    have hsm10 := sqT_same s92 hsm9
    have b010 := (((b06.trans b7).trans (But.of (p := p) s8)).trans b9).trans (But.of (p := p) s92)
    clear hp6 hp7 hp8 hp9 b06 b7 b9 s8 u1 u2 s92 hsm hsm8 hsm9 hrp hrp9 w1 lm0 lm1
    refine ⟨.int st, rfl, rfl, _, rfl, ite2 (fun _ => ?_) (fun _ => ?_)⟩
    · exact ⟨.ref ma, rfl, q G2 ma t9 many hp10 (by omega) b010 hma Rm lm.1 (by omega)⟩
    refine ⟨.int st, rfl, rfl, _, rfl, ite2 (fun _ => ?_) (fun _ => ?_)⟩
    · -- one mark otherwise
      refine ⟨.ref p, rfl, .ref ma, rfl, ma, _, rfl, .inr hma, p, t9, _, rfl, hp10, by omega, by rw [List.length_map]; omega, by rw [List.length_map]; omega, fun at' t11 H11 at0 at1 ht11 hp11 b11 => ?_⟩
      rw [List.length_map] at at1
      have hma11 := sqT_pail hp10 b11 hma
      refine ⟨.ref ma, rfl, _, rfl, _, rfl, ma, _, rfl, hma11, fun p1 G3 u3 w1 => ?_⟩
      rw [show at' = ((at'.toNat : Nat) : Int) by omega, cut_to, ← List.map_take] at w1
      have hp12 := pail_same hp11 u3
      refine ⟨.ref p, rfl, .int (mk : Int), rfl, p, t11, _, rfl, hp12, by omega, by omega, by omega, fun r t13 H13 r0 r1 ht13 hp13 b13 => ⟨one, fun p2 np2 => ?_⟩⟩
      have s2 := same_upd (o := .tup [V.int r]) np2
      have w2 : SqT K (upd H13 p2 (.tup [V.int r])) p2 ([r].map V.int) := tupNew upd_same
      refine ⟨p1, p2, _, _, rfl, rfl, sqT_same s2 (sqT_pail hp12 b13 w1), w2, cat (by rw [List.length_take]; omega) (by simp), fun p3 G4 u4 w3 => ?_⟩
      rw [← List.map_append] at w3
      have hma14 := sqT_same (s2.trans u4) (sqT_pail hp12 b13 (sqT_same u3 hma11))
      refine ⟨.ref ma, rfl, .int at', rfl, _, 1, rfl, rfl, _, rfl, ma, _, rfl, hma14, fun p4 G5 u5 w4 => ?_⟩
      rw [show at' + 1 = ((at'.toNat + 1 : Nat) : Int) by omega, cut_from, ← List.map_drop] at w4
      refine ⟨p3, p4, _, _, rfl, rfl, sqT_same u5 w3, w4, cat (by rw [List.length_append, List.length_take]; simp; omega) (by rw [List.length_drop]; omega), fun p5 G6 u6 w5 => ?_⟩
      rw [← List.map_append] at w5
      have s16 := ((s2.trans u4).trans u5).trans u6
      refine q G6 p5 t13 _ (pail_same hp13 s16) (by omega) ((((b010.trans b11).trans (But.of (p := p) u3)).trans b13).trans (But.of s16)) w5 (((Rm.sub fun y hy => List.mem_of_mem_take hy).app (Rg.one ⟨r0, by omega⟩)).app (Rm.sub fun y hy => List.mem_of_mem_drop hy)) ?_ ?_
      · simp only [List.length_append, List.length_singleton, List.length_take, List.length_drop]; omega
      · simp only [List.length_append, List.length_singleton, List.length_take, List.length_drop]; omega
    refine ⟨.int st, rfl, rfl, _, rfl, ite2 (fun _ => ?_) (fun _ => ?_)⟩
    · -- noughts about
      refine ⟨one, fun z0 nz0 => ?_⟩
      have sz := same_upd (o := .tup [V.int 0]) nz0
      have hp11 := pail_same hp10 sz
      have hz : SqT K (upd G2 z0 (.tup [V.int 0])) z0 ([0].map V.int) := tupNew upd_same
      refine ⟨.ref p, rfl, p, t9, 9, rfl, hp11, by omega, by decide, by decide, fun c4 t12 H12 c40 c41 ht12 hp12 b12 => ?_⟩
      refine ⟨z0, _, _, rfl, rfl, sqT_pail hp11 b12 hz, by omega, by omega, by show 1 ≤ 1000; decide, fun p1 G3 u3 w1 => ?_⟩
      rw [flat_map] at w1
      have hsm12 := sqT_same u3 (sqT_pail hp11 b12 (sqT_same sz hsm10))
      have R1 : Rg 8 (List.replicate c4.toNat ([0] : List Int)).flatten := (Rg.one (n := 8) (x := 0) (by decide)).sub fun y hy => flat_mem hy
      have l1 : (List.replicate c4.toNat ([0] : List Int)).flatten.length ≤ 9 := by
        rw [flat_len]
        show c4.toNat * 1 ≤ 9
        omega
      refine ⟨.ref sm, rfl, p1, sm, _, _, rfl, rfl, w1, hsm12, cat (by omega) (by omega), fun p2 G4 u4 w2 => ?_⟩
      rw [← List.map_append] at w2
      have hp13 := pail_same hp12 (u3.trans u4)
      refine ⟨one, fun z1' nz1 => ?_⟩
      have sz1 := same_upd (o := .tup [V.int 0]) nz1
      have hp14 := pail_same hp13 sz1
      have hz1 : SqT K (upd G4 z1' (.tup [V.int 0])) z1' ([0].map V.int) := tupNew upd_same
      refine ⟨.ref p, rfl, p, t12, 9, rfl, hp14, by omega, by decide, by decide, fun c5 t15 H15 c50 c51 ht15 hp15 b15 => ?_⟩
      refine ⟨z1', _, _, rfl, rfl, sqT_pail hp14 b15 hz1, by omega, by omega, by show 1 ≤ 1000; decide, fun p3 G5 u5 w3 => ?_⟩
      rw [flat_map] at w3
      have R2 : Rg 8 (List.replicate c5.toNat ([0] : List Int)).flatten := (Rg.one (n := 8) (x := 0) (by decide)).sub fun y hy => flat_mem hy
      have l2 : (List.replicate c5.toNat ([0] : List Int)).flatten.length ≤ 9 := by
        rw [flat_len]
        show c5.toNat * 1 ≤ 9
        omega
      refine ⟨p2, p3, _, _, rfl, rfl, sqT_same u5 (sqT_pail hp14 b15 (sqT_same sz1 w2)), w3, cat (by rw [List.length_append]; omega) (by omega), fun p4 G6 u6 w4 => ?_⟩
      rw [← List.map_append] at w4
      refine q G6 p4 t15 _ (pail_same hp15 (u5.trans u6)) (by omega) ((((((b010.trans (But.of sz)).trans b12).trans (But.of (u3.trans u4))).trans (But.of sz1)).trans b15).trans (But.of (u5.trans u6))) w4 ((R1.app Rs8).app R2) ?_ ?_
      · rw [List.length_append, List.length_append]; omega
      · rw [List.length_append, List.length_append]; omega
    · refine ⟨.int st, rfl, rfl, _, rfl, ite2 (fun _ => ?_) (fun _ => ?_)⟩
      · -- some six hundred
        refine ⟨.ref sm, rfl, .ref sm, rfl, sm, _, rfl, .inr hsm10, 600, _, rfl, rfl, ⟨by rw [List.length_map]; omega, by rw [List.length_map]; omega⟩, ?_⟩
        have e0 : (600 : Int) / ((some.map V.int).length : Int) = ((600 / some.length : Nat) : Int) := by rw [List.length_map, Int.natCast_ediv]; rfl
        have q1 := Nat.div_le_self 600 some.length
        have q2 := Nat.div_mul_le_self 600 some.length
        have q3 : 1 ≤ 600 / some.length := (Nat.le_div_iff_mul_le (by omega)).mpr (by omega)
        refine ⟨sm, _, _, rfl, rfl, hsm10, by rw [e0]; omega, by rw [e0]; omega, by rw [List.length_map]; omega, fun p1 G3 u3 w1 => ?_⟩
        rw [e0, Int.toNat_natCast, flat_map] at w1
        have l1 : (List.replicate (600 / some.length) some).flatten.length = 600 / some.length * some.length := flat_len _ _
        have l2 : 1 * 1 ≤ 600 / some.length * some.length := Nat.mul_le_mul q3 (by omega)
        have R1 : Rg 8 (List.replicate (600 / some.length) some).flatten := Rs8.sub fun y hy => flat_mem hy
        have hp11 := pail_same hp10 u3
        refine ⟨.ref sm, rfl, .ref p, rfl, p, t9, 2, rfl, hp11, by omega, by decide, by decide, fun c5 t12 H12 c50 c51 ht12 hp12 b12 => ?_⟩
        refine ⟨_, rfl, sm, _, rfl, sqT_pail hp11 b12 (sqT_same u3 hsm10), fun p2 G4 u4 w2 => ?_⟩
        rw [show c5 = ((c5.toNat : Nat) : Int) by omega, cut_to, ← List.map_take] at w2
        refine ⟨p1, p2, _, _, rfl, rfl, sqT_same u4 (sqT_pail hp11 b12 w1), w2, cat (by omega) (by rw [List.length_take]; omega), fun p3 G5 u5 w3 => ?_⟩
        rw [← List.map_append] at w3
        refine q G5 p3 t12 _ (pail_same hp12 (u4.trans u5)) (by omega) (((b010.trans (But.of u3)).trans b12).trans (But.of (u4.trans u5))) w3 (R1.app (Rs8.sub fun y hy => List.mem_of_mem_take hy)) ?_ ?_
        · rw [List.length_append]; omega
        · rw [List.length_append, List.length_take]; omega
      · exact ⟨.ref sm, rfl, q G2 sm t9 some hp10 (by omega) b010 hsm10 Rs8 (by omega) (by omega)⟩
end
end K29
set_option maxHeartbeats 4000000
/-! min of a list of tuples of ints -/
namespace RV
open PySem PySem.Spec PyProof.Rows L2
section
variable {X : Cx}
def rMinL (K : PySem.W.Frag) : List V → Hp → VK → Prop := fun vs H Q => ∃ (l : Addr) (L : List (Addr × List Int)), vs = [.ref l] ∧ SqL K H l (L.map fun q => V.ref q.1) ∧ 0 < L.length ∧ (∀ q ∈ L, SqT K H q.1 (q.2.map V.int)) ∧
  ∀ q ∈ L, (∀ r ∈ L, HT.lexLt r.2 q.2 = false) → Q (.ref q.1) H
theorem cr_minL (hc : X.calm = true) (hu : X.A.units + 1 < cLine) : CallR X (.builtin "min") (rMinL X.K) := by
  intro pins s σ H vs us Q I r h
  obtain ⟨a, L, rfl, hs, h0, hk, q⟩ := h
  obtain ⟨its, rv, hl, hz⟩ := I.list hs
  rw [Vals.ref1 r]
  have ei : its = L.map fun q => Value.ref q.1 := by
    clear hs hk q hl hz h0
    induction L generalizing its with
    | nil => cases rv; rfl
    | cons k L ih =>
      cases rv with
      | cons r1 r2 =>
        cases r1
        rw [List.map_cons, ih _ r2]
  subst ei
  have at' : ∀ (i : Nat) (v : Value), (L.map fun q => Value.ref q.1).toArray[i]? = some v → ∃ k, L[i]? = some k ∧ v = .ref k.1 := fun i v hv => by
    rw [List.getElem?_toArray, List.getElem?_map] at hv
    cases e : L[i]? with
    | none => rw [e] at hv; cases hv
    | some k =>
      rw [e] at hv
      exact ⟨k, rfl, (Option.some.inj hv).symm⟩
  refine min_tups (l := fun i => ((L[i]?).map fun k => k.2).getD []) (I.ok.hd hc) hl.isList (by simpa using h0) hu (fun i v hv => ?_) fun i v h' tk hv hle kp => ?_
  · obtain ⟨k, e, rfl⟩ := at' i v hv
    rw [e]
    exact tupIn_of I (hk k (List.mem_of_getElem? e))
  · obtain ⟨k, e, rfl⟩ := at' i v hv
    refine ⟨.ref k.1, H, I.kept kp, rfl, q k (List.mem_of_getElem? e) fun r hr => ?_⟩
    obtain ⟨j, hj, ej⟩ := List.getElem_of_mem hr
    have z := hle j (by simpa using hj)
    rw [e, List.getElem?_eq_getElem hj, ej] at z
    exact z
theorem few_log {p : Nat} (h1 : 1 ≤ p) (h : p ≤ 2000) : (p : Int).natAbs.log2 < 1920 := by
  rw [Int.natAbs_natCast, Nat.log2_lt (by omega)]
  exact Nat.lt_of_le_of_lt h (Nat.lt_of_lt_of_le (show 2000 < 2 ^ 11 by decide) (Nat.pow_le_pow_right (by decide) (by decide)))
end
end RV
namespace RV
open PySem PySem.Spec PyProof.Rows L2
/-! ### what repr asks of tuples of pairs -/
theorem small_log {i : Int} (h : i.natAbs < 10 ^ 12) : i.natAbs.log2 < 1920 := by
  rcases Nat.eq_zero_or_pos i.natAbs with e | e
  · rw [e]; decide
  · have h1 : i.natAbs < 2 ^ 64 := Nat.lt_of_lt_of_le h (by decide)
    have h2 : i.natAbs.log2 < 64 := (Nat.log2_lt (by omega)).mpr h1
    omega
theorem show_ints : ∀ ns : List Int, (∀ n ∈ ns, n.natAbs < 10 ^ 12) → PyData.showableAll (ns.map PyData.int) = true
  | [], _ => by simp [PyData.showableAll]
  | n :: r, h => by
    have h1 := small_log (h n (List.mem_cons_self ..))
    have h2 := show_ints r fun m hm => h m (List.mem_cons_of_mem _ hm)
    simp [PyData.showableAll, PyData.showable, h1, h2]
theorem show_dIs : ∀ ps : List (List Int), (∀ p ∈ ps, ∀ n ∈ p, n.natAbs < 10 ^ 12) → PyData.showableAll (ps.map dI) = true
  | [], _ => by simp [PyData.showableAll]
  | p :: r, h => by
    have h1 := show_ints p (h p (List.mem_cons_self ..))
    have h2 := show_dIs r fun m hm => h m (List.mem_cons_of_mem _ hm)
    have h3 : (dI p).showable = true := by simp only [dI, PyData.showable]; exact h1
    simp [PyData.showableAll, h3, h2]
theorem short_dIs : ∀ ps : List (List Int), (∀ p ∈ ps, ∀ n ∈ p, n.natAbs < 10 ^ 12) → PyData.intsShortAll 13 (ps.map dI) = true
  | [], _ => by simp [PyData.intsShortAll]
  | p :: r, h => by
    have h1 := PyData.intsShortAll_ints p (h p (List.mem_cons_self ..))
    have h2 := short_dIs r fun m hm => h m (List.mem_cons_of_mem _ hm)
    have h3 : (dI p).intsShort 13 = true := by simp only [dI, PyData.intsShort]; exact h1
    simp [PyData.intsShortAll, h3, h2]
theorem bulk_ints : ∀ ns : List Int, PyData.bulkAll (ns.map PyData.int) = ns.length
  | [] => by simp [PyData.bulkAll]
  | n :: r => by simp [PyData.bulkAll, PyData.bulk, bulk_ints r]; omega
theorem bulk_dIs : ∀ ps : List (List Int), (∀ p ∈ ps, p.length ≤ 2) → PyData.bulkAll (ps.map dI) ≤ 3 * ps.length
  | [], _ => by simp [PyData.bulkAll]
  | p :: r, h => by
    have h1 : (dI p).bulk = p.length := by simp only [dI, PyData.bulk, bulk_ints]
    have h2 := bulk_dIs r fun m hm => h m (List.mem_cons_of_mem _ hm)
    have h3 := h p (List.mem_cons_self ..)
    simp only [List.map_cons, PyData.bulkAll, h1, List.length_cons]
    omega
/-- (ps, os), two tuples of pairs -/
def d2 (ps os : List (List Int)) : PyData := .tuple [dTT ps, dTT os]
theorem pr_small {b : Int} (hb : b ≤ 64) {ps : List (List Int)} (h : ∀ p ∈ ps, Pr b p) : ∀ p ∈ ps, ∀ n ∈ p, n.natAbs < 10 ^ 12 := fun p hp n hn => by
  obtain ⟨x, y, rfl, hx, hy⟩ := h p hp
  simp only [List.mem_cons, List.not_mem_nil, or_false] at hn
  rcases hn with rfl | rfl <;> omega
theorem pr_len {b : Int} {ps : List (List Int)} (h : ∀ p ∈ ps, Pr b p) : ∀ p ∈ ps, p.length ≤ 2 := fun p hp => by
  obtain ⟨x, y, rfl, _⟩ := h p hp
  simp
structure Reprs (ps os : List (List Int)) : Prop where
  h1 : (d2 ps os).showable = true
  h2 : (d2 ps os).hasDict = false
  h3 : (d2 ps os).depth ≤ 64
  h4 : (d2 ps os).shown.length ≤ sizeLine
theorem reprs {b c : Int} (hb : b ≤ 64) (hc : c ≤ 64) {ps os : List (List Int)} (h : ∀ p ∈ ps, Pr b p) (h' : ∀ p ∈ os, Pr c p) (l1 : ps.length ≤ 1000) (l2 : os.length ≤ 1000) : Reprs ps os := by
  have lay : (d2 ps os).canLay0 = true := by
    simp only [d2, dTT, PyData.canLay0, PyData.canLayAll0, lay_dI, Bool.and_self]
  refine ⟨?_, PyData.hasDict_of_canLay _ lay, ?_, ?_⟩
  · simp only [d2, dTT, PyData.showable, PyData.showableAll, show_dIs ps (pr_small hb h), show_dIs os (pr_small hc h'), Bool.and_self]
  · have h1 := dep_dI ps
    have h2 := dep_dI os
    simp only [d2, dTT, PyData.depth, PyData.depthAll]
    omega
  · refine PyData.shown_fits_bulk (B := 13) (by decide) (by decide) (PyData.leavesShort_of_canLay0 13 _ lay ?_) ?_
    · simp only [d2, dTT, PyData.intsShort, PyData.intsShortAll, short_dIs ps (pr_small hb h), short_dIs os (pr_small hc h'), Bool.and_self]
    · have h1 := bulk_dIs ps (pr_len h)
      have h2 := bulk_dIs os (pr_len h')
      simp only [d2, dTT, PyData.bulk, PyData.bulkAll]
      omega
theorem d2_dp {K : PySem.W.Frag} {H : Hp} {T a b : Addr} {ps os : List (List Int)} (h : H T = some (.tup [.ref a, .ref b])) (h1 : Tups K H a ps) (h2 : Tups K H b os) : Dp K H (.ref T) (d2 ps os) :=
  .tup (.inl (.inl h)) (.cons h1.dp (.cons h2.dp .nil))
end RV
namespace RV
open PySem PySem.Spec PyProof.Rows L2
/-- (ns, ps): mirrors and steps -/
def d1 (ns : List Int) (ps : List (List Int)) : PyData := .tuple [dI ns, dTT ps]
structure Shows (d : PyData) : Prop where
  h1 : d.showable = true
  h2 : d.hasDict = false
  h3 : d.depth ≤ 64
  h4 : d.shown.length ≤ sizeLine
theorem shows_d1 {b : Int} (hb : b ≤ 64) {ns : List Int} {ps : List (List Int)} (hn : ∀ n ∈ ns, n.natAbs < 10 ^ 12) (ln : ns.length ≤ 1000) (h : ∀ p ∈ ps, Pr b p) (l1 : ps.length ≤ 1000) : Shows (d1 ns ps) := by
  have lay : (d1 ns ps).canLay0 = true := by
    simp only [d1, dTT, PyData.canLay0, PyData.canLayAll0, lay_dI, dI_lay, Bool.and_self]
  have i1 : (dI ns).showable = true := by simp only [dI, PyData.showable]; exact show_ints ns hn
  have i2 : (dI ns).intsShort 13 = true := by simp only [dI, PyData.intsShort]; exact PyData.intsShortAll_ints ns hn
  have i3 : (dI ns).bulk = ns.length := by simp only [dI, PyData.bulk, bulk_ints]
  refine ⟨?_, PyData.hasDict_of_canLay _ lay, ?_, ?_⟩
  · simp only [d1, dTT, PyData.showable, PyData.showableAll, i1, show_dIs ps (pr_small hb h), Bool.and_self]
  · have h1 := dep_dI ps
    simp only [d1, dTT, PyData.depth, PyData.depthAll, dI_dep]
    omega
  · refine PyData.shown_fits_bulk (B := 13) (by decide) (by decide) (PyData.leavesShort_of_canLay0 13 _ lay ?_) ?_
    · simp only [d1, dTT, PyData.intsShort, PyData.intsShortAll, i2, short_dIs ps (pr_small hb h), Bool.and_self]
    · have h1 := bulk_dIs ps (pr_len h)
      simp only [d1, dTT, PyData.bulk, PyData.bulkAll, i3]
      omega
theorem shows_dI {ns : List Int} (hn : ∀ n ∈ ns, n.natAbs < 10 ^ 12) (ln : ns.length ≤ 1000) : Shows (dI ns) := by
  have i3 : (dI ns).bulk = ns.length := by simp only [dI, PyData.bulk, bulk_ints]
  refine ⟨by simp only [dI, PyData.showable]; exact show_ints ns hn, PyData.hasDict_of_canLay _ (dI_lay ns), by rw [dI_dep]; decide, ?_⟩
  refine PyData.shown_fits_bulk (B := 13) (by decide) (by decide) (PyData.leavesShort_of_canLay0 13 _ (dI_lay ns) ?_) (by rw [i3]; omega)
  simp only [dI, PyData.intsShort]; exact PyData.intsShortAll_ints ns hn
theorem d1_dp {K : PySem.W.Frag} {H : Hp} {T a b : Addr} {ns : List Int} {ps : List (List Int)} (h : H T = some (.tup [.ref a, .ref b])) (h1 : SqT K H a (ns.map V.int)) (h2 : Tups K H b ps) : Dp K H (.ref T) (d1 ns ps) :=
  .tup (.inl (.inl h)) (.cons (dpT h1) (.cons h2.dp .nil))
theorem shaped_d1 (ns : List Int) (ps : List (List Int)) : SeqAt.shaped (d1 ns ps) = true := by
  have h1 := dep_dI ps
  have e : (d1 ns ps).depth ≤ 64 := by simp only [d1, dTT, PyData.depth, PyData.depthAll, dI_dep]; omega
  show ((d1 ns ps).canLay0 && decide ((d1 ns ps).depth ≤ 64)) = true
  rw [decide_eq_true e, Bool.and_true]
  simp only [d1, dTT, PyData.canLay0, PyData.canLayAll0, lay_dI, dI_lay, Bool.and_self]
theorem eqv_d1 (ns ms : List Int) (ps qs : List (List Int)) : PyData.eqv (d1 ns ps) (d1 ms qs) = (decide (ns = ms) && decide (ps = qs)) := by
  simp only [d1, PyData.eqv, PyData.eqvAll, eqvI, eqvTT, Bool.and_true]
end RV
set_option maxHeartbeats 4000000
namespace K29
open PySem PySem.Spec PyProof.Rows L2 RV
/-- [row[at:] + row[:at] for at in range(n)] -/
theorem lc_turns {K : PySem.W.Frag} {te : TE} {σ : L2.St} {H1 : Hp} {D : Addr} {v n : Nat} {ms : List Int} {Qd : Hp → Prop} (hn : n ≤ 2000) (nD : H1 D = none)
    (hte : ∀ (i : Nat), i < n → ∀ (H' : Hp) (Q : VK), Same H1 H' → (∀ (t : Addr) (H'' : Hp), Same H' H'' → SqT K H'' t ((trn ms i).map V.int) → Q (.ref t) H'') → te ((wipe σ [v]).set v (some (.int (i : Int)))) H' Q)
    (hd : ∀ (H' : Hp) (L : List (Addr × List Int)), Same H1 H' → H' D = some (.lst (L.map fun q => V.ref q.1)) → L.length = n → (∀ q ∈ L, SqT K H' q.1 (q.2.map V.int)) → (∀ q ∈ L, ∃ k, k < n ∧ q.2 = trn ms k) → (∀ k, k < n → ∃ q ∈ L, q.2 = trn ms k) → Qd H') :
    ∃ W : Nat → Nat → Hp → Prop, (∃ m, W 0 m (upd H1 D (.lst []))) ∧ ∀ i m H, W i m H →
      ((Itr 0 n).stop i H ∧ Qd H) ∨ ((Itr 0 n).go i H ∧ ∃ Nx : Hp → Prop, (∀ H', Nx H' → ∃ m', m' < m ∧ W (i + 1) m' H') ∧ ∀ x H', (Itr 0 n).yld i H x H' → gName v x (wipe σ [v]) H' fun σ2 H2 => wipe σ2 [v] = wipe σ [v] ∧ tYes σ2 H2 fun b H3 =>
        if b = true then te σ2 H3 fun y H4 => ∃ acc, H4 D = some (.lst acc) ∧ acc.length < sizeLine ∧ Nx (upd H4 D (.lst (acc ++ [y]))) else Nx H3) := by
  refine lc_range (lo := 0) (n := n) (fun i H' => ∃ L : List (Addr × List Int), Same H1 H' ∧ H' D = some (.lst (L.map fun q => V.ref q.1)) ∧ L.length = i ∧ (∀ q ∈ L, SqT K H' q.1 (q.2.map V.int)) ∧ (∀ q ∈ L, ∃ k, k < i ∧ q.2 = trn ms k) ∧ (∀ k, k < i → ∃ q ∈ L, q.2 = trn ms k))
    ⟨[], same_upd nD, upd_same, rfl, (fun q hq => by cases hq), (fun q hq => by cases hq), fun k hk => by omega⟩ (fun i H' hi h => ?_) fun H2 h => ?_
  · obtain ⟨L, s', eD, lL, hT, h1, h2⟩ := h
    refine ⟨by simp [wipe, List.set_set], tt_yes ?_⟩
    rw [show (0 : Int) + (i : Int) = (i : Int) by omega]
    refine hte i hi H' _ s' fun t H2 s2 ht => ?_
    have eD2 := s2 _ _ eD
    refine ⟨_, eD2, by rw [List.length_map]; exact few2 (by omega), L ++ [(t, trn ms i)], fun b o z => ?_, ?_, by rw [List.length_append, lL]; rfl, fun q hq => ?_, fun q hq => ?_, fun k hk => ?_⟩
    · rw [upd_ne (ne_of_none z nD)]; exact s2 _ _ (s' b o z)
    · rw [upd_same, List.map_append]; rfl
    · refine sqT_lst eD2 ?_
      rcases List.mem_append.mp hq with z | z
      · exact sqT_same s2 (hT q z)
      · rw [List.mem_singleton.mp z]; exact ht
    · rcases List.mem_append.mp hq with z | z
      · obtain ⟨k, h3, h4⟩ := h1 q z
        exact ⟨k, by omega, h4⟩
      · rw [List.mem_singleton.mp z]; exact ⟨i, by omega, rfl⟩
    · rcases Nat.lt_or_ge k i with z | z
      · obtain ⟨q, h3, h4⟩ := h2 k z
        exact ⟨q, List.mem_append.mpr (.inl h3), h4⟩
      · have : k = i := by omega
        subst this
        exact ⟨_, List.mem_append.mpr (.inr (List.mem_singleton.mpr rfl)), rfl⟩
  · obtain ⟨L, s', eD, lL, hT, h1, h2⟩ := h
    exact hd H2 L s' eD lL hT h1 h2
section
variable {P : Program} {w : World} {K : PySem.W.Frag} {mg : Str → Option Value} {base : Heap}
/-! ### _law_right -/
abbrev nRight : List Str := ["_law_box_here", "_law_row_here", "_law_due", "_law_at", "_law_many", "_law_aside", "_law_p"]
theorem scRight : FnScope nRight ["_law_box_here"] (defScope sRight) := ⟨rfl, rfl, rfl, by decide +kernel, rfl, by decide +kernel, by decide +kernel⟩
def spRight : Sp := fun vs H Q _ => ∃ (p : Addr) (t : Nat), vs = [.ref p] ∧ PailAt H p t ∧ t ≤ 20000 ∧
  ∀ (H' : Hp) (t' : Nat), PailAt H' p t' → t' ≤ t + 70 → But p H H' → Q (.bl true) H'
theorem ok_right {f fB fL fT fD fO fW fP : Addr} {fd dB dL dT dD dO dW dP : FuncData} (F : Fun K "_law_right" "_law_right" sRight f fd) (B : Bare mg)
    (DB : DefAt K mg "borders" sBorders ["marks"] fB dB) (DL : DefAt K mg "least_period" sLeastP ["marks"] fL dL) (DT : DefAt K mg "least_turn" sLeastT ["marks"] fT dT)
    (DD : DefAt K mg "_law_take" sDraw ["_law_box_here", "_law_many"] fD dD) (DO : DefAt K mg "_law_of" sOf ["_law_box_here", "_law_some"] fO dO)
    (DW : DefAt K mg "_law_row" sRow ["_law_box_here"] fW dW) (DP : DefAt K mg "_law_period" sLPeriod ["_law_row_here"] fP dP) : FnG P w K mg base CX0 4 f fd ["_law_box_here"] spRight := by
  have GD : FnOk P w K mg base CX0 1 fD dD ["_law_box_here", "_law_many"] spDraw := ok_draw DD.fn
  have GW : FnOk P w K mg base CX0 3 fW dW ["_law_box_here"] (spRow K) := ok_row DW.fn DD DO B
  have GL : FnOk P w K mg base CX0 2 fL dL ["marks"] (spLeastP K) := ok_leastP DL.fn DB B
  have GT : FnOk P w K mg base CX0 2 fT dT ["marks"] (spLeastT K) := ok_leastT DT.fn B
  have GP : FnOk P w K mg base CX0 1 fP dP ["_law_row_here"] (spLeastP K) := ok_lperiod DP.fn B
  refine okG F scRight (fun vs H Q E h => ?_) (fun cdv A outer s H vs Q E gd hr h => ?_)
  · obtain ⟨p, t, rfl, _⟩ := h
    rfl
  · obtain ⟨p, t, rfl, hp, ht, q⟩ := h
    have r1 := hr.mono (show 1 ≤ 3 by decide)
    have r2 := hr.mono (show 2 ≤ 3 by decide)
    have two : (2 : Nat) ≤ sizeLine := by decide
    have hu := un65 hr
    refine ⟨_, pss_cons (ps_set (i := 1) scRight.nd rfl (Or.inr rfl) (pe_call GW hr (by rfl) DW.mg DW.fn.kp DW.bi .nil pass0 (pa_cons (pv 0) pa_nil)))
      (pss_cons (ps_set (i := 2) scRight.nd rfl (Or.inl rfl) (pe_callB (cr_minL rfl (Nat.lt_of_le_of_lt (Nat.add_le_add_left (show 1 ≤ 64 by decide) _) hr.units)) (by rfl) B.min (by decide +kernel) (pa_cons
        (pe_lc (own := [("_law_at", 3)]) (g := gName 3) (tt := tYes) rfl scRight.nd (pi_range1 (by rfl) B.range (pa_cons (pe_callB call_len_seq (by rfl) B.len PySem.boot_len (pa_cons (pv 1) pa_nil)) pa_nil)) (blkOk_by (N := nRight) (sc := defScope sRight) (by decide +kernel))
          (fun _ _ _ _ _ => pg_name (i := 3) scRight.nd rfl (Or.inl rfl)) (fun _ _ _ _ _ => pts_nil)
          (fun _ _ _ _ _ => pe_op (op_catWK (K := K) rfl) (pe_slice (sl_tupWK (K := K) rfl) (pv 1) (po_some (pv 3)) po_none) (pe_slice (sl_tupWK (K := K) rfl) (pv 1) po_none (po_some (pv 3))))) pa_nil)))
      (pss_cons (ps_if (PW.pt (pw_or (pt_cmpR op_ne (pe_callB SkE.call_repr_int (by rfl) B.repr (by decide +kernel) (pa_cons (pe_call GL r2 (by rfl) DL.mg DL.fn.kp DL.bi .nil pass0 (pa_cons (pv 1) pa_nil)) pa_nil)) (pe_callB SkE.call_repr_int (by rfl) B.repr (by decide +kernel) (pa_cons (pe_call GP r1 (by rfl) DP.mg DP.fn.kp DP.bi .nil pass0 (pa_cons (pv 1) pa_nil)) pa_nil)) (nomark _))
          (pw_or1 (pt_cmpR op_ne (pe_callB (call_reprD gd hu) (by rfl) B.repr (by decide +kernel) (pa_cons (pe_call GT r2 (by rfl) DT.mg DT.fn.kp DT.bi .nil pass0 (pa_cons (pv 1) pa_nil)) pa_nil)) (pe_callB (call_reprD gd hu) (by rfl) B.repr (by decide +kernel) (pa_cons (pv 2) pa_nil)) (nomark _))))) (pss_one (ps_ret pe_bl)) pss_nil)
      (pss_cons (ps_par (i := 3) (j := 4) (by rfl) scRight.nd rfl rfl (by decide) rfl rfl (pa_cons (pe_call GD r1 (by rfl) DD.mg DD.fn.kp DD.bi .nil pass0 (pa_cons (pv 0) (pa_cons (pe_callB call_len_seq (by rfl) B.len PySem.boot_len (pa_cons (pv 1) pa_nil)) pa_nil))) (pa_cons (pe_op op_add pe_int (pe_call GD r1 (by rfl) DD.mg DD.fn.kp DD.bi .nil pass0 (pa_cons (pv 0) (pa_cons pe_int pa_nil)))) pa_nil)) (by rfl))
      (pss_cons (ps_set (i := 5) scRight.nd rfl (Or.inl rfl) (pe_op op_catW (pe_slice sl_tupW (pv 1) (po_some (pv 3)) po_none) (pe_slice sl_tupW (pv 1) po_none (po_some (pv 3)))))
      (pss_cons (ps_if (PW.pt (pw_or (pt_cmpR (op_neD hr.units) (pe_call GT r2 (by rfl) DT.mg DT.fn.kp DT.bi .nil pass0 (pa_cons (pv 5) pa_nil)) (pv 2) (nomark _))
          (pw_or (pt_cmpR (op_neD hr.units) (pe_call GT r2 (by rfl) DT.mg DT.fn.kp DT.bi .nil pass0 (pa_cons (pe_op op_repW (pv 1) (pv 4)) pa_nil)) (pe_op op_repW (pv 2) (pv 4)) (nomark _))
          (pw_or1 (pt_cmpR (op_neD hr.units) (pe_call GT r2 (by rfl) DT.mg DT.fn.kp DT.bi .nil pass0 (pa_cons (pv 2) pa_nil)) (pv 2) (nomark _)))))) (pss_one (ps_ret pe_bl)) pss_nil)
      (pss_cons (ps_set (i := 6) scRight.nd rfl (Or.inl rfl) (pe_call GL r2 (by rfl) DL.mg DL.fn.kp DL.bi .nil pass0 (pa_cons (pe_op op_repW (pv 1) pe_int) pa_nil)))
      (pss_one (ps_ret (pe_or (pe_cmpR op_ne (pe_op op_mod (pe_callB call_len_seq (by rfl) B.len PySem.boot_len (pa_cons (pv 1) pa_nil)) (pv 6)) pe_int (nomark _))
        (pe_one (pe_and (pe_cmpR op_eq (pe_call GL r2 (by rfl) DL.mg DL.fn.kp DL.bi .nil pass0 (pa_cons (pe_op op_repW (pv 5) pe_int) pa_nil)) (pv 6) (nomark _))
          (pe_one (pe_cmpR op_eq (pe_call GL r2 (by rfl) DL.mg DL.fn.kp DL.bi .nil pass0 (pa_cons (pe_op op_repW (pe_slice sl_tupW (pv 1) po_none (po_some (pv 6))) pe_int) pa_nil)) (pv 6) (nomark _)))))))))))))), ?_⟩
    -- row
    refine ⟨.ref p, rfl, p, t, rfl, hp, ht, fun H1 a t1 ms hp1 ht1 b1 hA Rm m1 m2 => ?_⟩
    have sml : ∀ n ∈ ms, n.natAbs < 10 ^ 12 := fun n hn => by have := Rm n hn; omega
    -- due
    refine ⟨.ref a, rfl, a, _, rfl, .inr hA, _, rfl, by rw [List.length_map]; omega, by rw [List.length_map]; omega, fun D nD => ?_⟩
    rw [List.length_map, Int.toNat_natCast]
    refine lc_turns (K := K) (ms := ms) (by omega) nD (fun i hi H' Q' s' kk => ?_) fun H2 L s2 eD lL hLT h1 h2 => ?_
    · have hA' := sqT_same s' hA
      refine ⟨.ref a, rfl, _, rfl, _, rfl, a, _, rfl, hA', fun p1 G1 u1 w1 => ?_⟩
      rw [cut_from, ← List.map_drop] at w1
      refine ⟨.ref a, rfl, _, rfl, _, rfl, a, _, rfl, sqT_same u1 hA', fun p2 G2 u2 w2 => ?_⟩
      rw [cut_to, ← List.map_take] at w2
      refine ⟨p1, p2, _, _, rfl, rfl, sqT_same u2 w1, w2, ?_, fun p3 G3 u3 w3 => ?_⟩
      · rw [List.length_map, List.length_map, List.length_drop, List.length_take]; exact Nat.le_of_lt (few2 (by omega))
      rw [← List.map_append] at w3
      exact kk p3 G3 ((u1.trans u2).trans u3) w3
    refine ⟨D, L, rfl, lstNew eD, by omega, hLT, fun qd hqd hle => ?_⟩
    obtain ⟨du, due⟩ := qd
    have hDu := hLT _ hqd
    have I0 : IsLT ms due := ⟨h1 _ hqd, fun k hk => by
      obtain ⟨r, hr', er⟩ := h2 k hk
      rw [← er]; exact hle r hr'⟩
    have ld := I0.len
    dsimp only at hDu hle ⊢
    have b2 := b1.trans (But.of (p := p) s2)
    have hA2 := sqT_same s2 hA
    have hp2 := pail_same hp1 s2
    clear hLT h1 h2 hle hqd eD nD s2 lL
    have smd : ∀ n ∈ due, n.natAbs < 10 ^ 12 := fun n hn => by
      obtain ⟨k, hk, e⟩ := I0.1
      rw [e] at hn
      refine sml n ?_
      rcases List.mem_append.mp hn with z | z
      · exact List.mem_of_mem_drop z
      · exact List.mem_of_mem_take z
    have shD : Shows (RV.dI due) := shows_dI smd (by omega)
    -- as the law finds it
    refine ⟨.ref a, rfl, a, ms, rfl, hA2, m1, by omega, fun H3 k3 s3 P3 => ⟨_, rfl, few_log P3.1 (by have := P3.2.1; omega), .ref a, rfl, a, ms, rfl, sqT_same s3 hA2, m1, by omega, fun H4 k4 s4 P4 => ⟨_, rfl, few_log P4.1 (by have := P4.2.1; omega), rfl, _, rfl, ?_⟩⟩⟩
    cases P3.uniq P4
    rw [decide_eq_true rfl]
    refine iteF ?_
    have s34 := s3.trans s4
    refine ⟨.ref a, rfl, a, ms, rfl, sqT_same s34 hA2, m1, by omega, fun H5 t5 ys5 s5 w5 I5 => ?_⟩
    cases I0.uniq I5
    have s35 := s34.trans s5
    refine ⟨t5, _, rfl, dpT w5, shD.h1, shD.h2, shD.h3, shD.h4, .ref du, rfl, du, _, rfl, dpT (sqT_same s35 hDu), shD.h1, shD.h2, shD.h3, shD.h4, rfl, _, rfl, ?_⟩
    rw [decide_eq_true rfl]
    refine iteF ?_
    have hA5 := sqT_same s35 hA2
    have hDu5 := sqT_same s35 hDu
    have hp5 := pail_same hp2 s35
    have b5 := b2.trans (But.of (p := p) s35)
    clear hA2 hDu hp2 b2 s35 s34 s3 s4 s5 w5 P3 P4
    -- at, many
    refine ⟨.ref p, rfl, .ref a, rfl, a, _, rfl, .inr hA5, p, t1, _, rfl, hp5, by omega, by rw [List.length_map]; omega, by rw [List.length_map]; omega, fun at' t6 H6 at0 at1 ht6 hp6 b6 => ?_⟩
    rw [List.length_map] at at1
    refine ⟨.ref p, rfl, p, t6, 3, rfl, hp6, by omega, by decide, by decide, fun c t7 H7 c0 c1 ht7 hp7 b7 => ⟨1, c, rfl, rfl, _, _, rfl, ?_⟩⟩
    dsimp only
    obtain ⟨k, rfl⟩ : ∃ k : Nat, at' = (k : Int) := ⟨at'.toNat, by omega⟩
    obtain ⟨m, em⟩ : ∃ m : Nat, 1 + c = (m : Int) := ⟨(1 + c).toNat, by omega⟩
    rw [em]
    have hA7 := sqT_pail hp6 b7 (sqT_pail hp5 b6 hA5)
    have hDu7 := sqT_pail hp6 b7 (sqT_pail hp5 b6 hDu5)
    have b07 := (b5.trans b6).trans b7
    clear hA5 hDu5 hp5 hp6 b5 b6 b7
    -- aside
    refine ⟨.ref a, rfl, _, rfl, _, rfl, a, _, rfl, hA7, fun p1 G1 u1 w1 => ?_⟩
    rw [cut_from, ← List.map_drop] at w1
    refine ⟨.ref a, rfl, _, rfl, _, rfl, a, _, rfl, sqT_same u1 hA7, fun p2 G2 u2 w2 => ?_⟩
    rw [cut_to, ← List.map_take] at w2
    refine ⟨p1, p2, _, _, rfl, rfl, sqT_same u2 w1, w2, ?_, fun as G3 u3 w3 => ?_⟩
    · rw [List.length_map, List.length_map, List.length_drop, List.length_take]; exact Nat.le_of_lt (few2 (by omega))
    have w3 : SqT K G3 as ((trn ms k).map V.int) := by
      have z := w3
      rw [← List.map_append] at z; exact z
    have s13 := (u1.trans u2).trans u3
    have hA8 := sqT_same s13 hA7
    have hDu8 := sqT_same s13 hDu7
    have hp8 := pail_same hp7 s13
    have b08 := b07.trans (But.of (p := p) s13)
    clear hA7 hDu7 hp7 b07 w1 w2 u1 u2 u3 s13
    have hk : k < ms.length := by omega
    have la : (trn ms k).length = ms.length := trn_len
    -- turned, powers, itself
    refine ⟨.ref as, rfl, as, _, rfl, w3, by omega, by omega, fun H9 t9 ys9 s9 w9 I9 => ?_⟩
    cases (I0.turn hk).uniq I9
    refine ⟨.ref du, rfl, RV.dI due, RV.dI due, dpT w9, dpT (sqT_same s9 hDu8), shapedI _, shapedI _, _, rfl, ?_⟩
    rw [eqvI, decide_eq_true rfl]
    refine iteF ?_
    have pml : (pw m ms).length ≤ 2000 := by
      rw [pw_len]
      have : m * ms.length ≤ 3 * 610 := Nat.mul_le_mul (by omega) m2
      omega
    have pm0 : 0 < (pw m ms).length := by
      rw [pw_len]
      have : 1 * 1 ≤ m * ms.length := Nat.mul_le_mul (by omega) m1
      omega
    refine ⟨.ref a, rfl, .int (m : Int), rfl, a, _, _, rfl, rfl, sqT_same s9 hA8, by omega, by omega, by rw [List.length_map]; omega, fun q1 H10 s10 v1 => ?_⟩
    rw [Int.toNat_natCast, flat_map] at v1
    refine ⟨q1, pw m ms, rfl, v1, pm0, pml, fun H11 t11 ys11 s11 w11 I11 => ?_⟩
    cases (I0.pow (show 0 < m by omega)).uniq I11
    have s911 := (s9.trans s10).trans s11
    refine ⟨.ref du, rfl, .int (m : Int), rfl, du, _, _, rfl, rfl, sqT_same s911 hDu8, by omega, by omega, by rw [List.length_map]; omega, fun q2 H12 s12 v2 => ?_⟩
    rw [Int.toNat_natCast, flat_map] at v2
    refine ⟨RV.dI (pw m due), RV.dI (pw m due), dpT (sqT_same s12 w11), dpT v2, shapedI _, shapedI _, _, rfl, ?_⟩
    rw [eqvI, decide_eq_true rfl]
    refine iteF ?_
    have s912 := s911.trans s12
    refine ⟨.ref du, rfl, du, _, rfl, sqT_same s912 hDu8, by omega, by omega, fun H13 t13 ys13 s13 w13 I13 => ?_⟩
    cases I0.self.uniq I13
    have s913 := s912.trans s13
    refine ⟨.ref du, rfl, RV.dI due, RV.dI due, dpT w13, dpT (sqT_same s913 hDu8), shapedI _, shapedI _, _, rfl, ?_⟩
    rw [eqvI, decide_eq_true rfl]
    refine iteF ?_
    have hA13 := sqT_same s913 hA8
    have hS13 := sqT_same s913 w3
    have hp13 := pail_same hp8 s913
    have b013 := b08.trans (But.of (p := p) s913)
    clear hA8 hDu8 hp8 b08 w3 s9 s10 s11 s12 s13 s911 s912 s913 w9 w11 w13 v1 v2
    -- p
    refine ⟨.ref a, rfl, a, _, _, rfl, rfl, hA13, by decide, by decide, by rw [List.length_map]; omega, fun q3 H14 s14 v3 => ?_⟩
    rw [flat_map] at v3
    have l2 : (pw 2 ms).length = 2 * ms.length := pw_len _ _
    refine ⟨q3, pw 2 ms, rfl, v3, by omega, by omega, fun H15 k15 s15 P15 => ?_⟩
    obtain ⟨r1', r2', r3'⟩ := P15.round (by omega)
    have k1 := P15.1
    have s1315 := s14.trans s15
    refine ⟨.ref a, rfl, a, _, rfl, .inr (sqT_same s1315 hA13), .int (k15 : Int), rfl, _, _, rfl, rfl, (show (0 : Int) < (k15 : Int) by omega), rfl, _, rfl, ite2 (fun _ => ?_) (fun _ => ?_)⟩
    · exact q H15 t7 (pail_same hp13 s1315) (by omega) (b013.trans (But.of s1315))
    · refine ⟨.ref as, rfl, as, _, _, rfl, rfl, sqT_same s1315 hS13, by decide, by decide, by rw [List.length_map]; omega, fun q4 H16 s16 v4 => ?_⟩
      rw [flat_map] at v4
      have l4 : (pw 2 (trn ms k)).length = 2 * ms.length := by rw [pw_len, la]
      refine ⟨q4, pw 2 (trn ms k), rfl, v4, by omega, by omega, fun H17 k17 s17 P17 => ?_⟩
      cases (r2' k hk).uniq P17
      refine ⟨.int (k15 : Int), rfl, rfl, _, rfl, ?_⟩
      rw [decide_eq_true rfl]
      have s1317 := (s1315.trans s16).trans s17
      refine iteT ⟨.ref a, rfl, _, rfl, _, rfl, a, _, rfl, sqT_same s1317 hA13, fun q5 H18 s18 v5 => ?_⟩
      rw [cut_to, ← List.map_take] at v5
      have l5 : (ms.take k15).length = k15 := by rw [List.length_take]; omega
      refine ⟨q5, _, _, rfl, rfl, v5, by decide, by decide, by rw [List.length_map]; omega, fun q6 H19 s19 v6 => ?_⟩
      rw [flat_map] at v6
      have l6 : (pw 3 (ms.take k15)).length = 3 * k15 := by rw [pw_len, l5]
      refine ⟨q6, pw 3 (ms.take k15), rfl, v6, by omega, by omega, fun H20 k20 s20 P20 => ?_⟩
      cases r3'.uniq P20
      refine ⟨.int (k15 : Int), rfl, rfl, ?_⟩
      rw [decide_eq_true rfl]
      have s1320 := ((s1317.trans s18).trans s19).trans s20
      exact q H20 t7 (pail_same hp13 s1320) (by omega) (b013.trans (But.of s1320))
end
end K29
set_option maxHeartbeats 4000000
namespace K29
open PySem PySem.Spec PyProof.Rows L2 RV
section
variable {P : Program} {w : World} {K : PySem.W.Frag} {mg : Str → Option Value} {base : Heap}
/-! ### law -/
abbrev nLaw : List Str := ["_law_script", "_law_k", "_law_box_here", "_law_turn"]
theorem scLaw : FnScope nLaw ["_law_script"] (defScope sLaw) := ⟨rfl, rfl, rfl, by decide +kernel, rfl, by decide +kernel, by decide +kernel⟩
def spLaw (K : PySem.W.Frag) : Sp := fun vs H Q _ => ∃ (a : Addr) (ns : List Int), vs = [.ref a] ∧ SqL K H a (ns.map V.int) ∧ ns.length ≤ 63 ∧ ∀ H', Q (.bl true) H'
theorem ok_law {f fH fR : Addr} {fd dH dR : FuncData} (F : Fun K "law" "law" sLaw f fd) (B : Bare mg)
    (DH : DefAt K mg "_law_box" sHand ["_law_script", "_law_k"] fH dH)
    (DR : DefAt K mg "_law_right" sRight ["_law_box_here"] fR dR) (GR : FnG P w K mg base CX0 4 fR dR ["_law_box_here"] spRight) : FnG P w K mg base CX0 5 f fd ["_law_script"] (spLaw K) := by
  have GH : FnOk P w K mg base CX0 1 fH dH ["_law_script", "_law_k"] (spHand K) := ok_hand DH.fn B
  refine okG F scLaw (fun vs H Q E h => ?_) (fun cdv A outer s H vs Q E gd hr h => ?_)
  · obtain ⟨a, ns, rfl, _⟩ := h
    rfl
  · obtain ⟨a, cs, rfl, hS, hlen, q⟩ := h
    have r1 := hr.mono (show 1 ≤ 4 by decide)
    refine ⟨_, pss_cons (ps_for PassesOwn.never rfl (pi_range1 (by rfl) B.range (pa_cons (pe_op op_add pe_int (pe_callB (call_min2 rfl) (by rfl) B.min (by decide +kernel) (pa_cons pe_int (pa_cons (pe_callB call_len_seq (by rfl) B.len PySem.boot_len (pa_cons (pv 0) pa_nil)) pa_nil)))) pa_nil)) (pg_name (i := 1) scLaw.nd rfl (Or.inl rfl))
        (pss_cons (ps_set (i := 2) scLaw.nd rfl (Or.inr rfl) (pe_call GH r1 (by rfl) DH.mg DH.fn.kp DH.bi .nil pass0 (pa_cons (pv 0) (pa_cons (pv 1) pa_nil))))
        (pss_one (ps_if (pt_not (pt_val (pe_callB (cr_all rfl) (by rfl) B.all (by decide +kernel) (pa_cons
          (pe_lc (own := [("_law_turn", 3)]) (g := gName 3) (tt := tYes) rfl scLaw.nd (pi_range1 (by rfl) B.range (pa_cons pe_int pa_nil)) (blkOk_by (N := nLaw) (sc := defScope sLaw) (by decide +kernel))
            (fun _ _ _ _ _ => pg_name (i := 3) scLaw.nd rfl (Or.inl rfl)) (fun _ _ _ _ _ => pts_nil)
            (fun _ _ _ _ _ => pe_callG GR gd hr (by rfl) DR.mg DR.fn.kp DR.bi .nil pass0 (pa_cons (pv 2) pa_nil))) pa_nil)))) (pss_one (ps_ret pe_bl)) pss_nil))))
      (pss_one (ps_ret pe_bl)), ?_⟩
    refine ⟨.ref a, rfl, a, _, rfl, .inl hS, 4, _, rfl, ?_⟩
    have vb : ∀ n : Int, 0 ≤ n → n ≤ 63 → 0 ≤ (if n < 4 then n else 4) ∧ (if n < 4 then n else 4) ≤ 4 := fun n _ _ => by
      split <;> omega
    have vb1 := vb ((cs.map V.int).length : Int) (by omega) (by rw [List.length_map]; omega)
    generalize (if ((cs.map V.int).length : Int) < 4 then ((cs.map V.int).length : Int) else 4) = nk at vb1 ⊢
    refine ⟨1, nk, rfl, rfl, _, rfl, by omega, by omega, ?_⟩
    refine for_range (lo := 0) (n := (1 + nk).toNat) (fun i σ H' => ∃ (y1 y2 y3 : Option V), σ = [some (.ref a), y1, y2, y3] ∧ Same H H') ⟨none, none, none, rfl, Same.refl H⟩ (fun i σ H2 hi h => ?_) (fun σ H2 h => ?_)
    · obtain ⟨y1, y2, y3, rfl, s2⟩ := h
      have e0 : (0 + ((i : Nat) : Int)) = (i : Int) := by omega
      rw [e0]
      refine ⟨.ref a, rfl, .int (i : Int), rfl, a, cs, i, rfl, s2.seq hS, by omega, fun H3 p s3 np hp => ?_⟩
      have npH : H p = none := s2.free np
      have s03 := s2.trans s3
      refine ⟨6, rfl, by decide, by decide, fun D nD => ?_⟩
      have hDp := pail_ne hp nD
      have nDH : H D = none := s03.free nD
      refine lc_range (lo := 0) (n := 6) (fun j H' => ∃ t : Nat, Same H H' ∧ PailAt H' p t ∧ t ≤ 70 * j ∧ H' D = some (.lst (List.replicate j (V.bl true)))) ⟨0, s03.trans (same_upd nD), pail_new hp nD, Nat.le_refl _, upd_same⟩ (fun j H4 hj h => ?_) fun H4 h => ?_
      · obtain ⟨t, s4, hp4, ht4, eD⟩ := h
        refine ⟨rfl, tt_yes ⟨.ref p, rfl, p, t, rfl, hp4, by omega, fun H5 t5 hp5 ht5 b5 => ?_⟩⟩
        refine ⟨_, b5 _ _ eD hDp, ?_, t5, ?_, pail_set hp5 hDp, by omega, ?_⟩
        · rw [List.length_replicate]; exact few1 (by omega)
        · exact fun b o e => by rw [upd_ne (ne_of_none e nDH)]; exact (same_but s4 npH b5) b o e
        · rw [upd_same, rep_next]
      · obtain ⟨t, s4, hp4, ht4, eD⟩ := h
        rw [rep_bl] at eD
        refine ⟨D, _, rfl, lstNew eD, ?_⟩
        rw [all_true]
        refine ⟨true, rfl, iteF ?_⟩
        exact ⟨_, _, _, rfl, s4⟩
    · exact q H2
end
end K29
set_option maxHeartbeats 4000000
namespace K29
open PySem PySem.Spec PyProof.Rows L2 RV
theorem def_mk {K : PySem.W.Frag} {h : Heap} {mg : Str → Option Value} {x : Str} {st : Stmt} {ps : List Str} {f : Addr} {oc : Value} {od an : Option Addr} {sl : Array (Option Value)} {kV dc pm cd ct : Value} (X : K.In h) (G : h.Ns mainGlobals mg)
    (a : PySem.W.nsIn K mainGlobals x = some (some (.ref f))) (l : K.lookup f = some ⟨oc, od, .func (PySem.W.fnOf x x (defArgs st) (defBody st) (defScope st) .none kV dc pm an cd ct), sl⟩) (c : PySem.W.codeIn K cd x = true) (k : PySem.W.keepIn K (.ref f) = true)
    (hb : ∀ (kV doc pm : Value) (an : Option Addr) (cdv ct : Value) (us : List Value), us.length = ps.length → bindArgs (PySem.W.fnOf x x (defArgs st) (defBody st) (defScope st) .none kV doc pm an cdv ct) ⟨us, []⟩ = pure (ps.zip us)) :
    DefAt K mg x st ps f (PySem.W.fnOf x x (defArgs st) (defBody st) (defScope st) .none kV dc pm an cd ct) :=
  let F := fun_mk (st := st) l c k
  ⟨F, F.binds hb, PySem.W.mg_of X G a⟩
theorem all_mk {l : PySem.W.OpenLaw} {w : World} {K : PySem.W.Frag} {h : Heap} {mg : Str → Option Value} {fa  f1 f2 f3 f4 f5 f6 f7 f8 f9 f10 : Addr} (X : K.In h) (G : h.Ns mainGlobals mg) (hfa : mg "law" = some (.ref fa))
    {od1 an1 od2 an2 od3 an3 od4 an4 od5 an5 od6 an6 od7 an7 od8 an8 od9 an9 od10 an10 : Option Addr} {sl1 sl2 sl3 sl4 sl5 sl6 sl7 sl8 sl9 sl10 : Array (Option Value)}
    {oc1 kV1 dc1 pm1 cd1 ct1 oc2 kV2 dc2 pm2 cd2 ct2 oc3 kV3 dc3 pm3 cd3 ct3 oc4 kV4 dc4 pm4 cd4 ct4 oc5 kV5 dc5 pm5 cd5 ct5 oc6 kV6 dc6 pm6 cd6 ct6 oc7 kV7 dc7 pm7 cd7 ct7 oc8 kV8 dc8 pm8 cd8 ct8 oc9 kV9 dc9 pm9 cd9 ct9 oc10 kV10 dc10 pm10 cd10 ct10 : Value}
    (a1 : PySem.W.nsIn K mainGlobals "borders" = some (some (.ref f1)))
    (l1 : K.lookup f1 = some ⟨oc1, od1, .func (PySem.W.fnOf "borders" "borders" (defArgs sBorders) (defBody sBorders) (defScope sBorders) .none kV1 dc1 pm1 an1 cd1 ct1), sl1⟩)
    (c1 : PySem.W.codeIn K cd1 "borders" = true)
    (k1 : PySem.W.keepIn K (.ref f1) = true)
    (a2 : PySem.W.nsIn K mainGlobals "least_period" = some (some (.ref f2)))
    (l2 : K.lookup f2 = some ⟨oc2, od2, .func (PySem.W.fnOf "least_period" "least_period" (defArgs sLeastP) (defBody sLeastP) (defScope sLeastP) .none kV2 dc2 pm2 an2 cd2 ct2), sl2⟩)
    (c2 : PySem.W.codeIn K cd2 "least_period" = true)
    (k2 : PySem.W.keepIn K (.ref f2) = true)
    (a3 : PySem.W.nsIn K mainGlobals "least_turn" = some (some (.ref f3)))
    (l3 : K.lookup f3 = some ⟨oc3, od3, .func (PySem.W.fnOf "least_turn" "least_turn" (defArgs sLeastT) (defBody sLeastT) (defScope sLeastT) .none kV3 dc3 pm3 an3 cd3 ct3), sl3⟩)
    (c3 : PySem.W.codeIn K cd3 "least_turn" = true)
    (k3 : PySem.W.keepIn K (.ref f3) = true)
    (a4 : PySem.W.nsIn K mainGlobals "_law_box" = some (some (.ref f4)))
    (l4 : K.lookup f4 = some ⟨oc4, od4, .func (PySem.W.fnOf "_law_box" "_law_box" (defArgs sHand) (defBody sHand) (defScope sHand) .none kV4 dc4 pm4 an4 cd4 ct4), sl4⟩)
    (c4 : PySem.W.codeIn K cd4 "_law_box" = true)
    (k4 : PySem.W.keepIn K (.ref f4) = true)
    (a5 : PySem.W.nsIn K mainGlobals "_law_take" = some (some (.ref f5)))
    (l5 : K.lookup f5 = some ⟨oc5, od5, .func (PySem.W.fnOf "_law_take" "_law_take" (defArgs sDraw) (defBody sDraw) (defScope sDraw) .none kV5 dc5 pm5 an5 cd5 ct5), sl5⟩)
    (c5 : PySem.W.codeIn K cd5 "_law_take" = true)
    (k5 : PySem.W.keepIn K (.ref f5) = true)
    (a6 : PySem.W.nsIn K mainGlobals "_law_of" = some (some (.ref f6)))
    (l6 : K.lookup f6 = some ⟨oc6, od6, .func (PySem.W.fnOf "_law_of" "_law_of" (defArgs sOf) (defBody sOf) (defScope sOf) .none kV6 dc6 pm6 an6 cd6 ct6), sl6⟩)
    (c6 : PySem.W.codeIn K cd6 "_law_of" = true)
    (k6 : PySem.W.keepIn K (.ref f6) = true)
    (a7 : PySem.W.nsIn K mainGlobals "_law_row" = some (some (.ref f7)))
    (l7 : K.lookup f7 = some ⟨oc7, od7, .func (PySem.W.fnOf "_law_row" "_law_row" (defArgs sRow) (defBody sRow) (defScope sRow) .none kV7 dc7 pm7 an7 cd7 ct7), sl7⟩)
    (c7 : PySem.W.codeIn K cd7 "_law_row" = true)
    (k7 : PySem.W.keepIn K (.ref f7) = true)
    (a8 : PySem.W.nsIn K mainGlobals "_law_period" = some (some (.ref f8)))
    (l8 : K.lookup f8 = some ⟨oc8, od8, .func (PySem.W.fnOf "_law_period" "_law_period" (defArgs sLPeriod) (defBody sLPeriod) (defScope sLPeriod) .none kV8 dc8 pm8 an8 cd8 ct8), sl8⟩)
    (c8 : PySem.W.codeIn K cd8 "_law_period" = true)
    (k8 : PySem.W.keepIn K (.ref f8) = true)
    (a9 : PySem.W.nsIn K mainGlobals "_law_right" = some (some (.ref f9)))
    (l9 : K.lookup f9 = some ⟨oc9, od9, .func (PySem.W.fnOf "_law_right" "_law_right" (defArgs sRight) (defBody sRight) (defScope sRight) .none kV9 dc9 pm9 an9 cd9 ct9), sl9⟩)
    (c9 : PySem.W.codeIn K cd9 "_law_right" = true)
    (k9 : PySem.W.keepIn K (.ref f9) = true)
    (a10 : PySem.W.nsIn K mainGlobals "law" = some (some (.ref f10)))
    (l10 : K.lookup f10 = some ⟨oc10, od10, .func (PySem.W.fnOf "law" "law" (defArgs sLaw) (defBody sLaw) (defScope sLaw) .none kV10 dc10 pm10 an10 cd10 ct10), sl10⟩)
    (c10 : PySem.W.codeIn K cd10 "law" = true)
    (k10 : PySem.W.keepIn K (.ref f10) = true)
    (z0 : PySem.W.nsIn K mainGlobals "len" = some none)
    (z1 : PySem.W.nsIn K mainGlobals "isinstance" = some none)
    (z2 : PySem.W.nsIn K mainGlobals "int" = some none)
    (z3 : PySem.W.nsIn K mainGlobals "bool" = some none)
    (z4 : PySem.W.nsIn K mainGlobals "tuple" = some none)
    (z5 : PySem.W.nsIn K mainGlobals "all" = some none)
    (z6 : PySem.W.nsIn K mainGlobals "enumerate" = some none)
    (z7 : PySem.W.nsIn K mainGlobals "zip" = some none)
    (z8 : PySem.W.nsIn K mainGlobals "range" = some none)
    (z9 : PySem.W.nsIn K mainGlobals "list" = some none)
    (z10 : PySem.W.nsIn K mainGlobals "set" = some none)
    (z11 : PySem.W.nsIn K mainGlobals "sorted" = some none)
    (z12 : PySem.W.nsIn K mainGlobals "abs" = some none)
    (z13 : PySem.W.nsIn K mainGlobals "max" = some none)
    (z14 : PySem.W.nsIn K mainGlobals "min" = some none)
    (z15 : PySem.W.nsIn K mainGlobals "repr" = some none)
    (z16 : PySem.W.nsIn K mainGlobals "dict" = some none) :
    ∃ fd : FuncData, (∀ (s : Shared) (v : Value), BindsTo s fd ⟨[v], []⟩ [("_law_script", v)]) ∧ ∀ base : Heap, K.In base → base.Ns mainGlobals mg → FnG l.prog w K mg base CX0 5 fa fd ["_law_script"] (spLaw K) := by
  have e := hfa.symm.trans (PySem.W.mg_of X G a10)
  cases e
  have B : Bare mg := ⟨PySem.W.mg_none_of X G z0, PySem.W.mg_none_of X G z1, PySem.W.mg_none_of X G z2, PySem.W.mg_none_of X G z3, PySem.W.mg_none_of X G z4, PySem.W.mg_none_of X G z5, PySem.W.mg_none_of X G z6, PySem.W.mg_none_of X G z7, PySem.W.mg_none_of X G z8, PySem.W.mg_none_of X G z9, PySem.W.mg_none_of X G z10, PySem.W.mg_none_of X G z11, PySem.W.mg_none_of X G z12, PySem.W.mg_none_of X G z13, PySem.W.mg_none_of X G z14, PySem.W.mg_none_of X G z15, PySem.W.mg_none_of X G z16⟩
  have D1 := def_mk (st := sBorders) (ps := ["marks"]) X G a1 l1 c1 k1 fun _ _ _ _ _ _ us hl => match us, hl with | [_], _ => rfl
  have D2 := def_mk (st := sLeastP) (ps := ["marks"]) X G a2 l2 c2 k2 fun _ _ _ _ _ _ us hl => match us, hl with | [_], _ => rfl
  have D3 := def_mk (st := sLeastT) (ps := ["marks"]) X G a3 l3 c3 k3 fun _ _ _ _ _ _ us hl => match us, hl with | [_], _ => rfl
  have D4 := def_mk (st := sHand) (ps := ["_law_script", "_law_k"]) X G a4 l4 c4 k4 fun _ _ _ _ _ _ us hl => match us, hl with | [_, _], _ => rfl
  have D5 := def_mk (st := sDraw) (ps := ["_law_box_here", "_law_many"]) X G a5 l5 c5 k5 fun _ _ _ _ _ _ us hl => match us, hl with | [_, _], _ => rfl
  have D6 := def_mk (st := sOf) (ps := ["_law_box_here", "_law_some"]) X G a6 l6 c6 k6 fun _ _ _ _ _ _ us hl => match us, hl with | [_, _], _ => rfl
  have D7 := def_mk (st := sRow) (ps := ["_law_box_here"]) X G a7 l7 c7 k7 fun _ _ _ _ _ _ us hl => match us, hl with | [_], _ => rfl
  have D8 := def_mk (st := sLPeriod) (ps := ["_law_row_here"]) X G a8 l8 c8 k8 fun _ _ _ _ _ _ us hl => match us, hl with | [_], _ => rfl
  have D9 := def_mk (st := sRight) (ps := ["_law_box_here"]) X G a9 l9 c9 k9 fun _ _ _ _ _ _ us hl => match us, hl with | [_], _ => rfl
  have F10 := fun_mk (st := sLaw) l10 c10 k10
  have GR : ∀ base, FnG l.prog w K mg base CX0 4 f9 _ ["_law_box_here"] spRight := fun base => ok_right D9.fn B D1 D2 D3 D5 D6 D7 D8
  refine ⟨PySem.W.fnOf "law" "law" (defArgs sLaw) (defBody sLaw) (defScope sLaw) .none kV10 dc10 pm10 an10 cd10 ct10, fun s v => .of_eq rfl, fun base _ _ => ?_⟩
  exact ok_law F10 B D4 D9 (GR base)
end K29
open PySem PySem.W PyProof.Rows
set_option maxRecDepth 100000 in
set_option maxHeartbeats 0 in
theorem PySem.Challenge.cw_ringvouch_k29_least_periods_and_turns_holds : PySem.Challenge.rw_ringvouch_k29_least_periods_and_turns.Holds := by
  w_on; o_law; k_head; (case hw => w_witness2)
  k_fill
  refine RV.walk_G (l := PySem.Challenge.rw_ringvouch_k29_least_periods_and_turns) (n := 63) (k := 5) (x := "_law_script") (sp := fun w => K29.spLaw _) rfl (by decide) rfl ⟨rfl, by decide, by decide⟩ (fun w h Y => PySem.W.kIn_of Y) ?F (fun _ _ a ns hl _ hS => ⟨a, ns, rfl, hS, hl, fun _ => rfl⟩)
  case F =>
    intro w mg fa h KX G hmg
    refine' K29.all_mk KX G hmg ?a1 ?l1 ?c1 ?k1 ?a2 ?l2 ?c2 ?k2 ?a3 ?l3 ?c3 ?k3 ?a4 ?l4 ?c4 ?k4 ?a5 ?l5 ?c5 ?k5 ?a6 ?l6 ?c6 ?k6 ?a7 ?l7 ?c7 ?k7 ?a8 ?l8 ?c8 ?k8 ?a9 ?l9 ?c9 ?k9 ?a10 ?l10 ?c10 ?k10 ?z0 ?z1 ?z2 ?z3 ?z4 ?z5 ?z6 ?z7 ?z8 ?z9 ?z10 ?z11 ?z12 ?z13 ?z14 ?z15 ?z16
    (case a1 => k_is)
    (case l1 => k_is)
    (case c1 => k_is)
    (case k1 => k_is)
    (case a2 => k_is)
    (case l2 => k_is)
    (case c2 => k_is)
    (case k2 => k_is)
    (case a3 => k_is)
    (case l3 => k_is)
    (case c3 => k_is)
    (case k3 => k_is)
    (case a4 => k_is)
    (case l4 => k_is)
    (case c4 => k_is)
    (case k4 => k_is)
    (case a5 => k_is)
    (case l5 => k_is)
    (case c5 => k_is)
    (case k5 => k_is)
    (case a6 => k_is)
    (case l6 => k_is)
    (case c6 => k_is)
    (case k6 => k_is)
    (case a7 => k_is)
    (case l7 => k_is)
    (case c7 => k_is)
    (case k7 => k_is)
    (case a8 => k_is)
    (case l8 => k_is)
    (case c8 => k_is)
    (case k8 => k_is)
    (case a9 => k_is)
    (case l9 => k_is)
    (case c9 => k_is)
    (case k9 => k_is)
    (case a10 => k_is)
    (case l10 => k_is)
    (case c10 => k_is)
    (case k10 => k_is)
    (case z0 => k_is)
    (case z1 => k_is)
    (case z2 => k_is)
    (case z3 => k_is)
    (case z4 => k_is)
    (case z5 => k_is)
    (case z6 => k_is)
    (case z7 => k_is)
    (case z8 => k_is)
    (case z9 => k_is)
    (case z10 => k_is)
    (case z11 => k_is)
    (case z12 => k_is)
    (case z13 => k_is)
    (case z14 => k_is)
    (case z15 => k_is)
    (case z16 => k_is)
